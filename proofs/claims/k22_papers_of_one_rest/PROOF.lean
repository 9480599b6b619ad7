import PyProof.Rows.All
import Wide.All
import OpenK.AllK
import Wide.FinOn
import Lean
import PyProof.EqAt
import PyProof.EqKinds
import PyProof.TupleCall
import PyProof.NeKinds
import KE.KTabLook
import KE.KIntText
import KE.KUnpack
import PyProof.StrBlock2
import KE.KLam
import PyProof.Rows.SortShellK
import PyProof.Rows.SortKeyStr
import KE.KDictSum
import KE.KItemsList
import PyProof.Rows.SortStr
import KE.KDictLaws
import PyProof.DictWalks
import PyProof.Rows.StrInSeq3
import PyProof.FactsAll.list_1
import PyProof.ZipIter
import PyProof.Draws
import PyProof.AttrMissHeap
import PyProof.DictUpdate
import PyProof.ListNew
import PyProof.FactsAll.dict_1
import PyProof.Rows.DictSet
import PyProof.ForAppend
import KE.KRevSl
import PyProof.Rows.StrNews
import PyProof.StrLawsTight
import KE.KRevIter
import PyProof.ListRange
import PyProof.DictItemsLoops
import PyProof.CompUse
import PyProof.EnumMake
import PyProof.Rows.CallKwBuiltin
import OpenK.KMore
import PyProof.Rows.SeqIn
import KE.KSortTup
import KE.KDictList
import PyProof.PureStr
import PyProof.FitsStr
import KE.KEqDict
import PySem.Challenge.RW_anydelay_k22_papers_of_one_rest
import KE.BitLaws
set_option linter.all false
set_option maxRecDepth 100000
set_option Elab.async false
abbrev Qa:=@List.length_map
abbrev Qb:=@PySem.wpAny_bind
abbrev Qc:=@List.getElem?_eq_getElem
abbrev Qd:=@PySem.Heap.get?_push_of_some
abbrev Qe:=@List.getElem?_eq_some_iff
abbrev Qf:=@PySem.wpAny_pure
abbrev Qg:=@Nat.le_refl
abbrev Qh:=@List.getElem?_map
abbrev Qi:=@List.mem_of_getElem?
abbrev Qj:=@List.length_append
abbrev Qk:=@List.mem_map
abbrev Ql:=@List.size_toArray
abbrev Qm:=@PySem.Heap.lt_size
abbrev Qn:=@Bool.false_ne_true
abbrev Qo:=@Array.length_toList
abbrev Qp:=@PySem.Heap.get?_push_size
abbrev Qq:=@List.mem_iff_getElem
abbrev Qr:=@List.map_append
abbrev Qs:=@List.length_take
abbrev Qt:=@List.take_of_length_le
abbrev Qu:=@PyProof.Rows.wpS_bind
abbrev Qv:=@List.mem_append
abbrev Qw:=@List.mem_cons_of_mem
abbrev Qx:=@PyProof.Rows.wpS_pure
abbrev Qy:=@Array.getElem?_toList
abbrev Qz:=@Nat.ne_of_lt
abbrev QA:=@List.mem_singleton
abbrev QB:=@if_neg
abbrev QC:=@Nat.lt_of_lt_of_le
abbrev QE:=@List.getElem?_append_right
abbrev QF:=@if_pos
abbrev QG:=@List.getElem?_append_left
abbrev QH:=@PySem.boot_len
abbrev QI:=@List.map_cons
abbrev QJ:=@Array.toList_append
abbrev QK:=@List.all_eq_true
abbrev QL:=@List.getD_eq_getElem?_getD
abbrev QM:=@PySem.F.plainAttrs_list
abbrev QN:=@Nat.zero_le
abbrev QO:=@List.mem_append_right
abbrev QP:=@List.take_succ
abbrev QQ:=@List.length_cons
abbrev QR:=@PySem.F.slot_list_append
abbrev QS:=@PySem.F.type_list_append
abbrev QT:=@Bool.false_eq_true
abbrev QU:=@decide_eq_false
abbrev QV:=@List.mem_cons
abbrev QW:=@List.map_map
abbrev QX:=@PySem.W.mg_none_of
abbrev QY:=@PyProof.Rows.boot_isinstance
abbrev QZ:=@List.take_append_drop
abbrev Q0:=@Nat.le_trans
abbrev Q2:=@Option.some.inj
abbrev Q3:=@PySem.wpAny_holding
abbrev Q4:=@List.length_drop
abbrev Q5:=@List.nodup_cons
abbrev Q6:=@Array.getElem?_eq_getElem
abbrev Q7:=@decide_eq_true
abbrev Q8:=@List.lookup_cons
abbrev Q9:=@Array.getElem?_eq_some_iff
abbrev Xa:=@List.eq_nil_of_length_eq_zero
abbrev Xb:=@List.append_assoc
abbrev Xc:=@List.getElem?_eq_none
abbrev Xd:=@PySem.Heap.size_push
abbrev Xe:=@PyProof.Rows.callWith_type1
abbrev Xf:=@PySem.Heap.get?_update_other
abbrev Xg:=@List.pairwise_append
abbrev Xh:=@PySem.Around.under_plainId
abbrev Xi:=@Bool.eq_false_iff
abbrev Xj:=@List.mem_cons_self
abbrev Xk:=@PySem.wpAny_setField_rec
abbrev Xl:=@Bool.and_eq_true
abbrev Xm:=@PySem.wpAny_mono
abbrev Xo:=@PySem.wpAny_field
abbrev Xp:=@PySem.codeAny_builtin
abbrev Xq:=@List.getElem_mem
abbrev Xr:=@List.length_eq_zero_iff
abbrev Xs:=@PyProof.Rows.wpS_forRange
abbrev Xu:=@PyProof.Rows.boot_list
abbrev Xv:=@Nat.le_of_lt
abbrev Xw:=@Int.toNat_natCast
abbrev Xx:=@Array.size_append
abbrev Xy:=@List.nodup_append
abbrev Xz:=@Nat.add_sub_cancel_left
abbrev XA:=@Nat.lt_of_le_of_lt
abbrev XB:=@Option.toList_some
abbrev XC:=@PySem.W.kia_one
abbrev XD:=@PySem.wpAny_call_entry
abbrev XE:=@PySem.Heap.SameBut.update
abbrev XF:=@Ne.symm
abbrev XG:=@PySem.sizeLine_eq
abbrev XH:=@PySem.Heap.get?_update_self
abbrev XI:=@PySem.builtinLookup_eq_fast
abbrev XJ:=@List.append_nil
abbrev XM:=@PyProof.Rows.KeyOrd.kle_refl
abbrev XN:=@List.getElem?_drop
abbrev XO:=@PySem.wpAny_rule
abbrev XQ:=@PySem.Obj.data_mapFields
abbrev XR:=@decide_eq_true_iff
abbrev XS:=@PySem.wpAny_callSpecial?_slot
local macro_rules|`(tactic|walk_at "z")=>`(tactic|first|exact .inl rfl|exact .inr rfl|assumption)
noncomputable section
namespace L2
open PySem
def dR (s:Stmt):Arguments:=match s with
 | .FunctionDef _ a _ _ _ _ _ _ _ _=>a
 | _=>{ posonlyargs:=[],args:=[],vararg:=none,kwonlyargs:=[],kw_defaults:=[],kwarg:=none,defaults:=[] }
def cQ (s:Stmt):List Stmt:=match s with
 | .FunctionDef _ _ b _ _ _ _ _ _ _=>b
 | _=>[]
def aA (s:Stmt):Scope:=match s with
 | .FunctionDef _ _ _ _ _ _ sc _ _ _=>sc
 | _=>{ kind:=.function,names:=[],isGenerator:=false,isCoroutine:=false }
end L2
namespace K2
open PySem L2 PySem.W
def top (i:Nat):Stmt:=PySem.Challenge.pw_anydelay_k22_papers_of_one_rest.main.body.getD i (.Pass ⟨0,0,0,0⟩)
noncomputable def kC (n:Str) (t:Nat) (l a fl:Int) (r:Addr) (x y:Value) (z:Addr) (u:Nat):Obj:={ cls:=.type "code", data:=.fields #[.str n t,.str n (t+1),.str "/claim/cut.py" (t+2),.int l 0,.int a 0,.int 0 0,.int 0 0,.int 3 0,.ref r,.bool true,.int fl 0,.ref (r+1),.none,x,y,.ref z,.int u 0,.int l 0,.str "/claim/cut.py" (u+1)] }
noncomputable def kF (n:Str) (i:Nat) (m:Str) (t:Nat) (c:Addr):Obj:={ cls:=.type "function", data:=.func { name:=n,qualname:=n,params:=dR (top i),body:=.stmts (cQ (top i)),scope:=aA (top i),globals:=3,closure:=[],defaults:=.none,kwdefaults:=.none,pyModule:=.str m t,code:=.ref c } }
def kE (P:Params) (x:Str) (t:Nat) (v:Value):DictEntry:={ hash:=PyData.keyHash P x,key:=.str x t,val:=v }
noncomputable def KF (P:Params):Frag:=[(3,{ cls:=.type "dict", data:=.dict #[kE P "__name__" 165 (.str "law_anydelay_k22_papers_of_one_rest" 431),kE P "__doc__" 166 .none,kE P "__package__" 167 .none,kE P "__loader__" 168 (.builtin "__main__.__loader__#opaque"),kE P "__spec__" 169 .none,kE P "__annotations__" 170 (.ref 6),kE P "__builtins__" 171 (.ref 4),kE P "__file__" 173 (.str "/claim/cut.py" 172),kE P "__cached__" 174 .none,kE P "NetError" 206 (.ref 24),kE P "NoStanding" 222 (.ref 37),kE P "TURNED" 231 (.ref 40),kE P "is_pair" 238 (.ref 47),kE P "is_whole" 245 (.ref 54),kE P "is_row" 251 (.ref 59),kE P "gates_of" 257 (.ref 64),kE P "wires_of" 264 (.ref 71),kE P "is_standing" 272 (.ref 78),kE P "check_standing" 280 (.ref 85),kE P "rule_holds" 289 (.ref 92),kE P "rule_worth" 297 (.ref 99),kE P "signs_in" 305 (.ref 106),kE P "turned_at" 313 (.ref 113),kE P "steps_from" 325 (.ref 120),kE P "found_from" 342 (.ref 127),kE P "steps_found" 351 (.ref 134),kE P "rests_in" 357 (.ref 139),kE P "is_paper" 365 (.ref 144),kE P "is_closed" 371 (.ref 149),kE P "standings_ahead" 379 (.ref 154),kE P "most_switchings" 385 (.ref 159),kE P "one_rest" 395 (.ref 166),kE P "rest_paper" 405 (.ref 173),kE P "is_numbered" 412 (.ref 180),kE P "is_rest_paper" 418 (.ref 185),kE P "is_falling" 424 (.ref 190),kE P "rest_shows" 430 (.ref 195),kE P "_law_draws" 446 (.ref 202),kE P "_law_names" 452 (.ref 207),kE P "_law_rule" 465 (.ref 214),kE P "_law_held" 474 (.ref 221),kE P "_law_known" 480 (.ref 226),kE P "_law_deeper" 494 (.ref 233),kE P "_law_net" 512 (.ref 240),kE P "_law_standing" 518 (.ref 245),kE P "_law_holds" 528 (.ref 252),kE P "_law_asked" 534 (.ref 257),kE P "_law_ways" 540 (.ref 262),kE P "_law_levels" 554 (.ref 269),kE P "_law_one" 560 (.ref 274),kE P "_law_shows" 566 (.ref 279),kE P "_law_copy" 573 (.ref 286),kE P "law" 589 (.ref 293)] 53 }),
 (40,{ cls:=.type "dict", data:=.dict #[kE P "0" 225 (.str "1" 226),kE P "1" 227 (.str "0" 228)] 2 }),
 (46,kC "is_pair" 232 8 1 181 41 (.ref 43) (.ref 44) 45 236),
 (47,kF "is_pair" 5 "anydelay.nets" 223 46),
 (53,kC "is_whole" 239 10 1 181 48 (.ref 50) (.ref 51) 52 243),
 (54,kF "is_whole" 6 "anydelay.nets" 223 53),
 (58,kC "is_row" 246 12 2 181 55 .none .none 57 249),
 (59,kF "is_row" 7 "anydelay.nets" 223 58),
 (63,kC "gates_of" 252 16 1 181 60 .none .none 62 255),
 (64,kF "gates_of" 8 "anydelay.nets" 223 63),
 (70,kC "wires_of" 258 18 1 181 65 (.ref 67) (.ref 68) 69 262),
 (71,kF "wires_of" 9 "anydelay.nets" 223 70),
 (77,kC "is_standing" 265 20 2 181 72 (.ref 74) (.ref 75) 76 270),
 (78,kF "is_standing" 10 "anydelay.nets" 223 77),
 (84,kC "check_standing" 273 22 2 181 79 (.ref 81) (.ref 82) 83 278),
 (85,kF "check_standing" 11 "anydelay.nets" 223 84),
 (91,kC "rule_holds" 281 25 2 181 86 (.ref 88) (.ref 89) 90 287),
 (92,kF "rule_holds" 12 "anydelay.nets" 223 91),
 (98,kC "rule_worth" 290 34 2 181 93 (.ref 95) (.ref 96) 97 295),
 (99,kF "rule_worth" 13 "anydelay.nets" 223 98),
 (105,kC "signs_in" 298 36 2 181 100 (.ref 102) (.ref 103) 104 303),
 (106,kF "signs_in" 14 "anydelay.nets" 223 105),
 (112,kC "turned_at" 306 38 2 181 107 (.ref 109) (.ref 110) 111 311),
 (113,kF "turned_at" 15 "anydelay.nets" 223 112),
 (119,kC "steps_from" 314 40 2 181 114 (.ref 116) (.ref 117) 118 323),
 (120,kF "steps_from" 16 "anydelay.nets" 223 119),
 (126,kC "found_from" 328 48 2 181 121 (.ref 123) (.ref 124) 125 340),
 (127,kF "found_from" 18 "anydelay.orders" 326 126),
 (133,kC "steps_found" 343 63 2 181 128 (.ref 130) (.ref 131) 132 349),
 (134,kF "steps_found" 19 "anydelay.orders" 326 133),
 (138,kC "rests_in" 352 65 1 181 135 .none .none 137 355),
 (139,kF "rests_in" 20 "anydelay.orders" 326 138),
 (143,kC "is_paper" 360 68 2 181 140 .none .none 142 363),
 (144,kF "is_paper" 22 "anydelay.races" 358 143),
 (148,kC "is_closed" 366 72 1 181 145 .none .none 147 369),
 (149,kF "is_closed" 23 "anydelay.races" 358 148),
 (153,kC "standings_ahead" 374 78 1 181 150 .none .none 152 377),
 (154,kF "standings_ahead" 25 "anydelay.onerest" 372 153),
 (158,kC "most_switchings" 380 84 1 181 155 .none .none 157 383),
 (159,kF "most_switchings" 26 "anydelay.onerest" 372 158),
 (165,kC "one_rest" 386 99 2 181 160 (.ref 162) (.ref 163) 164 393),
 (166,kF "one_rest" 27 "anydelay.onerest" 372 165),
 (172,kC "rest_paper" 396 106 2 181 167 (.ref 169) (.ref 170) 171 403),
 (173,kF "rest_paper" 28 "anydelay.onerest" 372 172),
 (179,kC "is_numbered" 406 113 1 181 174 (.ref 176) (.ref 177) 178 410),
 (180,kF "is_numbered" 29 "anydelay.onerest" 372 179),
 (184,kC "is_rest_paper" 413 115 2 181 181 .none .none 183 416),
 (185,kF "is_rest_paper" 30 "anydelay.onerest" 372 184),
 (189,kC "is_falling" 419 119 2 181 186 .none .none 188 422),
 (190,kF "is_falling" 31 "anydelay.onerest" 372 189),
 (194,kC "rest_shows" 425 124 4 181 191 .none .none 193 428),
 (195,kF "rest_shows" 32 "anydelay.onerest" 372 194),
 (201,kC "_law_draws" 433 134 2 181 196 (.ref 198) (.ref 199) 200 444),
 (202,kF "_law_draws" 34 "law_anydelay_k22_papers_of_one_rest" 431 201),
 (206,kC "_law_names" 447 157 2 181 203 .none .none 205 450),
 (207,kF "_law_names" 35 "law_anydelay_k22_papers_of_one_rest" 431 206),
 (213,kC "_law_rule" 453 179 4 181 208 (.ref 210) (.ref 211) 212 463),
 (214,kF "_law_rule" 36 "law_anydelay_k22_papers_of_one_rest" 431 213),
 (220,kC "_law_held" 466 189 3 181 215 (.ref 217) (.ref 218) 219 472),
 (221,kF "_law_held" 37 "law_anydelay_k22_papers_of_one_rest" 431 220),
 (225,kC "_law_known" 475 191 3 181 222 .none .none 224 478),
 (226,kF "_law_known" 38 "law_anydelay_k22_papers_of_one_rest" 431 225),
 (232,kC "_law_deeper" 481 206 4 181 227 (.ref 229) (.ref 230) 231 492),
 (233,kF "_law_deeper" 39 "law_anydelay_k22_papers_of_one_rest" 431 232),
 (239,kC "_law_net" 495 214 2 181 234 (.ref 236) (.ref 237) 238 510),
 (240,kF "_law_net" 40 "law_anydelay_k22_papers_of_one_rest" 431 239),
 (244,kC "_law_standing" 513 235 2 181 241 .none .none 243 516),
 (245,kF "_law_standing" 41 "law_anydelay_k22_papers_of_one_rest" 431 244),
 (251,kC "_law_holds" 519 237 2 181 246 (.ref 248) (.ref 249) 250 526),
 (252,kF "_law_holds" 42 "law_anydelay_k22_papers_of_one_rest" 431 251),
 (256,kC "_law_asked" 529 247 2 181 253 .none .none 255 532),
 (257,kF "_law_asked" 43 "law_anydelay_k22_papers_of_one_rest" 431 256),
 (261,kC "_law_ways" 535 257 2 181 258 .none .none 260 538),
 (262,kF "_law_ways" 44 "law_anydelay_k22_papers_of_one_rest" 431 261),
 (268,kC "_law_levels" 541 266 2 181 263 (.ref 265) (.ref 266) 267 552),
 (269,kF "_law_levels" 45 "law_anydelay_k22_papers_of_one_rest" 431 268),
 (273,kC "_law_one" 555 279 2 181 270 .none .none 272 558),
 (274,kF "_law_one" 46 "law_anydelay_k22_papers_of_one_rest" 431 273),
 (278,kC "_law_shows" 561 284 4 181 275 .none .none 277 564),
 (279,kF "_law_shows" 47 "law_anydelay_k22_papers_of_one_rest" 431 278),
 (285,kC "_law_copy" 567 298 1 181 280 (.ref 282) (.ref 283) 284 571),
 (286,kF "_law_copy" 48 "law_anydelay_k22_papers_of_one_rest" 431 285),
 (292,kC "law" 574 300 1 181 287 (.ref 289) (.ref 290) 291 587),
 (293,kF "law" 49 "law_anydelay_k22_papers_of_one_rest" 431 292)]
noncomputable def hk:Hook:=kmHook KF [3,40,46,47,53,54,58,59,63,64,70,71,77,78,84,85,91,92,98,99,105,106,112,113,119,120,126,127,133,134,138,139,143,144,148,149,153,154,158,159,165,166,172,173,179,180,184,185,189,190,194,195,201,202,206,207,213,214,220,221,225,226,232,233,239,240,244,245,251,252,256,257,261,262,268,269,273,274,278,279,285,286,292,293] (λ_=>rfl) [129]
noncomputable def vw:Program:={ PySem.Challenge.pw_anydelay_k22_papers_of_one_rest with main:={ PySem.Challenge.pw_anydelay_k22_papers_of_one_rest.main with body:=[1,2,4,5,6,7,8,9,10,11,12,13,14,15,16,18,19,20,22,23,25,26,27,28,29,30,31,32,34,35,36,37,38,39,40,41,42,43,44,45,46,47,48,49].map top } }
def LW (w:World):Prop:=(openEnds treeTable PySem.Challenge.rw_anydelay_k22_papers_of_one_rest.prog w 3548).map (λs=>(openSeen vw [("TURNED" : Str)] (importedModules PySem.Challenge.rw_anydelay_k22_papers_of_one_rest.prog.main.body) (λs=>xlAt vw [] s&&recOk (RowW.records PySem.Challenge.rw_anydelay_k22_papers_of_one_rest.row.toRowW) s) true s,Hook.obs hk s))=some (openGood vw [("TURNED" : Str)],Hook.val hk w)
set_option maxHeartbeats 0 in
theorem Dc:∀w:World,LW (w.withFollow "special-get-raises" false):=λw=>by unfold LW;kernel_rfl
set_option maxHeartbeats 0 in
theorem Db:∀w:World,LW (w.withFollow "special-get-raises" true):=λw=>by unfold LW;kernel_rfl
theorem left:LeftO PySem.Challenge.rw_anydelay_k22_papers_of_one_rest.prog vw [("TURNED" : Str)] (λs=>xlAt vw [] s&&recOk (RowW.records PySem.Challenge.rw_anydelay_k22_papers_of_one_rest.row.toRowW) s) (Hook.obs hk) (Hook.val hk) 3548:=λw=>byRow2 (P:=LW) "special-get-raises" Dc Db w
end K2
section
variable {a b c d e f g h i j k l m n x r lo:Nat}
local macro_rules | `(tactic| walk_at "so") => `(tactic| (intros; first | solve_by_elim (maxDepth := 3) [Xv, QC, XA, Q0, Nat.lt_of_not_ge, Nat.lt_of_not_le, Nat.le_of_not_lt, Nat.ge_of_not_lt, Nat.le_add_right, Nat.le_add_left, Nat.sub_le, Nat.lt_succ_self, Nat.le_succ, Nat.add_le_add_left, Nat.add_le_add_right, Nat.add_lt_add_left, Nat.add_lt_add_right, Nat.succ_le_of_lt, Nat.lt_of_succ_le, Nat.le_of_eq, Nat.le_antisymm, Nat.lt_of_le_of_ne, Qg, QN, Nat.sub_lt, Nat.succ_le_succ, Nat.lt_succ_of_le, Nat.le_of_lt_succ, Eq.symm, Eq.trans] | (subst_vars; solve_by_elim (maxDepth := 3) [Xv, QC, XA, Q0, Nat.lt_of_not_ge, Nat.lt_of_not_le, Nat.le_of_not_lt, Nat.ge_of_not_lt, Nat.le_add_right, Nat.le_add_left, Nat.sub_le, Nat.lt_succ_self, Nat.le_succ, Nat.add_le_add_left, Nat.add_le_add_right, Nat.add_lt_add_left, Nat.add_lt_add_right, Nat.succ_le_of_lt, Nat.lt_of_succ_le, Nat.le_of_eq, Nat.le_antisymm, Nat.lt_of_le_of_ne, Qg, QN, Nat.sub_lt, Nat.succ_le_succ, Nat.lt_succ_of_le, Nat.le_of_lt_succ, Eq.symm, Eq.trans])))
theorem om0:a<=b->¬a<b->a=b:=by grind
theorem om1:a-b<=a-b:=by simp_all
theorem om2:¬b<a->a<=b:=by walk_at "so"
theorem om3:c=b->b=d->a<c->a<b:=by walk_at "so"
theorem om4:c<=b->c=a->a<=b:=by walk_at "so"
theorem om5:a+1≠a:=by simp_all
theorem om6:b<a->a-(b+1)<a-b:=by omega
theorem om7:c=d->c=a->d=b->a=b:=by walk_at "so"
theorem om8:a+(c+1)<b->a<b:=by grind
theorem om9:b=c->b=d->c=e->a<d->a<b:=by intros;simp_all
theorem El:c=b->c=d->b=e->a<d->a<b:=by intros;simp_all
theorem C4:a+(b+1)<c->a+1+b<c:=by omega
theorem zO:b=c->a<c->a<b:=by walk_at "so"
theorem CM:a<c->b=c->a<b:=by walk_at "so"
theorem Cz:c=a->d=b->c=d->a=b:=by walk_at "so"
theorem vg:a+64<b->a<b:=by grind
theorem zN:a+64<b->a+1+8<b:=by grind
theorem zM:c=b->a<c->a<b:=by walk_at "so"
theorem zL:b<=100000->a=b->a<=16777216:=by grind
theorem Ek:b<=a->a<=c->a-b<=c-0:=by grind
theorem Ej:a<b->a+(b-a) / 2+1<=b:=by grind
theorem Ei:a<b+(c-b) / 2+1->a<=b+(c-b) / 2:=by walk_at "so"
theorem Eh:b<=c->a<b->a+(b-a) / 2<c:=by grind
theorem Eg:a<=a+(b-a) / 2:=by walk_at "so"
theorem Ef:b<=c->a<b->a+(b-a) / 2<=c:=by omega
theorem Bl:a<=b->b-a<=c-max 0 c->a=b:=by grind
theorem Ee:a<b->a+0<b:=by walk_at "so"
theorem Bi:a<c->¬b>=c-a->a+b<c:=by grind
theorem Bc:a<2*a+1:=by grind
theorem Ed:a<d->b<c->a+b<d->a+b+1<=a+min c (d-a):=by grind
theorem Ec:a<c->a+min b (c-a)<=c:=by grind
theorem Eb:a<b+c+1->a<=b+c:=by walk_at "so"
theorem Ea:a<d->a+min b (d-a)<=c->b<d-a->a+b<=c:=by grind
theorem zK:a<=b->a>=b->a=b:=by grind
theorem Bb:b<=c->¬a>=b->a+(b-a) / 2<c:=by grind
theorem w6:¬a>=b->a<b:=by walk_at "so"
theorem zJ:0<=a:=by walk_at "so"
theorem D_:a<c->d<b->¬b>=a+1->a-b<c:=by grind
theorem D9:¬a>=b+1->a<=b:=by walk_at "so"
theorem D8:c<b->c<=a->a+1-min b (a+1)<=a-c:=by omega
theorem D7:a<c->b<=a->a-b<=c:=by grind
theorem D6:a<b+1-min c (b+1)->c<b+1->a<=b-c:=by grind
theorem D5:a<c->d<b->b<a+1->a-b<c:=by grind
theorem D4:a+1=b->a<b:=by walk_at "so"
theorem D3:a+b+1=a+(b+1):=by walk_at "so"
theorem tq:a<=b->a+1<=b+1:=by walk_at "so"
theorem D2:a+b+1=a+1+b:=by grind
theorem Ba:a<min b c->a<min b c:=by walk_at "so"
theorem w4:a<min b c->a<b:=by grind
theorem A_:a+b<=c->min (a+b) c-a=b:=by intros;simp_all
theorem D1:a+b+c=a+c+b:=by grind
theorem A9:c=d->a<=b->a<=b+c:=by grind
theorem D0:a+b+c=a+(b+c):=by grind
theorem A8:a<=b->¬a=b->a<b:=by grind
theorem A7:a+d<=c->b<d->a+b<c:=by grind
theorem DZ:a+d<=c->b<=e->e<d->a+b<c:=by grind
theorem vf:a<=a+b:=by walk_at "so"
theorem DY:b<=c->a+b<=a+c:=by walk_at "so"
theorem DX:b<c->a+b<a+c:=by walk_at "so"
theorem ve:1<=a->0<a:=by walk_at "so"
theorem A6:1<=a->0<=a:=by walk_at "so"
theorem DW:1<=a->¬0+1=a->0+1<a:=by grind
theorem DV:1<=b->1<=a->¬1=a->¬0+1=b->1<a:=by grind
theorem zI:a+1<b->a<b:=by walk_at "so"
theorem zH:a<b->¬a+1=b->a+1<b:=by omega
theorem wZ:a+1+(b+1)<=a+1+b+1:=by walk_at "so"
theorem A5:a+1<b->¬a+1+1=b->a+1+1<b:=by omega
theorem DU:a+1<b->a+(b-a)<=b:=by grind
theorem DT:b+1<a->0<a-b:=by grind
theorem DS:a<b->a+1+(b-(a+1))<=b:=by omega
theorem DR:b<a->¬b+1=a->0<a-(b+1):=by omega
theorem A4:a+1+(b+1)<=a+1+b+1+1:=by walk_at "so"
theorem DQ:a<c->b<=c-(a+1)->a+1+b<=c:=by grind
theorem A3:¬a>0->a=0:=by simp
theorem DP:b<a->¬b+1=a->0<=a-(b+1)->0<a-(b+1):=by grind
theorem DO:a+1<c->b<=c-a->a+b<=c:=by grind
theorem DN:b+1<a->0<=a-b->0<a-b:=by omega
theorem DM:1<=a->a=a-1+1:=by intros;simp_all
theorem A2:1<=a->a<=b->a-1<=b:=by grind
theorem DL:1<=b->a+b+c=d+e->a+1+(b-1)+c=d+e:=by grind
theorem DK:1<=c->a+b+c=d+e->a+1+b+(c-1)=d+e:=by grind
theorem DJ:a<min b c-d->a<min b c-d:=by intros;simp_all
theorem A1:b<min c d-a->a+b<c:=by omega
theorem A0:c<=a->a<=b->min a b-c=a-c:=by intros;simp_all
theorem AZ:a<=c->c<=b->a<=b:=by grind
theorem AY:c=d-e->a<=b->a<=b+c:=by grind
theorem tm:1<=a->a-1<a:=by grind
theorem DI:1<=b->1<=c->¬a=0->¬c=1->1<=a:=by grind
theorem zF:1<=a->a<=b->a-1<b:=by omega
theorem zE:2<=a->a<=b->a-1<b:=by grind
theorem vd:2<=a->1<=a:=by walk_at "so"
theorem AM:1<=a->¬a-1=0->1<=a-1:=by omega
theorem AK:2<=a->¬a-1=1->2<=a-1:=by grind
theorem DH:a<=b->0+a<=b:=by grind
theorem DG:2<=a->a<=b->0+(a-1)<=b:=by grind
theorem DF:2<=a->a-1-1<a-1:=by grind
theorem DE:a<=b-1->a<=b-1:=by walk_at "so"
theorem DC:¬a=1->¬a=0->2<=a:=by grind
theorem DB:2<=a->c=a-1-b->¬c>0->a-1-1<b:=by omega
theorem zD:a<=b->a<=b:=by simp
theorem C9:¬a=0->1<=a:=by grind
theorem C8:1<=a->c=a-b->¬c>0->a-1<b:=by omega
theorem C7:a<=b->b<1->a=b:=by intros;simp_all
theorem yI:a<b+1->¬a<b->a=b:=by grind
theorem yH:a<=b->1<=b->¬a=b->a<=b-1:=by grind
theorem yG:1<=b->b<=a->1<=a:=by omega
theorem vi:a<b->a<=b:=by walk_at "so"
theorem C6:a<=b->max a b=b:=by intros;simp_all
theorem C5:d<=a->b<d->¬(a<=b/\b<c):=by grind
theorem yF:1<=b->a+b-1=a+(b-1):=by grind
theorem C3:a<=b->¬a=b->max (a+1) b=b:=by grind
theorem rO:a+d<=e->b<d->c=e->a+b<c:=by omega
theorem C2:c+1<=b->a+b-1=a+(b-1):=by grind
theorem vh:b+1<=a->1<=a:=by grind
theorem yE:c+1<=b->a<=a+b-(c+1):=by omega
theorem C1:a+d<=e->b<d->c=e->a+b<=c:=by grind
theorem yD:0+1<=a+1:=by walk_at "so"
theorem C0:b+1-(0+1)<=a->a<b+1->a=b+1-1:=by grind
theorem CZ:a+1<=b->a+1+1<=b+1:=by walk_at "so"
theorem CY:a+1-1=a:=by walk_at "so"
theorem CW:a<b+1->¬a=b->a<b:=by omega
theorem CV:a+d<=e->b<=d->f=e->c=e->a+b<=c:=by grind
theorem CU:b<=d->d<c->a<=a+b/\a+b<a+c:=by grind
theorem CS:b<c->a<=a+b/\a+b<a+c:=by intros;simp_all
theorem CQ:c<=b->b<a->a-1-b<=a-1-c:=by omega
theorem CP:b<=c->c<a->a-1-b<a:=by grind
theorem CO:b+1<=c->c<=a->1<=a:=by grind
theorem CN:a+d<=e->b<=d->c=e->a+b<=c:=by grind
theorem CL:1<=c->a+c<=b->a<b:=by grind
theorem CK:b>1->a+b-1=a+(b-1):=by grind
theorem CJ:b>1->a<b->a<=b-1:=by grind
theorem CI:a>1->a-1<a:=by omega
theorem CG:a+d<=c->b<=d->a+b<=c:=by grind
theorem CF:a<=c->c<b->a<b:=by grind
theorem CD:1<=c->¬c>1->a<=b->b<c->a=b:=by grind
theorem CC:a<=b->b<min (max c 1) d->c=0->a=b:=by grind
theorem CB:b<=c->a<min (max b 1) c->¬b=0->a<b:=by grind
theorem CA:min (max (max a 1) b) b=b:=by grind
theorem Cy:a<b->min a b=a:=by grind
theorem Cw:a<=a:=by simp
theorem Cv:a-0<=a-0:=by walk_at "so"
theorem Cu:¬a>=b->a<=(a+b) / 2:=by grind
theorem Ct:b<=c->¬a>=b->(a+b) / 2<=c:=by grind
theorem Cs:¬a>=b->(a+b) / 2+1<=b:=by omega
theorem Cr:a<(b+c) / 2+1->a<=(b+c) / 2:=by walk_at "so"
theorem Cq:b<=c->¬a>=b->(a+b) / 2<c:=by omega
theorem Cp:c<=b->d<a->a+b-(a+c)<=a+b:=by walk_at "so"
theorem Co:d<=c->a<b->¬a=b+c-(b+c-(b+d)):=by omega
theorem Cn:a<b->min (a+1) b=a+1:=by grind
theorem yC:c<=b->a+b-(a+c)<=a+b:=by walk_at "so"
theorem Cm:c<=b->a+b-(a+b-(a+c))=a+c:=by grind
theorem Cl:c<b->a+b-1=a+(b-1):=by grind
theorem yB:b<c->¬a+b=a+c:=by grind
theorem yA:c<b->¬(a+b<a+c/\a+c<=a+d):=by grind
theorem Ck:c<=b->a<b+1->a<c->a<b:=by grind
theorem yz:b=c->a+b=a+c:=by walk_at "so"
theorem yy:¬b=c->¬a+b=a+c:=by simp
theorem yx:¬b<a->¬b=a->a<b:=by grind
theorem Cj:a<=b->a<c->¬b<c->a<=b-1:=by grind
theorem Ci:c<=b->d<=a->a<b+1->d<c->a-1<b:=by omega
theorem Ch:d=c->b=c->a+b=a+c:=by walk_at "so"
theorem Cg:d=c->¬b=c->¬a+b=a+c:=by intros;simp_all
theorem Cf:c<=b->c=a->¬b=a->a<b:=by omega
theorem Ce:c<=b->c=a->¬b=a->a<=b-1:=by grind
theorem Cd:c<=a->a<b+1->c=d->¬a=d->a-1<b:=by grind
theorem Cc:d<=b->¬d<c->¬d=c->¬a+b=a+c:=by grind
theorem Cb:c<=b->¬c<a->¬c=a->a<b:=by grind
theorem Ca:a<=b->a-1<=b-1:=by omega
theorem B_:c<=a->a<b+1->¬c<d->¬c=d->a-1<b:=by grind
theorem B9:c=a+b->¬a+b<c:=by intros;simp_all
theorem B8:c=a+b->a+b-c=0:=by intros;simp_all
theorem B7:a=b+c->a+1=b+(c+1):=by walk_at "so"
theorem B6:¬a+1<a:=by simp
theorem B5:1<=b->d=a+(b+(e+f))->a<=a+b+c:=by grind
theorem B4:1<=a->d=b+(a+(e+f))->a<=b+a+c-b:=by grind
theorem B3:a+b+c-a-b=c:=by grind
theorem B2:1<=b->c=d+(b+(e+f))->a<b->a<=b-1:=by grind
theorem B1:1<=d->c=a+(b+(d+e))->a+b<=c:=by walk_at "so"
theorem B0:1<=a->b=c+(a+(d+e))->0<a:=by walk_at "so"
theorem BZ:a<=b->a+(b-a)=b:=by intros;simp_all
theorem BY:a<=c->c<=b->a+(b-a)=b:=by grind
theorem BX:b<=a->a<=c->a-b<=c-b:=by grind
theorem BW:c=d+(b+(e+f))->g<=b->a<g->a<b:=by grind
theorem BV:1<=a->b=c+(a+(d+e))->a-1<a:=by grind
theorem BU:d=a+(b+(c+e))->a+b+c<=d:=by grind
theorem yw:c<=b->a<c->a<b:=by grind
theorem BT:a=0->a<=b:=by intros;simp_all
theorem BS:d=a+(c+(e+f))->b<=c->a+min b c=a+b+0:=by intros;simp_all
theorem BR:c<=d->e=c->a-b+min c d=a-b+c:=by intros;simp_all
theorem BQ:c=d->d<=b->a<d->a<=b:=by grind
theorem BP:a<c->c<=b->a<=b:=by grind
theorem yu:a<min b (c-d)->a<b:=by grind
theorem BO:a+1<b->min a b=a:=by grind
theorem BN:b=c+a->max 0 b<=c->a=0:=by grind
theorem BL:b=c->c=d+a->d>=c->a=0:=by grind
theorem BK:c=d->¬b>=d->d=b->a<=b:=by walk_at "so"
theorem BJ:c=a->a=b+d->¬b>=a->1<=a-b:=by grind
theorem BI:c=b->b=a+d->¬a>=b->a+(b-a)<=c:=by intros;simp_all
theorem BH:a<=c->1<=d->e=c->b=c+d->a+1<=b:=by grind
theorem BG:a=b->a>1->a-2+1<b:=by grind
theorem BF:a=c+d->a+b=c+(d+b):=by grind
theorem BE:a<=c->b≠0->a+1<=b+c:=by grind
theorem BD:b=c->a<=c->a+0<=b+1:=by walk_at "so"
theorem BC:b=a->b<=1->a<=1:=by walk_at "so"
theorem BB:b=c->a+max 0 b<=b+1->a<=1:=by grind
theorem yt:a<=100000->a<=16777216:=by grind
theorem BA:a<=100000->b=a->b<2->a<=16777216+1:=by grind
theorem Bz:a<=100000->b=a->¬b<2->2<=a:=by walk_at "so"
theorem By:a<=100000->b=a->¬b<2->a<=16777216+1:=by grind
theorem Bx:a<=d+c->d<=b+1->a<=b+(c+1):=by grind
theorem Bw:a+2≠a+4:=by simp
theorem Bv:a+3≠a+4:=by simp_all
theorem Bu:a≠a+4:=by grind
theorem Bt:a+1≠a+4:=by simp_all
theorem Bs:a+2≠a+3:=by simp
theorem Br:a+2≠a:=by grind
theorem Bq:a+2≠a+1:=by simp
theorem Bp:a+3≠a:=by simp
theorem Bo:a+3≠a+1:=by simp
theorem Bn:a≠a+1:=by simp
theorem Bm:b=a+5->a<=b:=by intros;simp_all
theorem Bk:a<=a+1:=by simp
theorem yr:b-a=0->a<=b->a=b:=by grind
theorem Bj:a-b=0->0=a-b:=by walk_at "so"
theorem yq:b-a=c+1->a<=b->a<b:=by grind
theorem yp:c<=b->a<=d->d<c->a<=b:=by grind
theorem yo:a-b=c+1->b<a->a-(b+1)=c:=by grind
theorem yn:a<b->a+1<=b:=by walk_at "so"
theorem Bh:a-b=c+1->b<a->a-(b+1)+1=a-b:=by omega
theorem Bg:a+(b+1)=a+1+b:=by grind
theorem Be:a-b=c+1->b<a->a-b=a-(b+1)+1:=by omega
theorem AX (h:k-l<=n-x):k-(l+(k-l)/2+1)<=n-(x+1):=by rw[Nat.add_assoc,<-Nat.sub_sub,<-Nat.sub_sub n x 1];exact Q0 (Nat.sub_le_sub_left (Nat.le_add_left 1 _) _) (Nat.sub_le_sub_right h 1)
theorem AV (h:k-l<=n-x) (e:l<k):l+(k-l)/2-l<=n-(x+1):=by rw[Xz,<-Nat.sub_sub n x 1];exact Q0 (Nat.le_sub_one_of_lt (Nat.div_lt_self (Nat.sub_pos_of_lt e) (by decide))) (Nat.sub_le_sub_right h 1)
theorem AU (h:r-l<=k-x) (c:¬l>=r):r-((l+r)/2+1)<=k-(x+1):=by rw[<-Nat.sub_sub,<-Nat.sub_sub k x 1];exact Nat.sub_le_sub_right (Q0 (Nat.sub_le_sub_left ((Nat.le_div_iff_mul_le (by decide)).mpr (by rw[Nat.mul_two];exact Nat.add_le_add_left (Xv (Nat.lt_of_not_ge c)) _)) _) h) 1
theorem AT (h:r-l<=k-x) (c:¬l>=r):(l+r)/2-l<=k-(x+1):=by rw[<-Nat.sub_sub k x 1];refine Q0 ?_ (Nat.sub_le_sub_right h 1);rw[Nat.sub_sub,Nat.add_comm l 1,<-Nat.sub_sub];exact Nat.sub_le_sub_right (Nat.le_sub_one_of_lt ((Nat.div_lt_iff_lt_mul (by decide)).mpr (by rw[Nat.mul_two];exact Nat.add_lt_add_right (Nat.lt_of_not_ge c) _))) _
theorem ym (h:d<=x) (q:lo+x-d<=lo+i/\lo+i<lo+x):lo+x-d+(lo+x)-1-(lo+i)=lo+(x-d+x-1-i)/\x-d<=x-d+x-1-i/\x-d+x-1-i<x/\x-d<=i/\i<x:=by obtain⟨y,rfl⟩:∃y,x=y+d:=⟨x-d,(Nat.sub_add_cancel h).symm⟩;have e:lo+(y+d)-d=lo+y:=(by rw[<-Nat.add_assoc,Nat.add_sub_cancel]);rw[e]at q;rw[e,Nat.add_sub_cancel];obtain⟨p,rfl⟩:∃p,i=y+p:=⟨i-y,(Nat.add_sub_of_le (Nat.le_of_add_le_add_left q.1)).symm⟩;have l:=Nat.lt_of_add_lt_add_left (Nat.lt_of_add_lt_add_left q.2);obtain⟨z,rfl⟩:∃z,d=p+1+z:=⟨d-(p+1),(Nat.add_sub_of_le l).symm⟩;have t:∀u:Nat,u+y+(u+(y+(p+1+z)))-1-(u+(y+p))=u+(y+z):=(λu=>by rw[show u+y+(u+(y+(p+1+z)))=u+(y+p)+(u+(y+z))+1 by ac_rfl,Nat.add_sub_cancel,Xz]);have t0:=t 0;simp only[Nat.zero_add]at t0;rw[t,t0];exact⟨rfl,Nat.le_add_right _ _,by omega,Nat.le_add_right _ _,Nat.add_lt_add_left l _⟩
theorem vb (q:i<n):lo+(lo+n)-1-(lo+i)=lo+(n-1-i):=by obtain⟨p,rfl⟩:∃p,n=i+1+p:=⟨n-(i+1),(Nat.add_sub_of_le q).symm⟩;rw[show lo+(lo+(i+1+p))=lo+i+(lo+p)+1 by ac_rfl,Nat.add_sub_cancel,Xz,Nat.sub_sub,Nat.add_comm 1 i,Xz]
theorem AS (h:k<=x):f+k+(x-k)-1=f+(x-1)\/x=0:=by obtain⟨y,rfl⟩:∃y,x=k+y:=⟨x-k,(Nat.add_sub_of_le h).symm⟩;rw[Xz,Nat.add_assoc];cases (k+y);exact .inr rfl;exact .inl rfl
theorem AR (h:k<=x) (q:¬x-k=0) (z:m=x-k):k+(m-1)=x-1:=by subst z;rw[<-Nat.add_sub_assoc (Nat.pos_of_ne_zero q),Nat.add_sub_of_le h]
theorem AQ (h:2<=n) (q:¬n-1=1):2<=n-1:=Nat.le_sub_one_of_lt (Nat.lt_of_le_of_ne h λz=>q (by rw[<-z]))
theorem AO (h:j=n-2-1\/j=n-2) (q:¬n<=1) (e:n=m):j+1<m:=by subst e;obtain⟨z,rfl⟩:∃z,n=z+2:=⟨n-2,(Nat.sub_add_cancel (Nat.lt_of_not_le q)).symm⟩;rw[Nat.add_sub_cancel]at h;rcases h with rfl|rfl;exact Nat.lt_succ_of_le (Nat.add_le_add_right (Nat.sub_le _ _) 1);exact Nat.lt_succ_self _
end
-- CHANGE: your row's module here,as the last of these rows
namespace L2
open PySem PySem.Spec PyProof.Rows
abbrev Key:=Sum Int Str
def iO:Key->Value->Bool
 | .inl k,v=>Value.isInt k v
 | .inr x,v=>Value.isStrOf x v
def Ep (w:World):Key->Int
 | .inl k=>hashInt k
 | .inr x=>hashStr w x
theorem bA:∀{k:Key} {v:Value},iO k v=true->(∃i t,k=Sum.inl i/\v=Value.int i t)\/(∃x t,k=Sum.inr x/\v=Value.str x t)
 | .inl i,v,h=>by
  obtain⟨t,e⟩:=Value.isInt_shape (k:=i) (v:=v) h;exact .inl ⟨i,t,rfl,e⟩
 | .inr x,v,h=>by
  obtain⟨t,e⟩:=Value.isStrOf_shape (x:=x) (v:=v) h;exact .inr ⟨x,t,rfl,e⟩
theorem tS (i:Int) (t:Tok):iO (.inl i) (.int i t)=true:=by simp[iO,Value.isInt]
theorem tR (x:Str) (t:Tok):iO (.inr x) (.str x t)=true:=by simp[iO,Value.isStrOf]
theorem zX (a b:Int):decide ((Sum.inl a:Key)=Sum.inl b)=(a==b):=by
 by_cases e:a=b
 ·subst e;simp
 have h:¬(Sum.inl a:Key)=Sum.inl b:=λq=>e (Sum.inl.inj q);rw[QU h];exact(beq_eq_false_iff_ne.mpr e).symm
theorem zU (a b:Str):decide ((Sum.inr a:Key)=Sum.inr b)=decide (a=b):=by
 by_cases e:a=b
 ·subst e;simp
 have h:¬(Sum.inr a:Key)=Sum.inr b:=λq=>e (Sum.inr.inj q);rw[QU h,QU e]
theorem zW (a:Int) (b:Str):decide ((Sum.inl a:Key)=Sum.inr b)=false:=QU (λq=>nomatch q)
theorem zV (a:Str) (b:Int):decide ((Sum.inr a:Key)=Sum.inl b)=false:=QU (λq=>nomatch q)
noncomputable def bn (prog:Program) (w:World):PySem.KeyKind prog w Key where
 is:=iO
 hash:=Ep w
 inj:=λv a b ha hb=>by
  rcases bA ha with⟨i,t,rfl,rfl⟩|⟨x,t,rfl,rfl⟩
  ·rcases bA hb with⟨j,u,rfl,e⟩|⟨y,u,rfl,e⟩
   ·injection e with e1 _;rw[e1]
   exact nomatch e
  rcases bA hb with⟨j,u,rfl,e⟩|⟨y,u,rfl,e⟩
  ·exact nomatch e
  injection e with e1 _;rw[e1]
 byValue:=λk v h=>by
  rcases bA h with⟨i,t,rfl,rfl⟩|⟨x,t,rfl,rfl⟩ <;> rfl
 pyHash:=λhv h=>by
  rcases bA hv with⟨i,t,rfl,rfl⟩|⟨x,t,rfl,rfl⟩
  ·exact wpAny_pyHash_int h
  exact wpAny_pyHash_str h
 eqBool:=λhu hv h=>by
  rcases bA hu with⟨i,t,rfl,rfl⟩|⟨x,t,rfl,rfl⟩
  ·rcases bA hv with⟨j,u,rfl,rfl⟩|⟨y,u,rfl,rfl⟩
   ·rw[zX]at h;exact wpAny_eqBool_int h
   rw[zW]at h;exact SeqAt.EqAt.int_str i t y u _ _ _ _ h
  rcases bA hv with⟨j,u,rfl,rfl⟩|⟨y,u,rfl,rfl⟩
  ·rw[zV]at h;exact SeqAt.EqAt.str_int x t j u _ _ _ _ h
  rw[zU]at h;exact wpAny_eqBool_str h
 «strs»:=λk x t v h=>by
  rcases bA h with⟨i,u,rfl,e⟩|⟨y,u,rfl,e⟩
  ·exact nomatch e
  injection e with e1 _;subst e1;cases v <;> rfl
theorem o_ (prog:Program) (w:World) (i:Int) (t:Tok):(bn prog w).is (.inl i) (.int i t)=true:=tS i t
theorem fM (prog:Program) (w:World) (x:Str) (t:Tok):(bn prog w).is (.inr x) (.str x t)=true:=tR x t
inductive V where
 | non|bl (b:Bool)|int (i:Int)|str (x:Str)|byt (b:Array UInt8)|flt (b:UInt64)|ref (a:Addr)|ty (n:String)
 deriving DecidableEq
noncomputable def aS:V->Value->Prop
 | .non,u=>u=Value.none
 | .bl b,u=>u=Value.bool b
 | .int i,u=>∃t,u=Value.int i t
 | .str x,u=>∃t,u=Value.str x t
 | .byt b,u=>∃t,u=Value.bytes b t
 | .flt b,u=>∃t,u=Value.float b t
 | .ref a,u=>u=Value.ref a
 | .ty n,u=>u=Value.type n
abbrev aY:List V->List Value->Prop:=Paired aS
theorem aY.length {xs:List V} {us:List Value} (r:aY xs us):xs.length=us.length:=Paired.length r
theorem aY.get:∀{xs:List V} {us:List Value} {i:Nat} {x:V},aY xs us->xs[i]?=some x->∃u,us[i]?=some u/\aS x u
 | _,_,_,_,.nil,e=>by simp at e
 | _,_,0,_,.cons r _,e=>by simp at e;subst e;exact⟨_,rfl,r⟩
 | _,_,i+1,x,.cons _ t,e=>by
  obtain⟨u,h1,h2⟩:=aY.get (i:=i) (x:=x) t (by simpa using e);exact⟨u,by simpa using h1,h2⟩
variable {u cd dV doc pm cdv ct oc:Value}
theorem aY.set {x:V} (r:aS x u):∀{xs:List V} {us:List Value} (i:Nat),aY xs us->aY (xs.set i x) (us.set i u)
 | _,_,_,.nil=>.nil
 | _,_,0,.cons _ t=>.cons r t
 | _,_,i+1,.cons q t=>.cons q (aY.set r i t)
theorem aY.append:∀{xs ys:List V} {us ws:List Value},aY xs us->aY ys ws->aY (xs++ys) (us++ws)
 | _,_,_,_,.nil,s=>s
 | _,_,_,_,.cons r t,s=>.cons r (aY.append t s)
theorem aY.take:∀{xs:List V} {us:List Value} (n:Nat),aY xs us->aY (xs.take n) (us.take n)
 | _,_,0,_=>.nil
 | _,_,_+1,.nil=>.nil
 | _,_,n+1,.cons r t=>.cons r (aY.take n t)
theorem aY.drop:∀{xs:List V} {us:List Value} (n:Nat),aY xs us->aY (xs.drop n) (us.drop n)
 | _,_,0,r=>r
 | _,_,_+1,.nil=>.nil
 | _,_,n+1,.cons _ t=>aY.drop n t
def kQ:Option V->Option Value->Prop
 | some v,some u=>aS v u
 | none,none=>True
 | _,_=>False
def KV {κ:Type}:List (κ × V)->List (κ × Value)->Prop:=Paired λ(p:κ × V) (q:κ × Value)=>p.1=q.1/\aS p.2 q.2
def kV:Key->V
 | .inl i=>.int i
 | .inr x=>.str x
inductive HO where
 /-- a list -/
 | lst (xs:List V)
 /-- a tuple (never changes) -/
 | tup (xs:List V)
 /-- a dict whose keys are ints and texts;one whose keys are tuples of ints and texts (the empty one is both) -/
 | dK (kvs:List (Key × V))|dT (kvs:List (List Key × V))
 /-- a set of ints: its members,its size -/
 | set (S:Int->Bool) (n:Nat)
 /-- an instance of the class at C,its dict at dx,its attributes -/
 | ins (C dx:Addr) (fs:List (Str × V))
 /-- the dict of the instance at x -/
 | own (x:Addr)
 /-- the dict of an exception -/
 | xd (fs:List (Str × V))
 /-- a bound method,f of x -/
 | met (f x:Addr)
 /-- a range object lo,lo+1,.. below hi -/
 | rng (lo hi:Int)
 /-- a thing that is known to the object (the script;a dict while a loop walks it): read,never written while it is so -/
 | frz (o:Obj) (u:HO)
 /-- a code object's table -/
 | tbl (ps:Array Value)
 /-- any other thing,by what is true of its one object (a def of one's own: SetO a S n:=HO.ext λh=>..) -/
 | ext (φ:Heap->Prop)
abbrev Hp:=Addr->Option HO
def upd (H:Hp) (a:Addr) (o:HO):Hp:=λb=>if b=a then some o else H b
variable {o:HO} {a b it dx C f:Addr} {H H':Hp}
theorem ag:upd H a o a=some o:=by unfold upd;rw[QF rfl]
theorem ak (h:b≠a):upd H a o b=H b:=by unfold upd;rw[QB h]
theorem wE {u:HO}:upd (upd H a o) a u=upd H a u:=by
 funext b;unfold upd;split <;> rfl
theorem C_ {u:HO} (h:H a=some o) (h':H b=some u) (d:o≠u):a≠b:=by
 intro e;subst e;rw[h]at h';exact d (Q2 h')
theorem aD (h:H a=some o) (h':H b=none):a≠b:=by
 intro e;subst e;rw[h]at h';cases h'
section
variable (P:Program) (w:World)
noncomputable def bt (H:Hp) (h:Heap) (a:Addr):HO->Prop
 | .lst xs=>xs.length<=sizeLine/\∃(its:List Value) (n:Nat),aY xs its/\h.get? a=some { cls:=.type "list", data:=.seq its.toArray n }
 | .tup xs=>xs.length<=sizeLine/\∃its:List Value,aY xs its/\IsTup h a its.toArray
 | .dK kvs=>kvs.length<=sizeLine/\(a==sysModules)=false/\∃vs,KV kvs vs/\h.DictOf (bn P w) a vs
 | .dT kvs=>kvs.length<=sizeLine/\(a==sysModules)=false/\∃xs:List (List Key × Addr × Value),
   Paired (λ(p:List Key × V) (q:List Key × Addr × Value)=>p.1=q.1/\H q.2.1=some (.tup (p.1.map kV))/\aS p.2 q.2.2) kvs xs /\
   ∃o es ep,h.get? a=some o/\o.ExactDict/\o.data=.dict es ep/\es.toList=xs.map (entryOfKey (tupleKind (bn P w)))/\(xs.map (·.1)).Nodup
 | .set S n=>h.SetOf (intKind P w) a S n
 | .ins C dx fs=>H dx=some (.own a)/\fs.length<=1000/\dx≠a/\h.get? a=some (PySem.W.instObj C dx) /\
   ∃mA,h.Ns1 dx mA/\(∀f,kQ (fs.lookup f) (mA f))/\PySem.Within mA (fs.map (·.1))
 | .own _=>∃o,h.get? a=some o
 | .xd fs=>∃mA,h.Ns1 a mA/\∀f,kQ (fs.lookup f) (mA f)
 | .rng lo hi=>∃t u v,h.get? a=some { cls:=.type "range", data:=.fields #[.int lo t,.int hi u,.int 1 v] }
 | .frz o u=>h.get? a=some o/\bt H h a u
 | .tbl ps=>h.get? a=some { cls:=.none,data:=.fields ps }
 | .met f x=>h.get? a=some (PySem.W.methodObj (.ref f) (.ref x))
 | .ext φ=>φ h/\(∃o,h.get? a=some o)/\∀h1 h2:Heap,φ h1->(∀o,h1.get? a=some o->h2.get? a=some o)->φ h2
def HOk (H:Hp) (h:Heap):Prop:=∀a o,H a=some o->bt P w H h a o
end
section
variable {P:Program} {w:World} {H H':Hp} {h h':Heap} {a:Addr} {o:HO}
theorem bt.lt (x:bt P w H h a o):a<h.objs.size:=by
 cases o with
 | lst xs=>obtain⟨_,_,_,_,e⟩:=x;exact Qm e
 | tup xs=>obtain⟨_,_,_,p⟩:=x;exact p.lt
 | dK kvs=>obtain⟨_,_,_,_,o,_,_,e,_⟩:=x;exact Qm e
 | dT kvs=>obtain⟨_,_,_,_,o,_,_,e,_⟩:=x;exact Qm e
 | set S n=>obtain⟨o,_,_,_,e,_⟩:=x;exact Qm e
 | ins C dx fs=>obtain⟨_,_,_,e,_⟩:=x;exact Qm e
 | own y=>obtain⟨_,e⟩:=x;exact Qm e
 | xd fs=>obtain⟨_,⟨_,_,_,e,_⟩,_⟩:=x;exact Qm e
 | rng lo hi=>obtain⟨_,_,_,e⟩:=x;exact Qm e
 | frz ob u=>obtain⟨e,_⟩:=x;exact Qm e
 | tbl ps=>exact Qm (show h.get? a=some _ from x)
 | met f y=>exact Qm (show h.get? a=some _ from x)
 | ext φ=>obtain⟨_,⟨_,e⟩,_⟩:=x;exact Qm e
theorem Paired.mapP {α β:Type} {F G:α->β->Prop}:∀{l₁:List α} {l₂:List β},Paired F l₁ l₂->(∀a b,F a b->G a b)->Paired G l₁ l₂
 | _,_,.nil,_=>.nil
 | _,_,.cons r t,f=>.cons (f _ _ r) (Paired.mapP t f)
theorem bt.stay (x:bt P w H h a o) (k:∀b u,(b=a\/H b=some (.own a))->h.get? b=some u->h'.get? b=some u)
  (ho:∀b,H b=some (.own a)->H' b=some (.own a)) (ht:∀b xs,H b=some (.tup xs)->H' b=some (.tup xs)):bt P w H' h' a o:=by
 induction o with
 | lst xs=>obtain⟨z,its,n,r,e⟩:=x;exact⟨z,its,n,r,k _ _ (.inl rfl) e⟩
 | tup xs=>obtain⟨z,its,r,ob,e,c⟩:=x;exact⟨z,its,r,ob,k _ _ (.inl rfl) e,c⟩
 | dK kvs=>obtain⟨z,y,vs,r,ob,es,ep,e,c⟩:=x;exact⟨z,y,vs,r,ob,es,ep,k _ _ (.inl rfl) e,c⟩
 | dT kvs =>
  obtain⟨z,y,xs,r,ob,es,ep,e,c⟩:=x;exact⟨z,y,xs,Paired.mapP r λp q z=>⟨z.1,ht _ _ z.2.1,z.2.2⟩,ob,es,ep,k _ _ (.inl rfl) e,c⟩
 | set S n=>obtain⟨ob,es,ep,t,e,c⟩:=x;exact⟨ob,es,ep,t,k _ _ (.inl rfl) e,c⟩
 | ins C dx fs =>
  obtain⟨d,z,ne,e,mA,⟨od,es,ep,e2,c⟩,r⟩:=x;exact⟨ho _ d,z,ne,k _ _ (.inl rfl) e,mA,⟨od,es,ep,k _ _ (.inr d) e2,c⟩,r⟩
 | own y=>obtain⟨ob,e⟩:=x;exact⟨ob,k _ _ (.inl rfl) e⟩
 | xd fs=>obtain⟨mA,⟨od,es,ep,e,c⟩,r⟩:=x;exact⟨mA,⟨od,es,ep,k _ _ (.inl rfl) e,c⟩,r⟩
 | rng lo hi=>obtain⟨t,u,v,e⟩:=x;exact⟨t,u,v,k _ _ (.inl rfl) e⟩
 | frz ob u ih=>obtain⟨e,q⟩:=x;exact⟨k _ _ (.inl rfl) e,ih q⟩
 | tbl ps =>
  have e:h.get? a=some { cls:=.none,data:=.fields ps }:=x;show h'.get? a=some { cls:=.none,data:=.fields ps };exact k a _ (.inl rfl) e
 | met f y =>
  have e:h.get? a=some (PySem.W.methodObj (.ref f) (.ref y)):=x;show h'.get? a=some (PySem.W.methodObj (.ref f) (.ref y));exact k a _ (.inl rfl) e
 | ext φ=>obtain⟨p,⟨o,e⟩,st⟩:=x;exact⟨st _ _ p λo q=>k _ _ (.inl rfl) q,⟨o,k _ _ (.inl rfl) e⟩,st⟩
theorem HOk.lt (x:HOk P w H h) (e:H a=some o):a<h.objs.size:=(x a o e).lt
theorem HOk.fresh (x:HOk P w H h) (e:h.objs.size<=a):H a=none:=by
 cases q:H a with
 | none=>rfl
 | some u=>exact absurd (QC (x.lt q) e) (Nat.lt_irrefl _)
theorem HOk.kept (x:HOk P w H h) (k:∀b u,h.get? b=some u->h'.get? b=some u):HOk P w H h':=λa o e =>
 (x a o e).stay (λb u _ q=>k b u q) (λ_ q=>q) λ_ _ q=>q
theorem HOk.laid (x:HOk P w H h) (k:∀b u,h.get? b=some u->h'.get? b=some u) (hp:h.objs.size<=a) (new:bt P w (upd H a o) h' a o):HOk P w (upd H a o) h':=λb u e=>by
 have hn:=x.fresh hp;by_cases hb:b=a
 ·subst hb;rw[ag]at e;cases e;exact new
 rw[ak hb]at e;exact(x b u e).stay (λc v _ q=>k c v q) (λc q=>by rw[ak (aD q hn)];exact q) λc xs q=>by rw[ak (aD q hn)];exact q
end
def Rd (H:Hp) (a:Addr) (u:HO):Prop:=H a=some u\/∃o,H a=some (.frz o u)
variable {h base:Heap} {w:World} {P:Program}
theorem Rd.ok {u:HO} (r:Rd H a u) (x:HOk P w H h):bt P w H h a u:=by
 rcases r with r|⟨o,r⟩
 ·exact x a u r
 obtain⟨_,q⟩:=x a _ r;exact q
def Mut:Option HO->Prop
 | some (.lst _)=>True
 | some (.dK _)=>True
 | some (.dT _)=>True
 | some (.set _ _)=>True
 | some (.ins _ _ _)=>True
 | some (.ext _)=>True
 | _=>False
section
variable {P:Program} {w:World} {H:Hp} {h h':Heap} {x e:Addr} {o':HO}
theorem HOk.write (ok:HOk P w H h) (mu:Mut (H x)) (he:e=x\/H e=some (.own x)) (k:∀b u,b≠e->h.get? b=some u->h'.get? b=some u) (heo:∃u,h'.get? e=some u)
  (new:bt P w (upd H x o') h' x o'):HOk P w (upd H x o') h':=λb u q=>by
 have nown:∀c y,H c=some (.own y)->c≠x:=λc y r z=>by subst z;rw[r]at mu;exact mu
 have ntup:∀c xs,H c=some (.tup xs)->c≠x:=λc xs r z=>by subst z;rw[r]at mu;exact mu
 by_cases hb:b=x
 ·subst hb;rw[ag]at q;cases q;exact new
 rw[ak hb]at q;by_cases hbe:b=e
 ·have q':H b=some (.own x):=by
   rcases he with z|z
   ·exact absurd (hbe.trans z) hb
   rw[hbe];exact z
  rw[q]at q';cases q';obtain⟨v,hv⟩:=heo;exact⟨v,by rw[hbe];exact hv⟩
 refine(ok b u q).stay (λc v hc r=>k c v ?_ r) (λc r=>by rw[ak (nown c b r)];exact r) λc xs r=>by rw[ak (ntup c xs r)];exact r
 rcases hc with rfl|hc
 ·exact hbe
 rintro rfl;rcases he with z|z
 ·exact nown c b hc z
 rw[hc]at z;cases z;exact hb rfl
end
structure Un (fs ex:List Addr) (H H':Hp) (h h':Heap):Prop where
 keep:∀b o,h.get? b=some o->H b=none->b∉fs->b∉ex->h'.get? b=some o
 slot:∀b o,h.get? b=some o->H b=none->b∈fs->b∉ex->∃sl,h'.get? b=some { o with slots:=sl }
 free:∀b o,h.get? b=some o->H b=none->b∉ex->H' b=none
 there:∀b o,h.get? b=some o->b∉ex->∃o',h'.get? b=some o'
 tups:∀b xs,H b=some (.tup xs)->H' b=some (.tup xs)
 frzs:∀b o u,H b=some (.frz o u)->H' b=some (.frz o u)
 tbls:∀b ps,H b=some (.tbl ps)->∃more,H' b=some (.tbl (ps++more))
section
variable {fs fs' ex ex':List Addr} {H H1 H2:Hp} {h h1 h2 h':Heap} {a x e:Addr} {o:HO}
theorem Un.any (u:Un fs ex H H1 h h1) {b:Addr} {ob:Obj} (q:h.get? b=some ob) (n:H b=none) (hx:b∉ex):∃sl,h1.get? b=some { ob with slots:=sl }:=by
 by_cases hb:b∈fs
 ·exact u.slot b ob q n hb hx
 exact⟨ob.slots,u.keep b ob q n hb hx⟩
theorem Un.kept (k:∀b u,h.get? b=some u->h'.get? b=some u):Un fs ex H H h h' :=
 ⟨λb ob q _ _ _=>k b ob q,λb ob q _ _ _=>⟨ob.slots,k b ob q⟩,λ_ _ _ n _=>n,λb ob q _=>⟨ob,k b ob q⟩,λ_ _ q=>q,λ_ _ _ q=>q,λ_ ps q=>⟨#[],by rw[q];simp⟩⟩
theorem Un.refl:Un fs ex H H h h:=Un.kept λ_ _ q=>q
theorem Un.laid (k:∀b u,h.get? b=some u->h'.get? b=some u) (hp:h.objs.size<=a) (hn:H a=none):Un fs ex H (upd H a o) h h' where
 keep:=λb u q _ _ _=>k b u q
 slot:=λb u q _ _ _=>⟨u.slots,k b u q⟩
 free:=λb u q n _=>by rw[ak (Qz (QC (Qm q) hp))];exact n
 there:=λb u q _=>⟨u,k b u q⟩
 tups:=λb xs q=>by rw[ak (aD q hn)];exact q
 frzs:=λb u xs q=>by rw[ak (aD q hn)];exact q
 tbls:=λb ps q=>⟨#[],by rw[ak (aD q hn),q];simp⟩
theorem Un.write (mu:Mut (H x)) (he:e=x\/H e=some (.own x)) (k:∀b u,b≠e->h.get? b=some u->h'.get? b=some u) (heo:∃u,h'.get? e=some u):Un fs ex H (upd H x o) h h':=by
 have hx:∀b,H b=none->b≠x:=λb n z=>by subst z;rw[n]at mu;exact mu
 have hb:∀b,H b=none->b≠e:=λb n z=>by
  subst z;rcases he with r|r
  ·exact hx b n r
  rw[n]at r;cases r
 have hm:∀b u,H b=some u->¬Mut (some u)->b≠x:=λb u q nm z=>by subst z;rw[q]at mu;exact nm mu
 refine⟨λb u q n _ _=>k b u (hb b n) q,λb u q n _ _=>⟨u.slots,k b u (hb b n) q⟩,λb u q n _=>by rw[ak (hx b n)];exact n,λb u q _=>?_,
  λb xs q=>by rw[ak (hm b _ q λz=>z)];exact q,λb u xs q=>by rw[ak (hm b _ q λz=>z)];exact q,λb ps q=>⟨#[],by rw[ak (hm b _ q λz=>z),q];simp⟩⟩
 by_cases hbe:b=e
 ·subst hbe;exact heo
 exact⟨u,k b u hbe q⟩
end
def trk (h:Heap) (H:Hp):List Addr:=(List.range h.objs.size).filter λa=>(H a).isSome
def lh (h:Heap) (H:Hp):Heap:=PySem.W.hideAll h (trk h H)
theorem tZ (h:Heap) (H:Hp):(lh h H).objs.size=h.objs.size:=PySem.W.hideAll_size _ _
theorem vV {o:Obj} (e:h.get? b=some o) (n:H b=none):(lh h H).get? b=some o :=
 PySem.W.hideAll_get _ e λhm=>by
  have q:(H b).isSome=true:=(List.mem_filter.mp hm).2;rw[n]at q;simp at q
theorem xn {o:Obj} (e:(lh h H).get? b=some o):h.get? b=some o/\H b=none:=by
 have e':h.get? b=some o:=PySem.W.of_hideAll (trk h H) e;refine⟨e',?_⟩
 cases q:H b with
 | none=>rfl
 | some x =>
 have hm:b∈trk h H:=List.mem_filter.mpr ⟨List.mem_range.mpr (Qm e'),by simp[q]⟩;have z:(lh h H).get? b=none:=PySem.W.hideAll_none (trk h H) hm;rw[z]at e;cases e
structure Mod (K:PySem.W.Frag) (mg:Str->Option Value) (base:Heap):Prop where
 kin:K.In base
 glob:base.Ns mainGlobals mg
 blt:∃mb,base.Ns builtinsNs mb/\∀x:Str,x ≠ "__name__" -> mb x=bootBuiltins x
 nolimit:base.NoLimit
/-- the context: a def's body (or a comprehension's block) running. base: fixed through the whole law;s₀,H₀: the e_;outer: the frames whose slots others may change (a def's callers);stack: all frames that run;
  ex: iterators that were made ahead of the e_ and are walked here (a comprehension's);fn: the names whose cells were made at the e_ (a def: all;a comprehension's block: its own);calm: not within an except suite;pn: pins that every state bears;xe: what is wanted of an exception that leaves the code -/
structure Cx where
 prog:Program
 w:World
 K:PySem.W.Frag
 mg:Str->Option Value
 base:Heap
 A:Around
 N:List Str
 s₀:Shared
 H₀:Hp
 env:Env
 outer:List Env
 stack:List Env
 ex:List Addr
 fn:Str->Bool
 calm:Bool
 pn:List (Addr × Obj)
 xe:Value->Shared->Prop
def frs (l:List Env):List Addr:=l.filterMap (·.frame)
abbrev Cx.fs (X:Cx):List Addr:=frs X.outer
def Vis (sc:Scope) (x:Str):Prop:=sc.names.lookup x=some .local\/sc.names.lookup x=some .cell\/sc.names.lookup x=some .free
def Loc (sc:Scope) (x:Str):Prop:=sc.names.lookup x=some .local\/sc.names.lookup x=some .cell
def Eu (env:Env) (h:Heap) (m:Str->Option Value) (x:Str) (u:Value):Prop :=
 (env.kindOf x=some .local/\m x=some u)\/((env.kindOf x=some .cell\/env.kindOf x=some .free)/\∃c,env.cells.lookup x=some c/\h.IsCell c (some u))
structure Cx.Ok (X:Cx):Prop where
 mod:Mod X.K X.mg X.base
 kind:X.env.scope.kind=.function
 glob:X.env.globals=mainGlobals
 blt:X.env.builtins=builtinsNs
 above:X.s₀.heap.objs.size<=X.env.locals
 inj:∀x y c,X.env.cells.lookup x=some c->X.env.cells.lookup y=some c->x=y
 has:∀x,(X.env.kindOf x=some .cell\/X.env.kindOf x=some .free)->∃c,X.env.cells.lookup x=some c
 cab:∀x c,X.fn x=true->X.env.cells.lookup x=some c->X.s₀.heap.objs.size<=c
 hd:X.calm=true->X.A.handled=none
 frames:X.A.frames=some X.stack
 stk:X.stack=X.outer\/(X.stack=X.env::X.outer/\X.env.frame=some X.env.locals)
 exf:∀b∈X.ex,b≠X.env.locals/\∀x c,X.env.cells.lookup x=some c->c≠b
 bs:∀b o,X.base.get? b=some o->X.s₀.heap.get? b=some o/\X.H₀ b=none
 bsz:X.base.objs.size<=X.s₀.heap.objs.size
 noex:∀b o,X.base.get? b=some o->b∉X.ex
 exfs:∀b∈X.ex,b∉X.fs
 funs:X.s₀.heap.FunFrames X.base X.outer
 frf:∀b∈X.fs,X.H₀ b=none
structure Inv (X:Cx) (pins:List (Addr × Obj)) (σ:List (Option V)) (H:Hp) (s:Shared):Prop where
 ok:X.Ok
 os:s.os=X.s₀.os
 bare:AllBare s.gens
 base:Un X.fs X.ex X.H₀ H X.s₀.heap s.heap
 loc:∃m,s.heap.Ns X.env.locals m/\∀(i:Nat) (x:Str) (v:V),X.N[i]?=some x->σ[i]?=some (some v)->Vis X.env.scope x->∃u,aS v u/\Eu X.env s.heap m x u
 cell:∀x c,X.env.cells.lookup x=some c->∃v,s.heap.IsCell c v
 free:H X.env.locals=none
 freeC:∀x c,X.env.cells.lookup x=some c->H c=none
 pin:∀p∈X.pn++pins,s.heap.get? p.1=some p.2/\H p.1=none/\p.1≠X.env.locals/\p.1∉X.fs/\∀v,p.2.data≠.cell v
 hok:HOk X.prog X.w H s.heap
 len:σ.length=X.N.length
section
variable {X:Cx} {pins:List (Addr × Obj)} {σ:List (Option V)} {H H':Hp} {s:Shared} {h':Heap}
theorem Cx.Ok.nofr (ok:X.Ok) {b:Addr} {o:Obj} (e:X.base.get? b=some o):b∉X.fs:=λhb=>by
 have:=(ok.funs.mem hb).1;rw[e]at this;cases this
theorem Inv.bs (I:Inv X pins σ H s):∀b o,X.base.get? b=some o->s.heap.get? b=some o/\H b=none:=λb o e =>
 ⟨I.base.keep b o (I.ok.bs b o e).1 (I.ok.bs b o e).2 (I.ok.nofr e) (I.ok.noex b o e),I.base.free b o (I.ok.bs b o e).1 (I.ok.bs b o e).2 (I.ok.noex b o e)⟩
theorem Inv.bk (I:Inv X pins σ H s):∀b o,X.base.get? b=some o->s.heap.get? b=some o:=λb o e=>(I.bs b o e).1
theorem Inv.mod (I:Inv X pins σ H s):Mod X.K X.mg X.base:=I.ok.mod
theorem Inv.kIn (I:Inv X pins σ H s):X.K.In s.heap:=I.ok.mod.kin.keeps I.bk
theorem Inv.lt (I:Inv X pins σ H s):X.env.locals<s.heap.objs.size:=let ⟨_,hn,_⟩:=I.loc;hn.lt
theorem Inv.sz (I:Inv X pins σ H s):X.s₀.heap.objs.size<=s.heap.objs.size:=Q0 I.ok.above (Xv I.lt)
theorem Inv.nofs (I:Inv X pins σ H s) {a:Addr} (h:s.heap.objs.size<=a):a∉X.fs:=λhb=>by
 obtain⟨_,o,ho,_⟩:=I.ok.funs.mem hb;exact absurd (QC (Qm ho) (Q0 I.sz h)) (Nat.lt_irrefl _)
theorem Inv.cne (I:Inv X pins σ H s):∀x c,X.env.cells.lookup x=some c->c≠X.env.locals:=λx c e z=>by
 obtain⟨v,o,ho,hd⟩:=I.cell x c e;obtain⟨m,⟨o',es,ep,ho',hd',_⟩,_⟩:=I.loc;rw[z,ho']at ho;cases ho;rw[hd']at hd;cases hd
theorem Inv.funs (I:Inv X pins σ H s):s.heap.FunFrames X.base X.outer:=by
 have all:∀(l:List Env),(∀b∈frs l,b∈X.fs)->X.s₀.heap.FunFrames X.base l->s.heap.FunFrames X.base l:=by
  intro l
  induction l with
  | nil=>intro _ _;trivial
  | cons env r ih =>
  intro hs hl;obtain⟨hk,⟨L,o,hf,hn,ho,hd⟩,hr⟩:=hl;have hL:L∈X.fs:=hs L (by unfold frs;rw[List.filterMap_cons,hf];exact Xj);obtain⟨sl,e⟩:=I.base.slot L o ho (I.ok.frf L hL) hL λz=>I.ok.exfs L z hL;exact⟨hk,⟨L,_,hf,hn,e,hd⟩,ih (λb hb=>hs b (by unfold frs;rw[List.filterMap_cons,hf];exact Qw _ hb)) hr⟩
 exact all X.outer (λ_ hb=>hb) I.ok.funs
theorem Inv.stack (I:Inv X pins σ H s):s.heap.FunFrames X.base X.stack:=by
 rcases I.ok.stk with e|⟨e,hf⟩
 ·rw[e];exact I.funs
 rw[e];obtain⟨m,hn,_⟩:=I.loc;refine .cons (by rw[I.ok.kind];decide) hf hn ?_ I.funs;exact Heap.get?_none_of_le (Q0 I.ok.bsz I.ok.above)
theorem Inv.stkSub (I:Inv X pins σ H s):∀b∈frs X.stack,b∈X.env.locals::X.fs:=λb hb=>by
 rcases I.ok.stk with e|⟨e,hf⟩
 ·rw[e]at hb;exact Qw _ hb
 rw[e]at hb;unfold frs at hb;rw[List.filterMap_cons,hf]at hb;exact hb
theorem Inv.stkFree (I:Inv X pins σ H s):∀b∈frs X.stack,H b=none:=λb hb=>by
 rcases QV.mp (I.stkSub b hb) with e|hb
 ·rw[e];exact I.free
 obtain⟨_,o,ho,_⟩:=I.ok.funs.mem hb;exact I.base.free b o ho (I.ok.frf b hb) λz=>I.ok.exfs b z hb
theorem Inv.step {g':Array GenState} {t':Nat} {d':Drawn} {ch:List Addr} (I:Inv X pins σ H s)
  (hch:∀b∈ch,(b∈X.ex\/X.s₀.heap.objs.size<=b)/\b≠X.env.locals/\(∀x c,X.env.cells.lookup x=some c->c≠b)/\∀p∈X.pn++pins,p.1≠b)
  (keep:∀b o,b≠X.env.locals->b∉X.fs->b∉ch->s.heap.get? b=some o->H b=none->h'.get? b=some o)
  (slot:∀b o,b≠X.env.locals->b∈X.fs->b∉ch->s.heap.get? b=some o->H b=none->∃sl,h'.get? b=some { o with slots:=sl }) (free:∀b o,b∉ch->s.heap.get? b=some o->H b=none->H' b=none)
  (there:∀b o,b∉ch->s.heap.get? b=some o->∃o',h'.get? b=some o')
  (tups:∀b xs,H b=some (.tup xs)->H' b=some (.tup xs)) (frzs:∀b o u,H b=some (.frz o u)->H' b=some (.frz o u)) (tbls:∀b ps,H b=some (.tbl ps)->∃more,H' b=some (.tbl (ps++more)))
  (ns:∀m,s.heap.Ns X.env.locals m->h'.Ns X.env.locals m) (hok:HOk X.prog X.w H' h') (hg:AllBare g') :
  Inv X pins σ H' { s with heap:=h',gens:=g',drawn:=d',toks:=t' }:=by
 have neL:∀b o,X.s₀.heap.get? b=some o->b≠X.env.locals:=λb o e=>Qz (QC (Qm e) I.ok.above)
 have neC:∀b o,X.s₀.heap.get? b=some o->b∉X.ex->b∉ch:=λb o e hx hb=>by
  rcases(hch b hb).1 with z|z
  ·exact hx z
  exact absurd (QC (Qm e) z) (Nat.lt_irrefl _)
 have cellK:∀x c,X.env.cells.lookup x=some c->∀v,s.heap.IsCell c v->h'.IsCell c v:=λx c e v ⟨o,ho,hd⟩=>by
  have nch:c∉ch:=λz=>(hch c z).2.2.1 x c e rfl;by_cases hc:c∈X.fs
  ·obtain⟨sl,q⟩:=slot c o (I.cne x c e) hc nch ho (I.freeC x c e);exact⟨_,q,hd⟩
  exact⟨o,keep c o (I.cne x c e) hc nch ho (I.freeC x c e),hd⟩
 refine⟨I.ok,I.os,hg,⟨λb o e n hb hx=>?_,λb o e n hb hx=>?_,λb o e n hx=>?_,λb o e hx=>?_,λb xs e=>tups b xs (I.base.tups b xs e),λb o xs e=>frzs b o xs (I.base.frzs b o xs e),λb ps e=>?_⟩,?_,λx c e=>?_,?_,λx c e=>?_,λp hp=>?_,hok,I.len⟩
 ·exact keep b o (neL b o e) hb (neC b o e hx) (I.base.keep b o e n hb hx) (I.base.free b o e n hx)
 ·obtain⟨sl,e1⟩:=I.base.slot b o e n hb hx;obtain⟨sl',e2⟩:=slot b _ (neL b o e) hb (neC b o e hx) e1 (I.base.free b o e n hx);exact⟨sl',e2⟩
 ·obtain⟨o',e1⟩:=I.base.there b o e hx;exact free b o' (neC b o e hx) e1 (I.base.free b o e n hx)
 ·obtain⟨o',e1⟩:=I.base.there b o e hx;exact there b o' (neC b o e hx) e1
 ·obtain⟨m1,e1⟩:=I.base.tbls b ps e;obtain⟨m2,e2⟩:=tbls b _ e1;exact⟨m1++m2,by rw[e2,Array.append_assoc]⟩
 ·obtain⟨m,hn,hl⟩:=I.loc;refine⟨m,ns m hn,λi x v e1 e2 e3=>?_⟩;obtain⟨u,r,l⟩:=hl i x v e1 e2 e3;refine⟨u,r,?_⟩;rcases l with l|⟨k,c,e,z⟩
  ·exact .inl l
  exact .inr ⟨k,c,e,cellK x c e _ z⟩
 ·obtain⟨v,z⟩:=I.cell x c e;exact⟨v,cellK x c e v z⟩
 ·obtain⟨m,⟨o,_,_,ho,_⟩,_⟩:=I.loc;exact free _ o (λz=>(hch _ z).2.1 rfl) ho I.free
 ·obtain⟨v,o,ho,hd⟩:=I.cell x c e;exact free c o (λz=>(hch c z).2.2.1 x c e rfl) ho (I.freeC x c e)
 obtain⟨e,n,ne,nf,d⟩:=I.pin p hp;have nch:p.1∉ch:=λz=>(hch p.1 z).2.2.2 p hp rfl;exact⟨keep p.1 p.2 ne nf nch e n,free p.1 p.2 nch e n,ne,nf,d⟩
theorem Inv.un {t':Nat} (I:Inv X pins σ H s) (u:Un X.fs [] H H' s.heap h') (hok:HOk X.prog X.w H' h'):Inv X pins σ H' { s with heap:=h',toks:=t' }:=by
 obtain⟨m,⟨o,es,ep,ho,r⟩,_⟩:=id I.loc;obtain⟨sl,hL⟩:=u.any ho I.free (by simp)
 exact I.step (g':=s.gens) (d':=s.drawn) (ch:=[]) (λ_ z=>nomatch z) (λb o _ hb _ e n=>u.keep b o e n hb (by simp)) (λb o _ hb _ e n=>u.slot b o e n hb (by simp)) (λb o _ e n=>u.free b o e n (by simp)) (λb o _ e=>u.there b o e (by simp)) u.tups u.frzs u.tbls (λm' hm=>by
  obtain⟨o',es',ep',ho',r'⟩:=hm;rw[ho]at ho';cases ho'
  exact⟨_,es',ep',hL,r'⟩) hok I.bare
theorem Inv.call {g':Array GenState} {t':Nat} {d':Drawn} {ch:List Addr} (I:Inv X pins σ H s) (u:Un (frs X.stack) ch H H' s.heap h') (hok:HOk X.prog X.w H' h') (hg:AllBare g')
  (hch:∀b∈ch,(b∈X.ex\/X.s₀.heap.objs.size<=b)/\b≠X.env.locals/\(∀x c,X.env.cells.lookup x=some c->c≠b)/\∀p∈X.pn++pins,p.1≠b) :
  Inv X pins σ H' { s with heap:=h',gens:=g',drawn:=d',toks:=t' }:=by
 obtain⟨m,⟨o,es,ep,ho,r⟩,_⟩:=id I.loc;obtain⟨sl,hL⟩:=u.any ho I.free λz=>(hch _ z).2.1 rfl
 exact I.step (ch:=ch) hch (λb o hL hb hc e n=>u.keep b o e n (λz=>(QV.mp (I.stkSub b z)).elim hL hb) hc) (λb o _ _ hc e n=>u.any e n hc) (λb o hc e n=>u.free b o e n hc) (λb o hc e=>u.there b o e hc) u.tups u.frzs u.tbls (λm' hm=>by
  obtain⟨o',es',ep',ho',r'⟩:=hm;rw[ho]at ho';cases ho'
  exact⟨_,es',ep',hL,r'⟩) hok hg
theorem Inv.turned {t':Nat} {it:Addr} (I:Inv X pins σ H s) (k:∀b o,b≠it->s.heap.get? b=some o->h'.get? b=some o) (hn:H it=none) (hL:it≠X.env.locals)
  (h1:it∈X.ex\/X.s₀.heap.objs.size<=it) (h2:∀x c,X.env.cells.lookup x=some c->c≠it) (h3:∀p∈X.pn++pins,p.1≠it):Inv X pins σ H { s with heap:=h',toks:=t' }:=by
 have nit:∀b u,H b=some u->b≠it:=λb u e z=>by rw[z,hn]at e;cases e
 refine I.step (g':=s.gens) (d':=s.drawn) (ch:=[it]) (λb hb=>?_) (λb o _ _ hc e _=>k b o (λz=>hc (by simp[z])) e) (λb o _ _ hc e _=>⟨o.slots,k b o (λz=>hc (by simp[z])) e⟩) (λ_ _ _ _ n=>n)
  (λb o hc e=>⟨o,k b o (λz=>hc (by simp[z])) e⟩) (λ_ _ e=>e) (λ_ _ _ e=>e) (λb ps e=>⟨#[],by rw[e];simp⟩) (λm hm=>?_) (λb u e=>?_) I.bare
 ·have e:b=it:=by simpa using hb
  subst e;exact⟨h1,hL,h2,h3⟩
 ·obtain⟨o,es,ep,ho,r⟩:=hm;exact⟨o,es,ep,k _ o (XF hL) ho,r⟩
 refine(I.hok b u e).stay (λc v hc q=>k c v ?_ q) (λ_ q=>q) λ_ _ q=>q;rcases hc with z|z
 ·rw[z];exact nit b u e
 exact nit c _ z
theorem Inv.tok (I:Inv X pins σ H s) (t:Nat):Inv X pins σ H { s with toks:=t }:=I.un (h':=s.heap) (t':=t) Un.refl I.hok
theorem Inv.kept {t':Nat} (I:Inv X pins σ H s) (k:∀b u,s.heap.get? b=some u->h'.get? b=some u):Inv X pins σ H { s with heap:=h',toks:=t' }:=I.un (Un.kept k) (I.hok.kept k)
theorem Inv.laid {a:Addr} {o:HO} {t':Nat} (I:Inv X pins σ H s) (k:∀b u,s.heap.get? b=some u->h'.get? b=some u) (hp:s.heap.objs.size<=a) (new:bt X.prog X.w (upd H a o) h' a o) :
  Inv X pins σ (upd H a o) { s with heap:=h',toks:=t' }:=I.un (Un.laid k hp (I.hok.fresh hp)) (I.hok.laid k hp new)
theorem Inv.write {x e:Addr} {o:HO} {t':Nat} (I:Inv X pins σ H s) (mu:Mut (H x)) (he:e=x\/H e=some (.own x)) (k:∀b u,b≠e->s.heap.get? b=some u->h'.get? b=some u) (heo:∃u,h'.get? e=some u)
  (new:bt X.prog X.w (upd H x o) h' x o):Inv X pins σ (upd H x o) { s with heap:=h',toks:=t' }:=I.un (Un.write mu he k heo) (I.hok.write mu he k heo new)
theorem Inv.weak {σ':List (Option V)} (I:Inv X pins σ H s) (hl:σ'.length=σ.length) (w:∀(i:Nat) v,σ'[i]?=some (some v)->σ[i]?=some (some v)):Inv X pins σ' H s :=
 ⟨I.ok,I.os,I.bare,I.base,let ⟨m,hn,hl'⟩:=I.loc;⟨m,hn,λi x v e1 e2 e3=>hl' i x v e1 (w i v e2) e3⟩,I.cell,I.free,I.freeC,I.pin,I.hok,hl.trans I.len⟩
theorem Inv.pins_of {pins':List (Addr × Obj)} (I:Inv X pins σ H s) (h:∀p∈pins',s.heap.get? p.1=some p.2/\H p.1=none/\p.1≠X.env.locals/\p.1∉X.fs/\∀v,p.2.data≠.cell v):Inv X pins' σ H s :=
 ⟨I.ok,I.os,I.bare,I.base,I.loc,I.cell,I.free,I.freeC,λp hp=>(Qv.mp hp).elim (λz=>I.pin p (List.mem_append_left _ z)) (h p),I.hok,I.len⟩
theorem oZ {N:List Str} (hN:N.Nodup) {i j:Nat} {x:Str} (a:N[i]?=some x) (b:N[j]?=some x):i=j:=by
 obtain⟨h1,e1⟩:=Qe.mp a;obtain⟨h2,e2⟩:=Qe.mp b;exact(List.getElem_inj hN).mp (e1.trans e2.symm)
variable {Q:Unit->Shared->Prop} {E:Value->Shared->Prop}
theorem lG {M:Model} {A:Around} {i:Nat} {x:Str} {v:V} {u:Value} (I:Inv X pins σ H s) (hN:X.N.Nodup) (hi:X.N[i]?=some x) (hx:Loc X.env.scope x) (r:aS v u)
  (h:∀s',Inv X pins (σ.set i (some v)) H s'->(∃a,Heap.SameBut a s.heap s'.heap/\(a=X.env.locals\/X.env.cells.lookup x=some a))->Q () s') (hf:X.fn x=true\/X.env.scope.names.lookup x=some .local:=by walk_at "z"):wpAny M A (storeName X.env x u) Q E s:=by
 obtain⟨m,hn,hl⟩:=id I.loc;have hcls:(X.env.scope.kind==.class || (X.env.scope.kind==.module&&X.env.locals != X.env.globals))=false:=by rw[I.ok.kind];rfl
 have hiσ:i<σ.length:=by rw[I.len];exact(Qe.mp hi).1
 have cne:=I.cne
 have tracked:∀{a:Addr} {h':Heap},(∃o,s.heap.get? a=some o/\H a=none)->Heap.SameBut a s.heap h'->HOk X.prog X.w H h':=λ{a h'} ha hs b ob e=>by
  obtain⟨_,_,hfree⟩:=ha;refine(I.hok b ob e).stay (λc w' hc q=>(hs.2 c ?_).trans q) (λ_ q=>q) λ_ _ q=>q;rintro rfl;rcases hc with rfl|hc
  ·rw[hfree]at e;cases e
  rw[hfree]at hc;cases hc
 rcases hx with hk|hk
 ·refine wpAny_storeName_local hk hn (λh' hn' hs=>?_) hcls;obtain⟨oL,_,_,hoL,_⟩:=id hn;refine h _ ⟨I.ok,I.os,I.bare,⟨λb o e n hb hx=>?_,λb o e n hb hx=>?_,I.base.free,λb o e hx=>?_,I.base.tups,I.base.frzs,I.base.tbls⟩,⟨_,hn',λj y v' e1 e2 e3=>?_⟩,λy c e=>?_,I.free,I.freeC,λp hp=>?_,tracked ⟨oL,hoL,I.free⟩ hs,by simpa using I.len⟩ ⟨_,hs,.inl rfl⟩
  ·exact(hs.2 b (Qz (QC (Qm e) I.ok.above))).trans (I.base.keep b o e n hb hx)
  ·obtain⟨sl,e1⟩:=I.base.slot b o e n hb hx;exact⟨sl,(hs.2 b (Qz (QC (Qm e) I.ok.above))).trans e1⟩
  ·obtain⟨o',e1⟩:=I.base.there b o e hx;exact⟨o',(hs.2 b (Qz (QC (Qm e) I.ok.above))).trans e1⟩
  ·by_cases hj:j=i
   ·subst hj;rw[hi]at e1;cases e1;rw[List.getElem?_set_self hiσ]at e2;cases e2;exact⟨u,r,.inl ⟨hk,by simp⟩⟩
   rw[List.getElem?_set_ne (XF hj)]at e2;obtain⟨u',r',q⟩:=hl j y v' e1 e2 e3;refine⟨u',r',?_⟩;rcases q with⟨k,e⟩|⟨k,c,e,z⟩
   ·refine .inl ⟨k,?_⟩;have:y≠x:=λe=>hj (oZ hN e1 (e▸hi));simp[this,e]
   exact .inr ⟨k,c,e,z.sameBut hs (cne y c e)⟩
  ·obtain⟨w',z⟩:=I.cell y c e;exact⟨w',z.sameBut hs (cne y c e)⟩
  obtain⟨e,n,ne,nf,d⟩:=I.pin p hp;exact⟨(hs.2 p.1 ne).trans e,n,ne,nf,d⟩
 have hfn:X.fn x=true:=by
  rcases hf with z|z
  ·exact z
  rw[z]at hk;cases hk
 obtain⟨c,hc⟩:=I.ok.has x (.inl hk);obtain⟨w',z⟩:=I.cell x c hc;refine wpAny_storeName_cell I.ok.kind hk hc z (λh' hc' hs=>?_);obtain⟨oc,hoc,hocd⟩:=id z;refine h { s with heap:=h' } ⟨I.ok,I.os,I.bare,⟨λb o e n hb hx=>?_,λb o e n hb hx=>?_,I.base.free,λb o e hx=>?_,I.base.tups,I.base.frzs,I.base.tbls⟩,⟨m,hn.sameBut hs (XF (cne x c hc)),λj y v' e1 e2 e3=>?_⟩,λy c' e=>?_,I.free,I.freeC,λp hp=>?_,tracked ⟨oc,hoc,I.freeC x c hc⟩ hs,by simpa using I.len⟩ ⟨c,hs,.inr hc⟩
 ·exact(hs.2 b (Qz (QC (Qm e) (I.ok.cab x c hfn hc)))).trans (I.base.keep b o e n hb hx)
 ·obtain⟨sl,e1⟩:=I.base.slot b o e n hb hx;exact⟨sl,(hs.2 b (Qz (QC (Qm e) (I.ok.cab x c hfn hc)))).trans e1⟩
 ·obtain⟨o',e1⟩:=I.base.there b o e hx;exact⟨o',(hs.2 b (Qz (QC (Qm e) (I.ok.cab x c hfn hc)))).trans e1⟩
 ·by_cases hj:j=i
  ·subst hj;rw[hi]at e1;cases e1;rw[List.getElem?_set_self hiσ]at e2;cases e2;exact⟨u,r,.inr ⟨.inl hk,c,hc,hc'⟩⟩
  rw[List.getElem?_set_ne (XF hj)]at e2;obtain⟨u',r',q⟩:=hl j y v' e1 e2 e3;refine⟨u',r',?_⟩;rcases q with q|⟨k,c',e,z'⟩
  ·exact .inl q
  refine .inr ⟨k,c',e,z'.sameBut hs ?_⟩;rintro rfl;exact hj (oZ hN e1 (I.ok.inj _ _ _ e hc▸hi))
 ·by_cases hcc:c'=c
  ·subst hcc;exact⟨_,hc'⟩
  obtain⟨w2,z2⟩:=I.cell y c' e;exact⟨w2,z2.sameBut hs hcc⟩
 obtain⟨e,n,ne,nf,d⟩:=I.pin p hp;refine⟨(hs.2 p.1 ?_).trans e,n,ne,nf,d⟩;intro q;rw[q,hoc]at e;have q':oc=p.2:=Q2 e;exact d w' (by rw[<-q'];exact hocd)
theorem jo {M:Model} {A:Around} {i:Nat} {x:Str} {v:V} {u:Value} (I:Inv X pins σ H s) (hN:X.N.Nodup) (hi:X.N[i]?=some x) (hx:Loc X.env.scope x) (r:aS v u)
  (h:∀s',Inv X pins (σ.set i (some v)) H s'->Q () s') (hf:X.fn x=true\/X.env.scope.names.lookup x=some .local:=by walk_at "z"):wpAny M A (storeName X.env x u) Q E s :=
 lG I hN hi hx r (λs' I' _=>h s' I') hf
theorem Inv.call' {s':Shared} {ch:List Addr} (I:Inv X pins σ H s) (ho:s'.os=s.os) (u:Un (frs X.stack) ch H H' s.heap s'.heap) (hok:HOk X.prog X.w H' s'.heap) (hg:AllBare s'.gens)
  (hch:∀b∈ch,(b∈X.ex\/X.s₀.heap.objs.size<=b)/\b≠X.env.locals/\(∀x c,X.env.cells.lookup x=some c->c≠b)/\∀p∈X.pn++pins,p.1≠b):Inv X pins σ H' s':=by
 obtain⟨h',g',d',t',o'⟩:=s';have e:o'=s.os:=ho;subst e;exact I.call (g':=g') (t':=t') (d':=d') u hok hg hch
end
abbrev XK:=Value->Option Addr->Hp->Prop
abbrev St:=List (Option V)
abbrev VK:=V->Hp->Prop
abbrev TE:=St->Hp->VK->Prop
abbrev TT:=St->Hp->(Bool->Hp->Prop)->Prop
abbrev TA:=St->Hp->(List V->Hp->Prop)->Prop
structure Ends where
 nx:St->Hp->Prop
 rt:VK
 bk:St->Hp->Prop:=λ_ _=>False
 ct:St->Hp->Prop:=λ_ _=>False
abbrev TS:=Ends->St->Hp->Prop
def EP (X:Cx) (pins:List (Addr × Obj)) (σ:St) (Q:VK) (u:Value) (s':Shared):Prop:=∃v H',Inv X pins σ H' s'/\aS v u/\Q v H'
def TP (X:Cx) (pins:List (Addr × Obj)) (σ:St) (Q:Bool->Hp->Prop) (b:Bool) (s':Shared):Prop:=∃H',Inv X pins σ H' s'/\Q b H'
def AP (X:Cx) (pins:List (Addr × Obj)) (σ:St) (Q:List V->Hp->Prop) (us:List Value) (s':Shared):Prop:=∃vs H',Inv X pins σ H' s'/\aY vs us/\Q vs H'
def SP (X:Cx) (pins:List (Addr × Obj)) (D:Ends) (f:Flow) (s':Shared):Prop :=
 match f with
 | .next=>∃σ' H',Inv X pins σ' H' s'/\D.nx σ' H'
 | .brk=>∃σ' H',Inv X pins σ' H' s'/\D.bk σ' H'
 | .cont=>∃σ' H',Inv X pins σ' H' s'/\D.ct σ' H'
 | .ret u=>∃v σ' H',Inv X pins σ' H' s'/\aS v u/\D.rt v H'
def PE (X:Cx) (e:Expr) (t:TE):Prop :=
 ∀(pins:List (Addr × Obj)) (s:Shared) (σ:St) (H:Hp) (Q:VK),Inv X pins σ H s->t σ H Q->wpAny (model X.prog X.w) X.A (eval e X.env) (EP X pins σ Q) X.xe s
def PT (X:Cx) (e:Expr) (t:TT):Prop :=
 ∀(pins:List (Addr × Obj)) (s:Shared) (σ:St) (H:Hp) (Q:Bool->Hp->Prop),Inv X pins σ H s->t σ H Q->wpAny (model X.prog X.w) X.A (isTrue e X.env (eval e X.env)) (TP X pins σ Q) X.xe s
def PW (X:Cx) (e:Expr) (t:TT):Prop :=
 ∀(whole:Sem Value) (pins:List (Addr × Obj)) (s:Shared) (σ:St) (H:Hp) (Q:Bool->Hp->Prop),Inv X pins σ H s->t σ H Q->wpAny (model X.prog X.w) X.A (isTrue e X.env whole) (TP X pins σ Q) X.xe s
variable {e tg:Expr} {X:Cx}
theorem PW.pt {t:TT} (h:PW X e t):PT X e t:=h _
def PA (X:Cx) (es:List Expr) (t:TA):Prop :=
 ∀(pos:Pos) (pins:List (Addr × Obj)) (s:Shared) (σ:St) (H:Hp) (Q:List V->Hp->Prop),Inv X pins σ H s->t σ H Q->wpAny (model X.prog X.w) X.A (spliced (backTo pos (starEach es X.env))) (AP X pins σ Q) X.xe s
def PS (X:Cx) (st:Stmt) (t:TS):Prop :=
 ∀(pins:List (Addr × Obj)) (s:Shared) (σ:St) (H:Hp) (D:Ends),Inv X pins σ H s->t D σ H->wpAny (model X.prog X.w) X.A (exec st X.env) (SP X pins D) X.xe s
def PSs (X:Cx) (st:List Stmt) (t:TS):Prop :=
 ∀(pins:List (Addr × Obj)) (s:Shared) (σ:St) (H:Hp) (D:Ends),Inv X pins σ H s->t D σ H->wpAny (model X.prog X.w) X.A (execs st X.env) (SP X pins D) X.xe s
variable {s s1:Shared} {E:Value->Shared->Prop} {A:Around}
theorem thn {α:Type} {t:Sem α} {Q Q':α->Shared->Prop} {M:Model} (h:wpAny M A t Q E s) (hQ:∀a s,Q a s->Q' a s):wpAny M A t Q' E s:=Xm h hQ λ_ _ x=>x
section
variable {X:Cx}
def cX (i:Nat):TE:=λσ H Q=>∃v,σ[i]?=some (some v)/\Q v H
def tC (v:V):TE:=λ_ H Q=>Q v H
variable {x:Str}
theorem zj {i:Nat} {pos:Pos} (hN:X.N[i]?=some x) (hv:Vis X.env.scope x) (hd:(x==("__debug__" : Str))=false:=by decide) (hcd:(x==("__classdict__" : Str))=false:=by decide):PE X (.Name x pos) (cX i):=by
 intro pins s σ H Q I h;obtain⟨v,e,h⟩:=h;obtain⟨m,hn,hl⟩:=I.loc;obtain⟨u,r,l⟩:=hl i x v hN e hv;have fin:EP X pins σ Q u s:=⟨v,H,I,r,h⟩;rcases l with⟨hk,hm⟩|⟨hk,c,hc,hcell⟩
 ·exact wpAny_Name (wpAny_loadName_local I.ok.kind hk hn hm fin) hd
 rcases hk with hk|hk
 ·exact wpAny_Name (wpAny_loadName_cell I.ok.kind hk hc hcell fin) hd
 exact wpAny_Name (wpAny_loadName_free I.ok.kind hk hc hcell fin hcd) hd
theorem af {i j pos}:PE X (.Constant (.int i) j pos) (tC (.int i)):=λ_ _ _ H _ I h=>wpAny_Constant_int ⟨.int i,H,I.tok _,⟨_,rfl⟩,h⟩
theorem bR {b j pos}:PE X (.Constant (.bool b) j pos) (tC (.bl b)):=λ_ _ _ H _ I h=>Constant_bool ⟨.bl b,H,I,rfl,h⟩
theorem fJ {j pos}:PE X (.Constant .none j pos) (tC .non):=λ_ _ _ H _ I h=>Constant_none ⟨.non,H,I,rfl,h⟩
theorem aM {x j pos}:PE X (.Constant (.str x) j pos) (tC (.str x)):=λ_ _ _ H _ I h=>Calls.Constant_str ⟨.str x,H,I.tok _,⟨_,rfl⟩,h⟩
def Gl (X:Cx) (x:Str):Prop:=X.env.kindOf x=some .globalImplicit
variable {Q E:Value->Shared->Prop} {u:Value} {pins:List (Addr × Obj)}
theorem nv {s:Shared} {σ:St} {H:Hp} {pos:Pos} (I:Inv X pins σ H s) (hg:Gl X x) (hm:X.mg x=some u) (h:Q u s)
  (hd:(x==("__debug__" : Str))=false:=by decide):wpAny (model X.prog X.w) X.A (eval (.Name x pos) X.env) Q E s :=
 Calls.Name_function_global I.ok.kind hg (Calls.loadGlobal_global (by rw[I.ok.glob];exact I.mod.glob.keeps I.bk) hm h) hd
theorem dO {s:Shared} {σ:St} {H:Hp} {pos:Pos} (I:Inv X pins σ H s) (hg:Gl X x) (hm:X.mg x=none) (hv:bootBuiltins x=some u) (h:Q u s)
  (hn:x ≠ "__name__" := by decide) (hd:(x==("__debug__" : Str))=false:=by decide):wpAny (model X.prog X.w) X.A (eval (.Name x pos) X.env) Q E s:=by
 obtain⟨mb,h1,h2⟩:=I.mod.blt;exact Calls.Name_function_global I.ok.kind hg (Calls.loadGlobal_builtin (by rw[I.ok.glob];exact I.mod.glob.keeps I.bk) hm (by rw[I.ok.blt];exact h1.keeps I.bk) ((h2 x hn).trans hv) h) hd
theorem rK {v:V} {pos:Pos} (hg:Gl X x) (hm:X.mg x=some u) (r:aS v u) (hd:(x==("__debug__" : Str))=false:=by decide):PE X (.Name x pos) (tC v) :=
 λ_ _ _ H _ I h=>nv I hg hm ⟨v,H,I,r,h⟩ hd
theorem c_ {v:V} {pos:Pos} (hg:Gl X x) (hm:X.mg x=none) (hv:bootBuiltins x=some u) (r:aS v u) (hn:x ≠ "__name__" := by decide) (hd:(x==("__debug__" : Str))=false:=by decide):PE X (.Name x pos) (tC v) :=
 λ_ _ _ H _ I h=>dO I hg hm hv ⟨v,H,I,r,h⟩ hn hd
variable {a b:Expr} {ta tb:TE} {pos:Pos}
def PC (X:Cx) (op:CmpOp) (a b:Expr) (t:TE):Prop :=
 ∀(pins:List (Addr × Obj)) (s:Shared) (σ:St) (H:Hp) (Q:VK),Inv X pins σ H s->t σ H Q ->
  wpAny (model X.prog X.w) X.A (eval a X.env) (λv s₁=>wpAny (model X.prog X.w) X.A (eval b X.env) (λu s₂=>wpAny (model X.prog X.w) X.A (compareOp op v u) (EP X pins σ Q) X.xe s₂) X.xe s₁) X.xe s
def tB (t:TE):TT:=λσ H Q=>t σ H λx H1=>∃c,x=.bl c/\Q c H1
variable {t:TE}
theorem zn {op:CmpOp} (h:PC X op a b t) (h1:behindInMarks op b=false:=by first|exact nobehind _ (by decide) (by decide)|rfl):PE X (.Compare a [op] [b] pos) t:=λpins s σ H Q I hw=>wpAny_Compare1 (h pins s σ H Q I hw) h1
theorem fG {op:CmpOp} (h:PC X op a b t) (h1:behindInMarks op b=false:=by first|exact nobehind _ (by decide) (by decide)|rfl):PT X (.Compare a [op] [b] pos) (tB t):=by
 intro pins s σ H Q I hw;refine wpAny_isTrue_Compare1 (thn (h pins s σ H _ I hw) λv s1 h1=>thn h1 λu s2 h2=>thn h2 λc s3 ⟨x,H1,I1,r1,q1⟩=>?_) h1;obtain⟨d,rfl,q⟩:=q1;cases r1;exact wpAny_truthy_bool ⟨H1,I1,q⟩
theorem cK {e:Expr} (h:PE X e t) (he:∀whole,isTrue e X.env whole=(do let v <-whole;standAt e.pos;holding [v] (truthy v)):=by intro _;rfl):PT X e (tB t):=by
 intro pins s σ H Q I hw;refine isTrue_plain (thn (h pins s σ H _ I hw) λv s1 ⟨x,H1,I1,r1,q1⟩=>?_) (he _);obtain⟨d,rfl,q⟩:=q1;cases r1;exact wpAny_truthy_bool ⟨H1,I1,q⟩
variable {tA tB':TT} {rest:List Expr}
def Ay (t u:TT):TT:=λσ H Q=>t σ H λc H1=>if c=true then u σ H1 Q else Q false H1
def tOr (t u:TT):TT:=λσ H Q=>t σ H λc H1=>if c=true then Q true H1 else u σ H1 Q
def Ao (t:TT):TT:=λσ H Q=>t σ H λc H1=>Q (!c) H1
theorem ja (ha:PT X a tA):PW X (.BoolOp .And [a] pos) tA:=by
 intro wh pins s σ H Q I h;refine isTrue_and (thn (ha pins s σ H Q I h) λc s1 e=>?_)
 cases c with
 | true=>exact isTrue_and_nil e
 | false=>exact e
theorem cR (ha:PT X a tA):PW X (.BoolOp .Or [a] pos) tA:=by
 intro wh pins s σ H Q I h;refine isTrue_or (thn (ha pins s σ H Q I h) λc s1 e=>?_)
 cases c with
 | false=>exact isTrue_or_nil e
 | true=>exact e
theorem m_ (ha:PT X a tA) (hb:PW X (.BoolOp .And (b::rest) pos) tB'):PW X (.BoolOp .And (a::b::rest) pos) (Ay tA tB'):=by
 intro wh pins s σ H Q I h;refine isTrue_and (thn (ha pins s σ H _ I h) λc s1 ⟨H1,I1,q1⟩=>?_)
 cases c with
 | true=>exact hb wh pins s1 σ H1 Q I1 q1
 | false=>exact⟨H1,I1,q1⟩
theorem dq (ha:PT X a tA) (hb:PW X (.BoolOp .Or (b::rest) pos) tB'):PW X (.BoolOp .Or (a::b::rest) pos) (tOr tA tB'):=by
 intro wh pins s σ H Q I h;refine isTrue_or (thn (ha pins s σ H _ I h) λc s1 ⟨H1,I1,q1⟩=>?_)
 cases c with
 | true=>exact⟨H1,I1,q1⟩
 | false=>exact hb wh pins s1 σ H1 Q I1 q1
theorem c8 (ha:PT X a tA):PT X (.UnaryOp .Not a pos) (Ao tA):=by
 intro pins s σ H Q I h;exact isTrue_not (ha pins s σ H (λc H1=>Q (!c) H1) I h)
def xV (ta tb:TE):TE:=λσ H Q=>ta σ H λx H1=>∃c,x=.bl c/\if c=true then tb σ H1 Q else Q (.bl false) H1
def An (ta tb:TE):TE:=λσ H Q=>ta σ H λx H1=>∃c,x=.bl c/\if c=true then Q (.bl true) H1 else tb σ H1 Q
def xQ (ta:TE):TE:=λσ H Q=>ta σ H λx H1=>∃c,x=.bl c/\Q (.bl (!c)) H1
theorem fI {op} (h:PE X a t):PE X (.BoolOp op [a] pos) t:=λpins s σ H Q I hw=>BoolOp_one (h pins s σ H Q I hw)
theorem fK (ha:PE X a ta) (hb:PE X (.BoolOp .And (b::rest) pos) tb):PE X (.BoolOp .And (a::b::rest) pos) (xV ta tb):=by
 intro pins s σ H Q I h;refine BoolOp_and (thn (ha pins s σ H _ I h) λv s1 ⟨x,H1,I1,r1,q1⟩=>?_);obtain⟨c,rfl,q1⟩:=q1;cases r1;refine wpAny_truthy_bool ?_
 cases c with
 | true=>exact hb pins s1 σ H1 Q I1 q1
 | false=>exact⟨.bl false,H1,I1,rfl,q1⟩
theorem yh (ha:PE X a ta) (hb:PE X (.BoolOp .Or (b::rest) pos) tb):PE X (.BoolOp .Or (a::b::rest) pos) (An ta tb):=by
 intro pins s σ H Q I h;refine BoolOp_or (thn (ha pins s σ H _ I h) λv s1 ⟨x,H1,I1,r1,q1⟩=>?_);obtain⟨c,rfl,q1⟩:=q1;cases r1;refine wpAny_truthy_bool ?_
 cases c with
 | false=>exact hb pins s1 σ H1 Q I1 q1
 | true=>exact⟨.bl true,H1,I1,rfl,q1⟩
theorem qp (ha:PE X a ta):PE X (.UnaryOp .Not a pos) (xQ ta):=by
 intro pins s σ H Q I h;refine UnaryOp_ (thn (ha pins s σ H _ I h) λv s1 ⟨x,H1,I1,r1,q1⟩=>?_);obtain⟨c,rfl,q1⟩:=q1;cases r1;exact not_of (wpAny_truthy_bool ⟨.bl (!c),H1,I1,rfl,q1⟩)
def tIf (t:TT) (ta tb:TE):TE:=λσ H Q=>t σ H λc H1=>if c=true then ta σ H1 Q else tb σ H1 Q
theorem uV {c:Expr} (hc:PT X c tA) (ha:PE X a ta) (hb:PE X b tb):PE X (.IfExp c a b pos) (tIf tA ta tb):=by
 intro pins s σ H Q I h;refine wpAny_IfExp (thn (hc pins s σ H _ I h) λd s1 ⟨H1,I1,q1⟩=>?_)
 cases d with
 | true=>exact ha pins s1 σ H1 Q I1 q1
 | false=>exact hb pins s1 σ H1 Q I1 q1
end
def SqL (K:PySem.W.Frag) (H:Hp) (a:Addr) (xs:List V):Prop :=
 Rd H a (.lst xs) \/
  ∃(o:Obj) (its:Array Value) (n:Nat),K.lookup a=some o/\o.cls=.type "list" /\ o.dict=none/\o.data=.seq its n/\its.size<=sizeLine/\aY xs its.toList
def SqT (K:PySem.W.Frag) (H:Hp) (a:Addr) (xs:List V):Prop :=
 Rd H a (.tup xs) \/
  ∃(o:Obj) (its:Array Value) (n:Nat),K.lookup a=some o/\o.cls=.type "tuple" /\ o.data=.seq its n/\its.size<=sizeLine/\aY xs its.toList
noncomputable def Et:Value->Option V
 | .none=>some .non
 | .bool b=>some (.bl b)
 | .int i _=>some (.int i)
 | .str x _=>some (.str x)
 | .bytes b _=>some (.byt b)
 | .float b _=>some (.flt b)
 | .ref a=>some (.ref a)
 | .type n=>some (.ty n)
 | _=>none
theorem aS.abs {x:V} (r:aS x u):Et u=some x:=by
 cases x with
 | non=>cases r;rfl
 | bl _=>cases r;rfl
 | int _=>obtain⟨t,rfl⟩:=r;rfl
 | str _=>obtain⟨t,rfl⟩:=r;rfl
 | byt _=>obtain⟨t,rfl⟩:=r;rfl
 | flt _=>obtain⟨t,rfl⟩:=r;rfl
 | ref _=>cases r;rfl
 | ty _=>cases r;rfl
theorem aS.inj {x y:V} (r:aS x u) (q:aS y u):x=y:=Q2 (r.abs.symm.trans q.abs)
theorem aY.inj:∀{xs ys:List V} {us:List Value},aY xs us->aY ys us->xs=ys
 | _,_,_,.nil,.nil=>rfl
 | _,_,_,.cons r t,.cons r' t'=>by rw[r.inj r',aY.inj t t']
section
variable {X:Cx} {pins:List (Addr × Obj)} {σ:St} {H:Hp} {s:Shared} {a:Addr} {xs ys:List V}
theorem SqL.of {K:PySem.W.Frag} (h:H a=some (.lst xs)):SqL K H a xs:=.inl (.inl h)
theorem SqT.of {K:PySem.W.Frag} (h:H a=some (.tup xs)):SqT K H a xs:=.inl (.inl h)
theorem Inv.list (I:Inv X pins σ H s) (h:SqL X.K H a xs):∃its:List Value,aY xs its/\PlainL s.heap a its.toArray/\xs.length<=sizeLine:=by
 rcases h with h|⟨o,its,n,hk,hc,hd,hs,hz,r⟩
 ·obtain⟨z,its,n,r,e⟩:=h.ok I.hok;exact⟨its,r,⟨_,n,e,rfl,rfl,rfl⟩,z⟩
 refine⟨its.toList,r,⟨o,n,I.kIn a o hk,hc,hd,by simpa using hs⟩,?_⟩;have e:=r.length;simp only[Qo]at e;omega
theorem Inv.tuple (I:Inv X pins σ H s) (h:SqT X.K H a xs):∃its:List Value,aY xs its/\IsTup s.heap a its.toArray/\xs.length<=sizeLine:=by
 rcases h with h|⟨o,its,n,hk,hc,hs,hz,r⟩
 ·obtain⟨z,its,r,p⟩:=h.ok I.hok;exact⟨its,r,p,z⟩
 refine⟨its.toList,r,⟨o,I.kIn a o hk,hc,n,by simpa using hs⟩,?_⟩;have e:=r.length;simp only[Qo]at e;omega
theorem Inv.list_inj (I:Inv X pins σ H s) (h:SqL X.K H a xs) (h':SqL X.K H a ys):xs=ys:=by
 obtain⟨its,r,⟨o,n,e,_,_,d⟩,_⟩:=I.list h;obtain⟨its',r',⟨o',n',e',_,_,d'⟩,_⟩:=I.list h';rw[e]at e';cases e';rw[d]at d';injection d' with d1 _;have:its=its':=by simpa using congrArg Array.toList d1
 subst this;exact r.inj r'
end
abbrev Cx.wish (X:Cx) (E:Value->Shared->Prop):Cx:={ X with xe:=E }
abbrev Cx.nox (X:Cx):Cx:=X.wish λ_ _=>False
theorem Cx.Ok.wish (ok:X.Ok) (E:Value->Shared->Prop):(X.wish E).Ok :=
 ⟨ok.mod,ok.kind,ok.glob,ok.blt,ok.above,ok.inj,ok.has,ok.cab,ok.hd,ok.frames,ok.stk,ok.exf,ok.bs,ok.bsz,ok.noex,ok.exfs,ok.funs,ok.frf⟩
theorem Cx.Ok.unwish (ok:(X.wish E).Ok):X.Ok :=
 ⟨ok.mod,ok.kind,ok.glob,ok.blt,ok.above,ok.inj,ok.has,ok.cab,ok.hd,ok.frames,ok.stk,ok.exf,ok.bs,ok.bsz,ok.noex,ok.exfs,ok.funs,ok.frf⟩
section
variable {X:Cx} {pins:List (Addr × Obj)} {σ:St} {H:Hp} {s:Shared} {E:Value->Shared->Prop}
theorem Inv.wish (I:Inv X pins σ H s) (E:Value->Shared->Prop):Inv (X.wish E) pins σ H s:=⟨I.ok.wish E,I.os,I.bare,I.base,I.loc,I.cell,I.free,I.freeC,I.pin,I.hok,I.len⟩
theorem Inv.unwish (I:Inv (X.wish E) pins σ H s):Inv X pins σ H s:=⟨I.ok.unwish,I.os,I.bare,I.base,I.loc,I.cell,I.free,I.freeC,I.pin,I.hok,I.len⟩
theorem SP.unwish {D:Ends} {f:Flow} {s':Shared} (h:SP (X.wish E) pins D f s'):SP X pins D f s':=by
 cases f with
 | next=>obtain⟨σ',H',I,q⟩:=h;exact⟨σ',H',I.unwish,q⟩
 | brk=>obtain⟨σ',H',I,q⟩:=h;exact⟨σ',H',I.unwish,q⟩
 | cont=>obtain⟨σ',H',I,q⟩:=h;exact⟨σ',H',I.unwish,q⟩
 | ret u=>obtain⟨v,σ',H',I,r,q⟩:=h;exact⟨v,σ',H',I.unwish,r,q⟩
theorem PSs.nox {st:List Stmt} {t:TS} (h:PSs X.nox st t):PSs X st t:=λpins s σ H D I hw =>
 Xm (h pins s σ H D (I.wish _) hw) (λ_ _ q=>q.unwish) λ_ _ z=>False.elim z
end
section
variable {X:Cx} {st:Stmt} {rest:List Stmt} {t u:TS} {e:Expr} {te:TE} {pos:Pos}
def xR:TS:=λD σ H=>D.nx σ H
def wI (t u:TS):TS:=λD σ H=>t { D with nx:=u D } σ H
theorem pss_nil:PSs X [] xR:=λ_ _ σ H _ I h=>wpAny_execs_nil ⟨σ,H,I,h⟩
theorem pss_cons (h1:PS X st t) (h2:PSs X rest u):PSs X (st::rest) (wI t u):=by
 intro pins s σ H D I h;refine wpAny_execs_cons (thn (h1 pins s σ H { D with nx:=u D } I h) λf s1 q=>?_)
 cases f with
 | next =>
  obtain⟨σ',H',I',q⟩:=q;exact h2 pins s1 σ' H' D I' q
 | ret v=>exact q
 | brk=>exact q
 | cont=>exact q
theorem a8 (h1:PS X st t):PSs X [st] t:=by
 intro pins s σ H D I h;refine wpAny_execs_cons (thn (h1 pins s σ H D I h) λf s1 q=>?_)
 cases f with
 | next=>exact wpAny_execs_nil q
 | ret v=>exact q
 | brk=>exact q
 | cont=>exact q
theorem Inv.quiet {pins:List (Addr × Obj)} {σ:St} {H:Hp} {s:Shared} (I:Inv X pins σ H s):interactive X.env=false:=by simp[interactive,I.ok.kind]
def xT (te:TE):TS:=λD σ H=>te σ H λ_ H1=>D.nx σ H1
theorem bI (he:PE X e te) (hs:swapsWith e none pos.line X.env=pure false:=by rfl):PS X (.Expr e pos) (xT te):=by
 intro pins s σ H D I h;exact wpAny_Expr_any (thn (he pins s σ H _ I h) λv s1 ⟨x,H1,I1,r1,q1⟩=>⟨σ,H1,I1,q1⟩) I.quiet hs
def Am (te:TE):TS:=λD σ H=>te σ H D.rt
theorem aE (he:PE X e te):PS X (.Return (some e) pos) (Am te):=by
 intro pins s σ H D I h;exact wpAny_Return_some (thn (he pins s σ H _ I h) λv s1 ⟨x,H1,I1,r1,q1⟩=>⟨x,σ,H1,I1,r1,q1⟩)
def Aq (c:TT) (t u:TS):TS:=λD σ H=>c σ H λb H1=>if b=true then t D σ H1 else u D σ H1
theorem ps_if {c:Expr} {a b:List Stmt} {tc:TT} (hc:PT X c tc) (ha:PSs X a t) (hb:PSs X b u):PS X (.If c a b pos) (Aq tc t u):=by
 intro pins s σ H D I h;refine wpAny_If (thn (hc pins s σ H _ I h) λd s1 ⟨H1,I1,q1⟩=>?_)
 cases d with
 | true=>exact ha pins s1 σ H1 D I1 q1
 | false=>exact hb pins s1 σ H1 D I1 q1
def yW:TS:=λ_ _ _=>False
theorem sW {sts:List Stmt}:PSs X sts yW:=λ_ _ _ _ _ _ h=>h.elim
end
abbrev TG:=V->St->Hp->(St->Hp->Prop)->Prop
abbrev TGs:=List V->St->Hp->(St->Hp->Prop)->Prop
def PG (X:Cx) (target:Expr) (t:TG):Prop :=
 ∀(pins:List (Addr × Obj)) (s:Shared) (σ:St) (H:Hp) (v:V) (u:Value) (Q:St->Hp->Prop),Inv X pins σ H s->aS v u->t v σ H Q ->
  wpAny (model X.prog X.w) X.A (assign target X.env u) (λ_ s'=>∃σ' H',Inv X pins σ' H' s'/\Q σ' H') X.xe s
def PGs (X:Cx) (ts:List Expr) (t:TGs):Prop :=
 ∀(pins:List (Addr × Obj)) (s:Shared) (σ:St) (H:Hp) (vs:List V) (us:List Value) (Q:St->Hp->Prop),Inv X pins σ H s->aY vs us->t vs σ H Q ->
  wpAny (model X.prog X.w) X.A (assignInOrder ((assignEach ts X.env).map (·.2)) us) (λ_ s'=>∃σ' H',Inv X pins σ' H' s'/\Q σ' H') X.xe s
abbrev xJ:=V->V->V->Hp->(Hp->Prop)->Prop
def Ds (X:Cx) (t:xJ):Prop :=
 ∀(pins:List (Addr × Obj)) (s:Shared) (σ:St) (H:Hp) (o i v:V) (ov iv u:Value) (Q:Hp->Prop),Inv X pins σ H s->aS o ov->aS i iv->aS v u->t o i v H Q ->
  wpAny (model X.prog X.w) X.A (setItem ov iv u) (λ_ s'=>∃H',Inv X pins σ H' s'/\Q H') X.xe s
abbrev TIp:=V->V->Hp->VK->Prop
def PIp (X:Cx) (op:Operator) (t:TIp):Prop :=
 ∀(pins:List (Addr × Obj)) (s:Shared) (σ:St) (H:Hp) (x y:V) (v u:Value) (Q:VK),Inv X pins σ H s->aS x v->aS y u->t x y H Q ->
  wpAny (model X.prog X.w) X.A (inplaceOp op v u) (EP X pins σ Q) X.xe s
section
variable {X:Cx} {pos:Pos}
def fz (i:Nat):TG:=λv σ H Q=>Q (σ.set i (some v)) H
variable {x:Str}
theorem bj {i:Nat} (hN:X.N.Nodup) (hi:X.N[i]?=some x) (hx:Loc X.env.scope x) (hf:X.fn x=true\/X.env.scope.names.lookup x=some .local:=by walk_at "z"):PG X (.Name x pos) (fz i):=by
 intro pins s σ H v u Q I r h;exact wpAny_assign_Name (jo I hN hi hx r (λs' I'=>⟨_,H,I',h⟩) hf)
theorem bQ (i:Nat) (hN:X.N.Nodup) (hi:X.N[i]?=some x:=by rfl) (hx:Loc X.env.scope x:=by walk_at "z") (hf:X.fn x=true\/X.env.scope.names.lookup x=some .local:=by walk_at "z"):PG X (.Name x pos) (fz i):=bj hN hi hx hf
def Dj:TGs:=λvs σ H Q=>vs=[]/\Q σ H
def vX (t:TG) (u:TGs):TGs:=λvs σ H Q=>∃v r,vs=v::r/\t v σ H λσ' H'=>u r σ' H' Q
theorem eJ:PGs X [] Dj:=by
 intro pins s σ H vs us Q I r h;obtain⟨e,h⟩:=h;subst e;cases r;exact assignInOrder_nil ⟨σ,H,I,h⟩
variable {e o i tg:Expr}
theorem bD {es:List Expr} {t:TG} {u:TGs} (h1:PG X e t) (h2:PGs X es u)
  (hs:(assignEach (e::es) X.env).map (·.2)=assign e X.env::(assignEach es X.env).map (·.2):=by rfl):PGs X (e::es) (vX t u):=by
 intro pins s σ H vs us Q I r h;obtain⟨v,vr,e1,h⟩:=h;subst e1
 cases r with
 | cons r rr =>
 rw[hs];refine assignInOrder_cons (thn (h1 pins s σ H _ _ _ I r h) λ_ s1 ⟨σ1,H1,I1,q1⟩=>?_);exact h2 pins s1 σ1 H1 _ _ Q I1 rr q1
def Aa (K:PySem.W.Frag) (n:Nat) (t:TGs):TG:=λv σ H Q=>∃a xs,v=.ref a/\SqT K H a xs/\xs.length=n/\t xs σ H Q
theorem iw {es:List Expr} {k:Nat} {t:TGs} {n:Nat} (hc:X.calm=true) (h:PGs X es t)
  (hn:(assignEach es X.env).length=n:=by rfl) (hst:(assignEach es X.env).findIdx? (·.1)=none:=by rfl):PG X (.Tuple es k pos) (Aa X.K n t):=by
 intro pins s σ H v u Q I r hw;obtain⟨a,xs,e1,hq,hl,hw⟩:=hw;subst e1;cases r;obtain⟨its,rv,ht,hz⟩:=I.tuple hq;refine assign_Tuple_tuple (I.ok.hd hc) ht (by simp[hn,<-hl,rv.length]) hst λh' hx=>?_;have I1:Inv X pins σ H { s with heap:=h' }:=I.kept (t':=s.toks) λb o e=>hx b o (Qz (Qm e)) e;exact h pins _ σ H xs _ Q I1 (by simpa using rv) hw
def Di (to ti:TE) (t:xJ):TG:=λv σ H Q=>to σ H λo H1=>ti σ H1 λi H2=>t o i v H2 λH3=>Q σ H3
theorem uS {to ti:TE} {t:xJ} (ho:PE X o to) (hi:PE X i ti) (hs:Ds X t)
  (ha:∀v,assign (.Subscript o i pos) X.env v=(do
   let ov <-holding [v] (eval o X.env);let iv <-holding [v,ov] (eval i X.env)
   standAt pos
   holding [v,ov,iv] (setItem ov iv v)
   release [v,ov,iv] []):=by intro _;rfl):PG X (.Subscript o i pos) (Di to ti t):=by
 intro pins s σ H v u Q I r h;rw[ha];refine Qb (Q3 (thn (ho pins s σ H _ I h) λov s1 ⟨x,H1,I1,r1,q1⟩=>?_));refine Qb (Q3 (thn (hi pins s1 σ H1 _ I1 q1) λiv s2 ⟨y,H2,I2,r2,q2⟩=>?_));refine Qb (wpAny_standAt (Qb (Q3 (thn (hs pins s2 σ H2 x y v ov iv u _ I2 r1 r2 r q2) λ_ s3 ⟨H3,I3,q3⟩=>?_))));exact wpAny_release ⟨σ,H3,I3,q3⟩
def sO (te:TE) (g:TG):TS:=λD σ H=>te σ H λx H1=>g x σ H1 D.nx
variable {te:TE}
theorem uM {g:TG} (he:PE X e te) (hg:PG X tg g) (hs:swapsWithSole [tg] e pos.line X.env=pure false:=by rfl) (hw:swappedStores [tg] e X.env=pure none:=by rfl)
  (h1:(assignEach [tg] X.env).map (·.2)=[assign tg X.env]:=by rfl):PS X (.Assign [tg] e pos) (sO te g):=by
 intro pins s σ H D I h;refine wpAny_Assign_stores (thn (he pins s σ H _ I h) λv s1 ⟨x,H1,I1,r1,q1⟩=>?_) hs hw;rw[h1];exact thn (hg pins s1 σ H1 x v _ I1 r1 q1) λ_ s2 q=>q
variable {pos':Pos}
theorem uK {i:Nat} (hN:X.N.Nodup) (hi:X.N[i]?=some x) (hx:Loc X.env.scope x) (he:PE X e te) (hs:swapsWith e (some (.Name x pos')) pos.line X.env=pure false:=by rfl) (hf:X.fn x=true\/X.env.scope.names.lookup x=some .local:=by walk_at "z") :
  PS X (.Assign [.Name x pos'] e pos) (sO te (fz i)):=by
 intro pins s σ H D I h;refine wpAny_Assign_Name (thn (he pins s σ H _ I h) λv s1 ⟨y,H1,I1,r1,q1⟩=>?_) hs;exact jo I1 hN hi hx r1 (λs2 I2=>⟨_,H1,I2,q1⟩) hf
theorem aF (i:Nat) (hN:X.N.Nodup) (he:PE X e te) (hi:X.N[i]?=some x:=by rfl) (hx:Loc X.env.scope x:=by walk_at "z") (hs:swapsWith e (some (.Name x pos')) pos.line X.env=pure false:=by rfl) (hf:X.fn x=true\/X.env.scope.names.lookup x=some .local:=by walk_at "z"):PS X (.Assign [.Name x pos'] e pos) (sO te (fz i)):=uK hN hi hx he hs hf
def Dy (i:Nat) (te:TE) (ti:TIp):TS:=λD σ H=>∃x,σ[i]?=some (some x)/\te σ H λy H1=>ti x y H1 λz H2=>D.nx (σ.set i (some z)) H2
theorem uL {i:Nat} {op:Operator} {ti:TIp} (hN:X.N.Nodup) (hi:X.N[i]?=some x) (hx:Loc X.env.scope x) (he:PE X e te) (ho:PIp X op ti) (hf:X.fn x=true\/X.env.scope.names.lookup x=some .local:=by walk_at "z") :
  PS X (.AugAssign (.Name x pos') op e pos) (Dy i te ti):=by
 intro pins s σ H D I h;obtain⟨v,e1,h⟩:=h;obtain⟨m,hn,hl⟩:=I.loc;have vis:Vis X.env.scope x:=by rcases hx with k|k;exact .inl k;exact .inr (.inl k)
 obtain⟨u,r,l⟩:=hl i x v hi e1 vis;refine wpAny_AugAssign_Name ?_
 have go:wpAny (model X.prog X.w) X.A (eval e X.env) (λw s₂=>wpAny (model X.prog X.w) X.A (inplaceOp op u w) (λr s₃=>wpAny (model X.prog X.w) X.A (storeName X.env x r) (λ_=>SP X pins D .next) X.xe s₃) X.xe s₂) X.xe s:=by
  refine thn (he pins s σ H _ I h) λw s1 ⟨y,H1,I1,r1,q1⟩=>?_;refine thn (ho pins s1 σ H1 v y u w _ I1 r r1 q1) λz s2 ⟨zv,H2,I2,r2,q2⟩=>?_;exact jo I2 hN hi hx r2 (λs3 I3=>⟨_,H2,I3,q2⟩) hf
 rcases l with⟨hk,hm⟩|⟨hk,c,hc,hcell⟩
 ·exact wpAny_loadName_local I.ok.kind hk hn hm go
 rcases hk with hk|hk
 ·exact wpAny_loadName_cell I.ok.kind hk hc hcell go
 rcases hx with k|k
 ·have:X.env.scope.names.lookup x=some .free:=hk;rw[k]at this;cases this
 have:X.env.scope.names.lookup x=some .free:=hk;rw[k]at this;cases this
def ipI (f:Int->Int->Int):TIp:=λx y H Q=>∃i j,x=.int i/\y=.int j/\Q (.int (f i j)) H
theorem vR:PIp X .Add (ipI λi j=>i+j):=by
 intro pins s σ H x y v u Q I r1 r2 h;obtain⟨i,j,e1,e2,q⟩:=h;subst e1;subst e2;obtain⟨t,rfl⟩:=r1;obtain⟨t',rfl⟩:=r2;exact iadd_int ⟨.int _,H,I.tok _,⟨_,rfl⟩,q⟩
end
section
variable {X:Cx} {pos:Pos}
def yV (c:TT) (tb:TS):TS:=λD σ H=>∃W:Nat->St->Hp->Prop,(∃m,W m σ H)/\∀m σ H,W m σ H ->
 c σ H λb H1=>if b=true then ∃N:St->Hp->Prop,(∀σ' H',N σ' H'->∃m',m'<m/\W m' σ' H')/\tb { D with nx:=N,ct:=N,bk:=D.nx } σ H1 else D.nx σ H1
theorem fH {c:Expr} {body:List Stmt} {tc:TT} {tb:TS} (hp:PassesOwn (model X.prog X.w) X.A X.env X.xe) (hc:PT X c tc) (hb:PSs X body tb):PS X (.While c body [] pos) (yV tc tb):=by
 intro pins s σ H D I h;obtain⟨W,⟨m0,w0⟩,turn⟩:=h;refine wpAny_While (codeAny_whileLoop (λn s'=>∃σ' H',Inv X pins σ' H' s'/\W n σ' H') ?_ m0 ⟨σ,H,I,w0⟩);rintro n s1 ⟨σ1,H1,I1,w1⟩;refine wpAny_passesOwn hp (thn (hc pins s1 σ1 H1 _ I1 (turn n σ1 H1 w1)) λb s2 ⟨H2,I2,q2⟩=>?_)
 cases b with
 | true =>
  obtain⟨N,hN,q2⟩:=q2;rw[QF rfl];refine wpAny_passesOwn hp (thn (hb pins s2 σ1 H2 _ I2 q2) λf s3 q3=>?_)
  cases f with
  | next =>
   obtain⟨σ3,H3,I3,n3⟩:=q3;obtain⟨m',hm,w3⟩:=hN σ3 H3 n3;exact⟨m',hm,σ3,H3,I3,w3⟩
  | cont =>
   obtain⟨σ3,H3,I3,n3⟩:=q3;obtain⟨m',hm,w3⟩:=hN σ3 H3 n3;exact⟨m',hm,σ3,H3,I3,w3⟩
  | brk=>exact q3
  | ret v=>exact q3
 | false =>
 rw[QB Qn];exact wpAny_execs_nil ⟨σ1,H2,I2,q2⟩
end
structure It where
 go:Nat->Hp->Prop
 yld:Nat->Hp->V->Hp->Prop
 stop:Nat->Hp->Prop
def gF (X:Cx) (pins:List (Addr × Obj)) (H:Hp) (b:Addr):Prop :=
 H b=none/\b≠X.env.locals/\b∉X.fs/\(b∈X.ex\/X.s₀.heap.objs.size<=b)/\(∀x c,X.env.cells.lookup x=some c->c≠b)/\∀p∈X.pn++pins,p.1≠b
theorem Inv.fpOk {pins:List (Addr × Obj)} {σ:St} (I:Inv X pins σ H s) (hb:s.heap.objs.size<=b) (hn:H' b=none):gF X pins H' b:=by
 refine⟨hn,Nat.ne_of_gt (QC I.lt hb),I.nofs hb,.inr (Q0 I.sz hb),λx c e z=>?_,λp hp z=>?_⟩
 ·obtain⟨v,q⟩:=I.cell x c e;exact absurd (QC q.lt (by rw[z];exact hb)) (Nat.lt_irrefl _)
 exact absurd (QC (Qm (I.pin p hp).1) (by rw[z];exact hb)) (Nat.lt_irrefl _)
structure Turn (P:Program) (w:World) (K:PySem.W.Frag) (tg:Expr) (J:It) (fp:List Addr) (it:Addr) (tn:Nat->Heap->Prop):Prop where
 mem:it∈fp
 obj:∀i h,tn i h->∀b∈fp,∃o,h.get? b=some o/\∀v,o.data≠.cell v
 keep:∀i h h',tn i h->(∀b∈fp,∀o,h.get? b=some o->h'.get? b=some o)->tn i h'
 item:∀(X:Cx),X.prog=P->X.w=w->X.K=K->X.calm=true->∀(i:Nat) (pins:List (Addr × Obj)) (s:Shared) (σ:St) (H:Hp) (E:Value->Shared->Prop),Inv X pins σ H s->(∀b∈fp,gF X pins H b)->tn i s.heap->J.go i H ->
  wpAny (model P w) X.A (pyNext (.ref it)) (λr s1=>∃u,r=some u /\
   wpAny (model P w) X.A (letOwnedTupleGo tg (.ref it) u) (λ_ s2=>∃x H',Inv X pins σ H' s2/\aS x u/\J.yld i H x H'/\tn (i+1) s2.heap/\∀b∈fp,H' b=none) E s1) E s
 done:∀(X:Cx),X.prog=P->X.w=w->X.K=K->X.calm=true->∀(i:Nat) (pins:List (Addr × Obj)) (s:Shared) (σ:St) (H:Hp) (E:Value->Shared->Prop),Inv X pins σ H s->(∀b∈fp,gF X pins H b)->tn i s.heap->J.stop i H ->
  wpAny (model P w) X.A (pyNext (.ref it)) (λr s1=>r=none/\Inv X pins σ H s1) E s
 self:∀(A:Around) (i:Nat) (s:Shared) (Q:Value->Shared->Prop) (E:Value->Shared->Prop),tn i s.heap->Q (.ref it) s->wpAny (model P w) A (pyIter (.ref it)) Q E s
abbrev TI:=St->Hp->(It->Hp->Prop)->Prop
def PIE (X:Cx) (pins:List (Addr × Obj)) (σ:St) (tg:Expr) (R:It->Hp->Prop) (itv:Value) (s2:Shared):Prop :=
 ∃(it:Addr) (fp:List Addr) (tn:Nat->Heap->Prop) (J:It) (H':Hp),itv=.ref it/\Inv X pins σ H' s2/\Turn X.prog X.w X.K tg J fp it tn/\tn 0 s2.heap/\(∀b∈fp,gF X pins H' b)/\R J H'
def PI (X:Cx) (tg iter:Expr) (wi:TI):Prop :=
 ∀(pins:List (Addr × Obj)) (s:Shared) (σ:St) (H:Hp) (R:It->Hp->Prop),Inv X pins σ H s->wi σ H R ->
  wpAny (model X.prog X.w) X.A (eval iter X.env) (λv s1=>wpAny (model X.prog X.w) X.A (pyIter v) (PIE X pins σ tg R) X.xe s1) X.xe s
theorem vW {M:Model} {s:Shared} {o:Obj} {n:String} {vs:Array Value} {Q:Unit->Shared->Prop} (ho:s.heap.get? it=some o) (hc:o.cls=.type n) (hd:o.data=.fields vs)
  (hn:["enumerate", "zip", "dict_itemiterator", "dict_reverseitemiterator", "odict_iterator", "itertools.zip_longest", "itertools.pairwise"].contains n=false) (hQ:Q () s):wpAny M A (letOwnedTupleGo tg (.ref it) u) Q E s:=by
 unfold letOwnedTupleGo
 cases tg <;> first
  | exact Qf hQ
  | (cases u <;> first
    | exact Qf hQ
    |(refine Qb (wpAny_load ho ?_)
      rw[hc,hd];show wpAny M A (if (["enumerate", "zip", "dict_itemiterator", "dict_reverseitemiterator", "odict_iterator", "itertools.zip_longest", "itertools.pairwise"].contains n&&vs[0]?==some (rawInt _))=true then _ else _) Q E s;rw[QB (by intro h;rw[hn,Bool.false_and]at h;cases h)]
      exact Qf hQ))
def Itl (K:PySem.W.Frag) (a:Addr):It :=
 ⟨λi H=>∃xs x,SqL K H a xs/\xs[i]?=some x,λi H x H'=>H'=H/\∀xs,SqL K H a xs->xs[i]?=some x,λi H=>∃xs,SqL K H a xs/\xs.length<=i⟩
def Itr (lo:Int) (n:Nat):It:=⟨λi _=>i<n,λi H x H'=>H'=H/\x=.int (lo+i),λi _=>n<=i⟩
variable {K:PySem.W.Frag}
theorem turn_list (a it:Addr):Turn P w K tg (Itl K a) [it] it (λi h=>h.IsListIter it a i) where
 mem:=by simp
 obj:=λi h st b hb=>by
  have e:b=it:=by simpa using hb
  subst e;obtain⟨o,e,c,d⟩:=st;exact⟨o,e,λv z=>by rw[d]at z;cases z⟩
 keep:=λi h h' st k=>st.at λo e=>k it (by simp) o e
 item:=by
  intro X hP hw hK hc i pins s σ H E I hf st hg;subst hP hw hK;obtain⟨xs,x,hq,hx⟩:=hg;obtain⟨its,rv,p,hz⟩:=I.list hq;obtain⟨u,hu,ru⟩:=rv.get hx;obtain⟨f0,f1,f2,f3,f4,f5⟩:=hf it (by simp);refine wpAny_pyNext_list_item st p.isList (x:=u) (by simpa using hu) λh' st' sb=>?_;have I1:Inv X pins σ H { s with heap:=h' }:=I.turned (t':=s.toks) (λb o hb e=>(sb.2 b hb).trans e) f0 f1 f3 f4 f5;obtain⟨o,e,c,d⟩:=id st';exact⟨u,rfl,vW (s:={ s with heap:=h' }) e c d (by decide) ⟨x,H,I1,ru,⟨rfl,λys hy=>by rw[I.list_inj hy hq];exact hx⟩,st',λb hb=>(hf b hb).1⟩⟩
 done:=by
  intro X hP hw hK hc i pins s σ H E I hf st hg;subst hP hw hK;obtain⟨xs,hq,hx⟩:=hg;obtain⟨its,rv,p,hz⟩:=I.list hq;obtain⟨f0,f1,f2,f3,f4,f5⟩:=hf it (by simp);have hl:=rv.length;exact wpAny_pyNext_list_end (I.ok.hd hc) st p.isList (by simp;omega) λh' eb=>⟨rfl,I.turned (t':=s.toks) (λb o hb e=>eb b o hb e) f0 f1 f3 f4 f5⟩
 self:=λ_ _ _ _ _ st h=>wpAny_pyIter_listiter st h
theorem pS (it:Addr) (lo:Int) (n:Nat):Turn P w K tg (Itr lo n) [it] it (λi h=>IsRangeIter h it (lo+(i:Nat)*1) ((n:Int)-(i:Nat)) 1) where
 mem:=by simp
 obj:=λi h st b hb=>by
  have e:b=it:=by simpa using hb
  subst e
  exact⟨_,st,λv z=>by
   have z':Data.fields _=Data.cell v:=z
   cases z'⟩
 keep:=λi h h' st k=>k it (by simp) _ st
 item:=by
  intro X hP hw hK hc i pins s σ H E I hf st hg;subst hP hw hK;obtain⟨f0,f1,f2,f3,f4,f5⟩:=hf it (by simp);have W:=Walks.range (prog:=X.prog) (w:=X.w) (I.ok.hd hc) it lo 1 n;refine W.item i s _ _ hg st λv h' tk hv st' kk=>?_;obtain⟨t,rfl⟩:=hv;have I1:Inv X pins σ H { s with heap:=h',toks:=tk }:=I.turned (λb o hb e=>kk b o (by simpa using hb) e) f0 f1 f3 f4 f5;refine⟨_,rfl,vW (s:={ s with heap:=h',toks:=tk }) (n := "range_iterator") st' rfl rfl (by decide) ⟨.int (lo+i),H,I1,⟨t,?_⟩,⟨rfl,rfl⟩,st',λb hb=>(hf b hb).1⟩⟩;rw[Int.mul_one]
 done:=by
  intro X hP hw hK hc i pins s σ H E I hf st hg;subst hP hw hK;obtain⟨f0,f1,f2,f3,f4,f5⟩:=hf it (by simp);exact wpAny_pyNext_range_end (I.ok.hd hc) st (by have:n<=i:=hg;omega) λh' eb=>⟨rfl,I.turned (t':=s.toks) (λb o hb e=>eb b o hb e) f0 f1 f3 f4 f5⟩
 self:=λ_ _ _ _ _ st h=>wpAny_pyIter_rangeiter st h
section
variable {X:Cx} {tg:Expr}
def pB (K:PySem.W.Frag) (tl:TE):TI:=λσ H R=>tl σ H λx H1=>∃a,x=.ref a/\(∃xs,SqL K H1 a xs)/\R (Itl K a) H1
variable {l a iter:Expr}
theorem bu {tl:TE} (hl:PE X l tl):PI X tg l (pB X.K tl):=by
 intro pins s σ H R I h;refine thn (hl pins s σ H _ I h) λv s1 ⟨x,H1,I1,r1,q1⟩=>?_;obtain⟨a,e,⟨xs,hq⟩,q⟩:=q1;subst e;cases r1;obtain⟨its,rv,p,hz⟩:=I1.list hq;refine wpAny_pyIter_list p.isList ?_;refine⟨s1.heap.objs.size,[s1.heap.objs.size],_,_,H1,rfl,I1.kept (t':=s1.toks) λb o e=>Qd _ e,turn_list a _,⟨_,Qp _ rfl,rfl,rfl⟩,λb hb=>?_,q⟩;have e:b=s1.heap.objs.size:=by simpa using hb
 subst e;exact I1.fpOk (Qg _) (I1.hok.fresh (Qg _))
variable {s:Shared} {pins pl:List (Addr × Obj)}
theorem oM {σ:St} {H:Hp} {R:It->Hp->Prop} {E:Value->Shared->Prop} {lo hi:Int} {t u v:Tok} {tk:Nat} (I:Inv X pins σ H s) (h1:-(2 ^ 62)<=lo) (h2:lo<2 ^ 62) (h3:-(2 ^ 62)<=hi) (h4:hi<2 ^ 62)
  (q:R (Itr lo (hi-lo).toNat) H):wpAny (model X.prog X.w) X.A (pyIter (.ref s.heap.objs.size)) (PIE X pins σ tg R) E { s with heap:=s.heap.push { cls:=.type "range", data:=.fields #[.int lo t,.int hi u,.int 1 v] },toks:=tk }:=by
 refine wpAny_pyIter_range (IsRange.new ..) (small_one h1 h2 h3 h4) ?_;have I1:Inv X pins σ H { s with heap:=s.heap.push { cls:=.type "range", data:=.fields #[.int lo t,.int hi u,.int 1 v] },toks:=tk }:=I.kept λb o e=>Qd _ e
 refine⟨(s.heap.push { cls:=.type "range", data:=.fields #[.int lo t,.int hi u,.int 1 v] }).objs.size,[(s.heap.push { cls:=.type "range", data:=.fields #[.int lo t,.int hi u,.int 1 v] }).objs.size],_,_,H,rfl,
  I1.kept (t':=tk) λb o e=>Qd _ e,pS _ lo (hi-lo).toNat,?_,λb hb=>?_,q⟩
 ·have e1:lo+((0:Nat):Int)*1=lo:=by simp
  have e2:(((hi-lo).toNat:Nat):Int)-((0:Nat):Int)=Builtin.Range.rangeSize lo hi 1:=by rw[rangeSize_one];split <;> omega
  show IsRangeIter _ _ (lo+((0:Nat):Int)*1) ((((hi-lo).toNat:Nat):Int)-((0:Nat):Int)) 1;rw[e1,e2];exact Qp _ rfl
 have e:b=(s.heap.push { cls:=.type "range", data:=.fields #[.int lo t,.int hi u,.int 1 v] }).objs.size:=by simpa using hb
 subst e;exact I1.fpOk (Qg _) (I1.hok.fresh (Qg _))
def yP (ta:TA):TI:=λσ H R=>ta σ H λvs H1=>∃j:Int,vs=[.int j]/\-(2 ^ 62)<=j/\j<2 ^ 62/\R (Itr 0 j.toNat) H1
def Dg (ta:TA):TI:=λσ H R=>ta σ H λvs H1=>∃i j:Int,vs=[.int i,.int j]/\(-(2 ^ 62)<=i/\i<2 ^ 62/\-(2 ^ 62)<=j/\j<2 ^ 62)/\R (Itr i (j-i).toNat) H1
theorem cI {ta:TA} {p pos:Pos} (hg:Gl X "range") (hm:X.mg "range" = none) (ha:PA X [a] ta) (hs:starEach [a] X.env=[(false,eval a X.env)]:=by rfl):PI X tg (.Call (.Name "range" p) [a] [] pos) (yP ta):=by
 intro pins s σ H R I h;refine Call_ (dO I hg hm boot_range (Xe (thn (ha pos pins s σ H _ I h) λus s1 ⟨vs,H1,I1,r1,q1⟩=>?_) hs rfl));obtain⟨j,e,q1,q2,q⟩:=q1;subst e
 cases r1 with
 | cons r rr =>
 cases rr;obtain⟨t,rfl⟩:=r;exact call_range_1 (oM I1 (by omega) (by omega) q1 q2 (by simpa using q))
theorem sY {b:Expr} {ta:TA} {p pos:Pos} (hg:Gl X "range") (hm:X.mg "range" = none) (ha:PA X [a,b] ta) (hs:starEach [a,b] X.env=[(false,eval a X.env),(false,eval b X.env)]:=by rfl) (hs2:starEach [b] X.env=[(false,eval b X.env)]:=by rfl) :
  PI X tg (.Call (.Name "range" p) [a,b] [] pos) (Dg ta):=by
 intro pins s σ H R I h;refine Call_ (dO I hg hm boot_range (Xe (thn (ha pos pins s σ H _ I h) λus s1 ⟨vs,H1,I1,r1,q1⟩=>?_) (by rw[hs,hs2]) (by rw[hs2];rfl)));obtain⟨i,j,e,⟨q1,q2,q3,q4⟩,q⟩:=q1;subst e
 cases r1 with
 | cons r rr =>
 cases rr with
 | cons r' rr =>
 cases rr;obtain⟨t,rfl⟩:=r;obtain⟨t',rfl⟩:=r';exact call_range_2 (oM I1 q1 q2 q3 q4 q)
def As (wi:TI) (g:TG) (tb:TS):TS:=λD σ H=>wi σ H λJ H1=>∃W:Nat->Nat->St->Hp->Prop,(∃m,W 0 m σ H1)/\∀i m σ H,W i m σ H ->
 (J.stop i H/\D.nx σ H)\/(J.go i H/\∃N:St->Hp->Prop,(∀σ' H',N σ' H'->∃m',m'<m/\W (i+1) m' σ' H')/\∀x H',J.yld i H x H'->g x σ H' λσ2 H2=>tb { D with nx:=N,ct:=N,bk:=D.nx } σ2 H2)
def ir (fp:List Addr) (h:Heap):List (Addr × Obj):=fp.filterMap λb=>(h.get? b).map λo=>(b,o)
variable {fp:List Addr}
theorem dB {h:Heap} {b:Addr} {o:Obj} (hb:b∈fp) (e:h.get? b=some o):(b,o)∈ir fp h:=List.mem_filterMap.mpr ⟨b,hb,by rw[e];rfl⟩
theorem tK {h:Heap} {p:Addr × Obj} (hp:p∈ir fp h):p.1∈fp/\h.get? p.1=some p.2:=by
 obtain⟨b,hb,e⟩:=List.mem_filterMap.mp hp
 cases q:h.get? b with
 | none=>rw[q]at e;cases e
 | some o =>
 rw[q]at e;have e':(b,o)=p:=Q2 e;subst e';exact⟨hb,q⟩
theorem Inv.pinned {σ:St} {H:Hp} (I:Inv X pins σ H s) (hf:∀b∈fp,gF X pins H b) (ho:∀b∈fp,∃o,s.heap.get? b=some o/\∀v,o.data≠.cell v):Inv X (pins++ir fp s.heap) σ H s :=
 I.pins_of λp hp=>(Qv.mp hp).elim (λz=>I.pin p (QO _ z)) λz=>by
  obtain⟨hb,e⟩:=tK z;obtain⟨f0,f1,f2,_⟩:=hf p.1 hb;obtain⟨o,e',d⟩:=ho p.1 hb;rw[e]at e';cases e';exact⟨e,f0,f1,f2,d⟩
theorem Inv.unpinned {σ:St} {H:Hp} (I:Inv X (pins++pl) σ H s):Inv X pins σ H s:=I.pins_of λp hp=>I.pin p (QO _ (List.mem_append_left _ hp))
theorem ps_for {body:List Stmt} {wi:TI} {g:TG} {tb:TS} {pos:Pos} (hp:PassesOwn (model X.prog X.w) X.A X.env X.xe) (hc:X.calm=true) (hi:PI X tg iter wi) (hg:PG X tg g) (hb:PSs X body tb)
  (hs:∀x,foldedSetIterable iter X.env x=pure x:=by intro _;rfl):PS X (.For tg iter body [] pos) (As wi g tb):=by
 intro pins s σ H D I h;refine wpAny_For (thn (hi pins s σ H _ I h) λv s1 h1=>thn h1 λitv s2 h2=>?_) hs;obtain⟨it,fp,tn,J,H2,e,I2,T,st2,f2,W,⟨m0,w0⟩,turn⟩:=h2;subst e
 -- what stays true of the iterator's objects through the loop
 have stat:∀{H':Hp},(∀b∈fp,H' b=none)->∀b∈fp,gF X pins H' b:=λhn b hb=>⟨hn b hb,(f2 b hb).2⟩;refine codeAny_forLoop_any (λn s'=>∃i σ' H',Inv X pins σ' H' s'/\tn i s'.heap/\(∀b∈fp,H' b=none)/\W i n σ' H') ?_ m0 ⟨0,σ,H2,I2,st2,λb hb=>(f2 b hb).1,w0⟩;rintro n s3 ⟨i,σ3,H3,I3,st3,fr3,w3⟩;rcases turn i n σ3 H3 w3 with⟨stop,qn⟩|⟨go,N,hN,step⟩
 ·refine wpAny_passesOwn hp (thn (T.done X rfl rfl rfl hc i pins s3 σ3 H3 X.xe I3 (stat fr3) st3 stop) λr s4 ⟨hr,I4⟩=>?_);subst hr;exact wpAny_execs_nil ⟨σ3,H3,I4,qn⟩
 refine wpAny_passesOwn hp (thn (T.item X rfl rfl rfl hc i pins s3 σ3 H3 X.xe I3 (stat fr3) st3 go) λr s4 ⟨u,hr,h4⟩=>?_);subst hr;refine wpAny_passesOwn hp (thn h4 λ_ s5 ⟨x,H5,I5,r5,y5,st5,fr5⟩=>?_);have I5':=I5.pinned (stat fr5) (T.obj _ _ st5);refine wpAny_passesOwn hp (thn (hg _ s5 σ3 H5 x u _ I5' r5 (step x H5 y5)) λ_ s6 ⟨σ6,H6,I6,q6⟩=>?_);refine wpAny_passesOwn hp (thn (hb _ s6 σ6 H6 _ I6 q6) λf s7 q7=>?_)
 have again:∀{σ7:St} {H7:Hp},Inv X (pins++ir fp s5.heap) σ7 H7 s7->N σ7 H7->∃m,m<n/\∃i σ' H',Inv X pins σ' H' s7/\tn i s7.heap/\(∀b∈fp,H' b=none)/\W i m σ' H':=λ{σ7 H7} I7 n7=>by
  obtain⟨m',hm,w7⟩:=hN σ7 H7 n7;refine⟨m',hm,i+1,σ7,H7,I7.unpinned,T.keep _ _ _ st5 λb hb o e=>(I7.pin (b,o) (QO _ (QO _ (dB hb e)))).1,λb hb=>?_,w7⟩;obtain⟨o,e,d⟩:=T.obj _ _ st5 b hb;exact(I7.pin (b,o) (QO _ (QO _ (dB hb e)))).2.1
 cases f with
 | next=>obtain⟨σ7,H7,I7,n7⟩:=q7;exact again I7 n7
 | cont=>obtain⟨σ7,H7,I7,n7⟩:=q7;exact again I7 n7
 | brk=>obtain⟨σ7,H7,I7,q7⟩:=q7;exact⟨σ7,H7,I7.unpinned,q7⟩
 | ret v=>obtain⟨x7,σ7,H7,I7,r7,q7⟩:=q7;exact⟨x7,σ7,H7,I7.unpinned,r7,q7⟩
end
theorem dM {K:PySem.W.Frag} {xs:List V} {g:TG} {tb:TS} {D:Ends} {σ:St} (Pv:Nat->St->Hp->Prop) (h0:Pv 0 σ H) (hl:∀i σ H,i<=xs.length->Pv i σ H->SqL K H a xs)
  (hs:∀i x σ H,xs[i]?=some x->Pv i σ H->g x σ H λσ2 H2=>tb { D with nx:=Pv (i+1),ct:=Pv (i+1),bk:=D.nx } σ2 H2) (hd:∀σ H,Pv xs.length σ H->D.nx σ H) :
  ∃W:Nat->Nat->St->Hp->Prop,(∃m,W 0 m σ H)/\∀i m σ H,W i m σ H ->
   ((Itl K a).stop i H/\D.nx σ H)\/((Itl K a).go i H/\∃N:St->Hp->Prop,(∀σ' H',N σ' H'->∃m',m'<m/\W (i+1) m' σ' H')/\∀x H',(Itl K a).yld i H x H'->g x σ H' λσ2 H2=>tb { D with nx:=N,ct:=N,bk:=D.nx } σ2 H2):=by
 refine⟨λi m σ H=>m=xs.length-i/\i<=xs.length/\Pv i σ H,⟨xs.length,by simp,QN _,h0⟩,?_⟩;rintro i m σ H ⟨rfl,hi,p⟩;have q:=hl i σ H hi p;by_cases hlt:i<xs.length
 ·refine .inr ⟨⟨xs,xs[i],q,by simp[hlt]⟩,Pv (i+1),λσ' H' p'=>⟨xs.length-(i+1),by omega,rfl,hlt,p'⟩,λx H' y=>?_⟩;obtain⟨e,y⟩:=y;subst e;exact hs i x σ _ (y xs q) p
 have e:i=xs.length:=by omega
 subst e;exact .inl ⟨⟨xs,q,Qg _⟩,hd σ H p⟩
theorem dC {lo:Int} {n:Nat} {g:TG} {tb:TS} {D:Ends} {σ:St} (Pv:Nat->St->Hp->Prop) (h0:Pv 0 σ H)
  (hs:∀i σ H,i<n->Pv i σ H->g (.int (lo+i)) σ H λσ2 H2=>tb { D with nx:=Pv (i+1),ct:=Pv (i+1),bk:=D.nx } σ2 H2) (hd:∀σ H,Pv n σ H->D.nx σ H) :
  ∃W:Nat->Nat->St->Hp->Prop,(∃m,W 0 m σ H)/\∀i m σ H,W i m σ H ->
   ((Itr lo n).stop i H/\D.nx σ H)\/((Itr lo n).go i H/\∃N:St->Hp->Prop,(∀σ' H',N σ' H'->∃m',m'<m/\W (i+1) m' σ' H')/\∀x H',(Itr lo n).yld i H x H'->g x σ H' λσ2 H2=>tb { D with nx:=N,ct:=N,bk:=D.nx } σ2 H2):=by
 refine⟨λi m σ H=>m=n-i/\i<=n/\Pv i σ H,⟨n,by simp,QN _,h0⟩,?_⟩;rintro i m σ H ⟨rfl,hi,p⟩;by_cases hlt:i<n
 ·refine .inr ⟨hlt,Pv (i+1),λσ' H' p'=>⟨n-(i+1),by omega,rfl,hlt,p'⟩,λx H' y=>?_⟩;obtain⟨e,y⟩:=y;subst e y;exact hs i σ _ hlt p
 have e:i=n:=by omega
 subst e;exact .inl ⟨Qg _,hd σ H p⟩
abbrev R2:=V->V->Hp->VK->Prop
def OpR (X:Cx) (f:Value->Value->Sem Value) (r:R2):Prop :=
 ∀(pins:List (Addr × Obj)) (s:Shared) (σ:St) (H:Hp) (x y:V) (v u:Value) (Q:VK),Inv X pins σ H s->aS x v->aS y u->r x y H Q ->
  wpAny (model X.prog X.w) X.A (f v u) (EP X pins σ Q) X.xe s
def UnR (X:Cx) (f:Value->Sem Value) (r:V->Hp->VK->Prop):Prop :=
 ∀(pins:List (Addr × Obj)) (s:Shared) (σ:St) (H:Hp) (x:V) (v:Value) (Q:VK),Inv X pins σ H s->aS x v->r x H Q ->
  wpAny (model X.prog X.w) X.A (f v) (EP X pins σ Q) X.xe s
def eB (X:Cx) (f:Value) (r:List V->Hp->VK->Prop):Prop :=
 ∀(pins:List (Addr × Obj)) (s:Shared) (σ:St) (H:Hp) (xs:List V) (us:List Value) (Q:VK),Inv X pins σ H s->aY xs us->r xs H Q ->
  wpAny (model X.prog X.w) X.A (call f us) (EP X pins σ Q) X.xe s
def tOp (r:R2) (ta tb:TE):TE:=λσ H Q=>ta σ H λx H1=>tb σ H1 λy H2=>r x y H2 Q
def tUn (r:V->Hp->VK->Prop) (ta:TE):TE:=λσ H Q=>ta σ H λx H1=>r x H1 Q
def rI (C:Int->Int->Prop) (g:Int->Int->V):R2:=λx y H Q=>∃i j,x=.int i/\y=.int j/\C i j/\Q (g i j) H
def rI0 (g:Int->Int->V):R2:=λx y H Q=>∃i j,x=.int i/\y=.int j/\Q (g i j) H
def rU (g:Int->V):V->Hp->VK->Prop:=λx H Q=>∃i,x=.int i/\Q (g i) H
section
variable {X:Cx} {a b c:Expr} {ta tb tc:TE} {pos:Pos}
variable {f:Value->Value->Sem Value}
theorem Af (ha:PE X a ta) (hb:PE X b tb) {pins:List (Addr × Obj)} {s:Shared} {σ:St} {H:Hp} {R:V->V->Hp->Prop} (I:Inv X pins σ H s)
  (h:ta σ H λx H1=>tb σ H1 λy H2=>R x y H2) {Q:Value->Shared->Prop}
  (hf:∀v u s2 x y H2,Inv X pins σ H2 s2->aS x v->aS y u->R x y H2->wpAny (model X.prog X.w) X.A (f v u) Q X.xe s2) :
  wpAny (model X.prog X.w) X.A (eval a X.env) (λv s₁=>wpAny (model X.prog X.w) X.A (eval b X.env) (λu s₂=>wpAny (model X.prog X.w) X.A (f v u) Q X.xe s₂) X.xe s₁) X.xe s:=by
 refine thn (ha pins s σ H _ I h) λv s1 ⟨x,H1,I1,r1,q1⟩=>?_;refine thn (hb pins s1 σ H1 _ I1 q1) λu s2 ⟨y,H2,I2,r2,q2⟩=>?_;exact hf v u s2 x y H2 I2 r1 r2 q2
theorem av {op:Operator} {r:R2} (ho:OpR X (binaryOp op) r) (ha:PE X a ta) (hb:PE X b tb):PE X (.BinOp a op b pos) (tOp r ta tb):=by
 intro pins s σ H Q I h;exact wpAny_BinOp (Af ha hb I h λv u s2 x y H2 I2 rx ry q=>ho pins s2 σ H2 x y v u Q I2 rx ry q)
theorem uT {op:UnaryOp} {r:V->Hp->VK->Prop} (ho:UnR X (unaryOp op) r) (ha:PE X a ta):PE X (.UnaryOp op a pos) (tUn r ta):=by
 intro pins s σ H Q I h;exact UnaryOp_ (thn (ha pins s σ H _ I h) λv s1 ⟨x,H1,I1,r1,q1⟩=>ho pins s1 σ H1 x v Q I1 r1 q1)
theorem opI {C:Int->Int->Prop} {g:Int->Int->Int}
  (rule:∀(i j:Int) (t u:Tok) (s:Shared) (Q:Value->Shared->Prop) (E:Value->Shared->Prop),C i j->Q (.int (g i j) s.toks) { s with toks:=s.toks+1 }->wpAny (model X.prog X.w) X.A (f (.int i t) (.int j u)) Q E s) :
  OpR X f (rI C λi j=>.int (g i j)):=by
 intro pins s σ H x y v u Q I rx ry h;obtain⟨i,j,rfl,rfl,hc,q⟩:=h;obtain⟨t,rfl⟩:=rx;obtain⟨t',rfl⟩:=ry;exact rule i j t t' s _ _ hc ⟨.int (g i j),H,I.tok _,⟨_,rfl⟩,q⟩
theorem zB {g:Int->Int->Int}
  (rule:∀(i j:Int) (t u:Tok) (s:Shared) (Q:Value->Shared->Prop) (E:Value->Shared->Prop),Q (.int (g i j) s.toks) { s with toks:=s.toks+1 }->wpAny (model X.prog X.w) X.A (f (.int i t) (.int j u)) Q E s) :
  OpR X f (rI0 λi j=>.int (g i j)):=by
 intro pins s σ H x y v u Q I rx ry h;obtain⟨i,j,rfl,rfl,q⟩:=h;obtain⟨t,rfl⟩:=rx;obtain⟨t',rfl⟩:=ry;exact rule i j t t' s _ _ ⟨.int (g i j),H,I.tok _,⟨_,rfl⟩,q⟩
theorem zC {g:Int->Int->Bool}
  (rule:∀(i j:Int) (t u:Tok) (s:Shared) (Q:Value->Shared->Prop) (E:Value->Shared->Prop),Q (.bool (g i j)) s->wpAny (model X.prog X.w) X.A (f (.int i t) (.int j u)) Q E s) :
  OpR X f (rI0 λi j=>.bl (g i j)):=by
 intro pins s σ H x y v u Q I rx ry h;obtain⟨i,j,rfl,rfl,q⟩:=h;obtain⟨t,rfl⟩:=rx;obtain⟨t',rfl⟩:=ry;exact rule i j t t' s _ _ ⟨.bl (g i j),H,I,rfl,q⟩
def Dv (i j:Int):Prop:=0<j/\j<1073741824
def EH (i j:Int):Prop:=0<=j/\j<=1000000/\i.natAbs<2 ^ 64
def Al (i j:Int):Prop:=(-(2 ^ 64)<i/\i<2 ^ 64)\/(-(2 ^ 64)<j/\j<2 ^ 64)
theorem Al.ok {i j:Int} (h:Al i j):IntMulOk i j:=by
 rcases h with⟨h1,h2⟩|⟨h1,h2⟩
 ·exact .of_left (intBits_le_64 h1 h2)
 exact .of_right (intBits_le_64 h1 h2)
theorem pR (k:Nat):(0:Int)<=2 ^ k:=by
 rw[two_pow_cast];exact Int.natCast_nonneg _
theorem aV:OpR X (binaryOp .Add) (rI0 λi j=>.int (i+j)):=zB λ_ _ _ _ _ _ _ q=>add_int q
theorem iy:OpR X (binaryOp .Sub) (rI0 λi j=>.int (i-j)):=zB λ_ _ _ _ _ _ _ q=>sub_int q
theorem ee:OpR X (binaryOp .Mult) (rI Al λi j=>.int (i*j)):=opI λ_ _ _ _ _ _ _ hc q=>mul_int q hc.ok
theorem de:OpR X (binaryOp .FloorDiv) (rI Dv λi j=>.int (i / j)):=opI λi j _ _ _ _ _ hc q=>by
 have h1:(0:Int)<j:=hc.1;have h2:j<1073741824:=hc.2;exact floordiv_int (by omega) (by rw[Int.fdiv_eq_ediv_of_nonneg i (by omega)];exact q) (.inl (PyProof.noPylong_small (by omega)))
theorem aX:OpR X (binaryOp .Mod) (rI (λ_ j=>0<j) λi j=>.int (i % j)):=opI λi j _ _ _ _ _ hc q=>by
 have h1:(0:Int)<j:=hc;exact mod_int' (by omega) (by rw[Int.fmod_eq_emod_of_nonneg i (by omega)];exact q)
theorem zt:OpR X (binaryOp .Pow) (rI EH λi j=>.int (i ^ j.toNat)):=opI λ_ _ _ _ _ _ _ hc q=>pow_int_small hc.1 hc.2.1 hc.2.2 q
theorem zq:OpR X (binaryOp .RShift) (rI (λ_ j=>0<=j) λi j=>.int (i / 2 ^ j.toNat)):=opI λi j _ _ _ _ _ hc q =>
 rshift_int hc (by rw[Int.fdiv_eq_ediv_of_nonneg i (pR _)];exact q)
theorem zw:OpR X (binaryOp .BitAnd) (rI0 λi j=>.int (Builtin.bitAnd i j)):=zB λ_ _ _ _ _ _ _ q=>and_int q
theorem unI {f:Value->Sem Value} {g:Int->Int}
  (rule:∀(i:Int) (t:Tok) (s:Shared) (Q:Value->Shared->Prop) (E:Value->Shared->Prop),Q (.int (g i) s.toks) { s with toks:=s.toks+1 }->wpAny (model X.prog X.w) X.A (f (.int i t)) Q E s) :
  UnR X f (rU λi=>.int (g i)):=by
 intro pins s σ H x v Q I rx h;obtain⟨i,rfl,q⟩:=h;obtain⟨t,rfl⟩:=rx;exact rule i t s _ _ ⟨.int (g i),H,I.tok _,⟨_,rfl⟩,q⟩
theorem pQ:UnR X (unaryOp .USub) (rU λi=>.int (-i)):=unI λ_ _ _ _ _ q=>neg_int q
end
noncomputable def wO:V->V->Bool
 | .non,.non=>true|.non,.int _=>true|.int _,.non=>true|.non,.bl _=>true|.bl _,.non=>true|.non,.str _=>true|.str _,.non=>true
 | .int _,.int _=>true|.bl _,.bl _=>true|.str _,.str _=>true|.byt _,.byt _=>true
 | .int _,.str _=>true|.str _,.int _=>true|.bl _,.str _=>true|.str _,.bl _=>true
 | _,_=>false
def rEq:R2:=λx y H Q=>wO x y=true/\Q (.bl (decide (x=y))) H
def rNe:R2:=λx y H Q=>wO x y=true/\Q (.bl (!decide (x=y))) H
theorem sk {i j:Int}:decide (V.int i=V.int j)=(i==j):=by
 rw[Bool.eq_iff_iff];simp
theorem wb {i j:Bool}:decide (V.bl i=V.bl j)=(i==j):=by
 rw[Bool.eq_iff_iff];simp
theorem sj {i j:Str}:decide (V.str i=V.str j)=(i==j):=by
 rw[Bool.eq_iff_iff];simp
theorem sn {i j:Array UInt8}:decide (V.byt i=V.byt j)=(i.toList==j.toList):=by
 rw[Bool.eq_iff_iff];cases i;cases j;simp
section
variable {X:Cx} {a b c:Expr} {ta tb tc:TE} {pos:Pos}
theorem bg {pins:List (Addr × Obj)} {σ:St} {H:Hp} {s:Shared} {Q:VK} {k k':Bool} (I:Inv X pins σ H s) (q:Q (.bl k) H) (e:k=k'):EP X pins σ Q (.bool k') s:=by
 subst e;exact⟨.bl k,H,I,rfl,q⟩
theorem cA:OpR X (compareOp .Eq) rEq:=by
 intro pins s σ H x y v u Q I rx ry h;obtain⟨hs,q⟩:=h
 cases x with
 | non =>
  cases rx
  cases y with
  | non=>cases ry;exact PySem.EqNone.eq_none_none (bg I q (by simp))
  | bl j=>cases ry;exact PySem.EqNone.eq_none_bool (bg I q (by simp))
  | int j=>obtain⟨t',rfl⟩:=ry;exact PySem.EqNone.eq_none_int (bg I q (by simp))
  | str j=>obtain⟨t',rfl⟩:=ry;exact PySem.EqNone.eq_none_str (bg I q (by simp))
  | _=>exact absurd (show false=true from hs) Qn
 | bl i =>
  cases rx
  cases y with
  | non=>cases ry;exact PySem.EqNone.eq_bool_none (bg I q (by simp))
  | bl j=>cases ry;exact eq_bool (bg I q wb)
  | str j=>obtain⟨t',rfl⟩:=ry;exact PySem.EqMixed.eq_bool_str (bg I q (by simp))
  | _=>exact absurd (show false=true from hs) Qn
 | int i =>
  obtain⟨t,rfl⟩:=rx
  cases y with
  | non=>cases ry;exact PySem.EqNone.eq_int_none (bg I q (by simp))
  | int j=>obtain⟨t',rfl⟩:=ry;exact eq_int (bg I q sk)
  | str j=>obtain⟨t',rfl⟩:=ry;exact PySem.EqMixed.eq_int_str (bg I q (by simp))
  | _=>exact absurd (show false=true from hs) Qn
 | str i =>
  obtain⟨t,rfl⟩:=rx
  cases y with
  | non=>cases ry;exact PySem.EqNone.eq_str_none (bg I q (by simp))
  | bl j=>cases ry;exact PySem.EqMixed.eq_str_bool (bg I q (by simp))
  | int j=>obtain⟨t',rfl⟩:=ry;exact PySem.EqMixed.eq_str_int (bg I q (by simp))
  | str j=>obtain⟨t',rfl⟩:=ry;exact eq_str (bg I q sj)
  | _=>exact absurd (show false=true from hs) Qn
 | byt i =>
  obtain⟨t,rfl⟩:=rx
  cases y with
  | byt j=>obtain⟨t',rfl⟩:=ry;exact PySem.W.eq_bytes (bg I q sn)
  | _=>exact absurd (show false=true from hs) Qn
 | _=>cases y <;> exact absurd (show false=true from hs) Qn
theorem fL:OpR X (compareOp .NotEq) rNe:=by
 intro pins s σ H x y v u Q I rx ry h;obtain⟨hs,q⟩:=h
 cases x with
 | non =>
  cases rx
  cases y with
  | non=>cases ry;exact PySem.EqNone.ne_none_none (bg I q (by simp))
  | bl j=>cases ry;exact PySem.EqNone.ne_none_bool (bg I q (by simp))
  | int j=>obtain⟨t',rfl⟩:=ry;exact PySem.EqNone.ne_none_int (bg I q (by simp))
  | str j=>obtain⟨t',rfl⟩:=ry;exact PySem.EqNone.ne_none_str (bg I q (by simp))
  | _=>exact absurd (show false=true from hs) Qn
 | bl i =>
  cases rx
  cases y with
  | non=>cases ry;exact PySem.EqNone.ne_bool_none (bg I q (by simp))
  | bl j=>cases ry;exact ne_bool (bg I q (congrArg not wb))
  | str j=>obtain⟨t',rfl⟩:=ry;exact PySem.EqMixed.ne_bool_str (bg I q (by simp))
  | _=>exact absurd (show false=true from hs) Qn
 | int i =>
  obtain⟨t,rfl⟩:=rx
  cases y with
  | non=>cases ry;exact PySem.EqNone.ne_int_none (bg I q (by simp))
  | int j=>obtain⟨t',rfl⟩:=ry;exact ne_int (bg I q (congrArg not sk))
  | str j=>obtain⟨t',rfl⟩:=ry;exact PySem.EqMixed.ne_int_str (bg I q (by simp))
  | _=>exact absurd (show false=true from hs) Qn
 | str i =>
  obtain⟨t,rfl⟩:=rx
  cases y with
  | non=>cases ry;exact PySem.EqNone.ne_str_none (bg I q (by simp))
  | bl j=>cases ry;exact PySem.EqMixed.ne_str_bool (bg I q (by simp))
  | int j=>obtain⟨t',rfl⟩:=ry;exact PySem.EqMixed.ne_str_int (bg I q (by simp))
  | str j=>obtain⟨t',rfl⟩:=ry;exact ne_str (bg I q (congrArg not sj))
  | _=>exact absurd (show false=true from hs) Qn
 | byt i =>
  obtain⟨t,rfl⟩:=rx
  cases y with
  | byt j=>obtain⟨t',rfl⟩:=ry;exact PySem.W.ne_bytes (bg I q (congrArg not sn))
  | _=>exact absurd (show false=true from hs) Qn
 | _=>cases y <;> exact absurd (show false=true from hs) Qn
theorem iN:OpR X (compareOp .Lt) (rI0 λi j=>.bl (decide (i<j))):=zC λ_ _ _ _ _ _ _ q=>lt_int q
theorem yk:OpR X (compareOp .Gt) (rI0 λi j=>.bl (decide (j<i))):=zC λ_ _ _ _ _ _ _ q=>gt_int q
theorem u_:OpR X (compareOp .GtE) (rI0 λi j=>.bl (decide (j<=i))):=zC λ_ _ _ _ _ _ _ q=>ge_int q
theorem uZ:OpR X (compareOp .Is) (λx y H Q=>y=.non/\Q (.bl (decide (x=.non))) H):=by
 intro pins s σ H x y v u Q I rx ry h;obtain⟨rfl,q⟩:=h;cases ry;refine is_none_gen (bg I q ?_)
 cases x <;> first
  | (cases rx;rfl)
  | (obtain⟨t,rfl⟩:=rx;rfl)
theorem rN:OpR X (compareOp .IsNot) (λx y H Q=>y=.non/\Q (.bl (!decide (x=.non))) H):=by
 intro pins s σ H x y v u Q I rx ry h;obtain⟨rfl,q⟩:=h;cases ry;refine isnot_none_gen (bg I q ?_)
 cases x <;> first
  | (cases rx;rfl)
  | (obtain⟨t,rfl⟩:=rx;rfl)
variable {op:CmpOp}
theorem aK (b:Expr) (h:op≠.In:=by decide) (h2:op≠.NotIn:=by decide):behindInMarks op b=false:=by
 have e1:(op==CmpOp.In)=false:=by cases op <;> first|rfl|exact absurd rfl h
 have e2:(op==CmpOp.NotIn)=false:=by cases op <;> first|rfl|exact absurd rfl h2
 cases b <;> simp[behindInMarks,e1,e2]
theorem c9 {r:R2} (ho:OpR X (compareOp op) r) (ha:PE X a ta) (hb:PE X b tb) (hm:behindInMarks op b=false):PE X (.Compare a [op] [b] pos) (tOp r ta tb):=by
 intro pins s σ H Q I h;exact wpAny_Compare1 (Af ha hb I h λv u s2 x y H2 I2 rx ry q=>ho pins s2 σ H2 x y v u Q I2 rx ry q) hm
def xO (t:TE):TT:=λσ H Q=>t σ H λx H'=>∃k,x=.bl k/\Q k H'
theorem aG {r:R2} (ho:OpR X (compareOp op) r) (ha:PE X a ta) (hb:PE X b tb) (hm:behindInMarks op b=false):PT X (.Compare a [op] [b] pos) (xO (tOp r ta tb)):=by
 intro pins s σ H Q I h
 refine wpAny_isTrue_Compare1 (thn (ha pins s σ H _ I h) λv s1 ⟨x,H1,I1,r1,q1⟩=>thn (hb pins s1 σ H1 _ I1 q1) λu s2 ⟨y,H2,I2,r2,q2⟩ =>
  thn (ho pins s2 σ H2 x y v u _ I2 r1 r2 q2) λc s3 ⟨z,H3,I3,r3,k,e,q3⟩=>?_) hm
 subst e;cases r3;exact wpAny_truthy_bool ⟨H3,I3,q3⟩
theorem iA:(sizeLine:Nat)<2 ^ 63:=by rw[XG];decide
theorem cG:OpR X (binaryOp .Add) (λx y H Q=>∃i j,x=.str i/\y=.str j/\i.length+j.length<=sizeLine/\Q (.str (i++j)) H):=by
 intro pins s σ H x y v u Q I rx ry h;obtain⟨i,j,rfl,rfl,hz,q⟩:=h;obtain⟨t,rfl⟩:=rx;obtain⟨t',rfl⟩:=ry;exact add_str (λt' tk=>⟨.str (i++j),H,I.tok _,⟨_,rfl⟩,q⟩) hz
theorem eE {x:V} {us:List Value} (r:aY [x] us):∃u,us=[u]/\aS x u:=by
 cases r with
 | cons r1 r2=>cases r2;exact⟨_,rfl,r1⟩
theorem rf {x y:V} {us:List Value} (r:aY [x,y] us):∃u w',us=[u,w']/\aS x u/\aS y w':=by
 cases r with
 | cons r1 r2 =>
 cases r2 with
 | cons r3 r4=>cases r4;exact⟨_,_,rfl,r1,r3⟩
theorem wv:eB X (.builtin "abs") (λxs H Q=>∃i,xs=[.int i]/\Q (.int (if i<0 then -i else i)) H):=by
 intro pins s σ H xs us Q I r h;obtain⟨i,rfl,q⟩:=h;obtain⟨u,rfl,t,rfl⟩:=eE r;exact call_abs_int λu tk=>⟨.int (if i<0 then -i else i),H,I.tok _,⟨_,rfl⟩,q⟩
theorem l8 (hc:X.calm=true):eB X (.builtin "min") (λxs H Q=>∃i j,xs=[.int i,.int j]/\Q (.int (if j<i then j else i)) H):=by
 intro pins s σ H xs us Q I r h;obtain⟨i,j,rfl,q⟩:=h;obtain⟨u,w',rfl,⟨t,rfl⟩,⟨t',rfl⟩⟩:=rf r;refine min_two_ints (I.ok.hd hc) λh' tk k=>⟨_,H,I.kept k,?_,q⟩;by_cases hj:j<i
 ·rw[QF hj,QF hj];exact⟨_,rfl⟩
 rw[QB hj,QB hj];exact⟨_,rfl⟩
end
structure ObjM (h:Heap) (x dx C:Addr) (mA:Str->Option Value):Prop where
 obj:h.get? x=some (PySem.W.instObj C dx)
 ns:h.Ns1 dx mA
 ne:dx≠x
variable {mA mg:Str->Option Value}
theorem tO (n:h.Ns1 dx mA):∃od,h.get? dx=some od/\∀name,PySem.W.lookIn name od=some (mA name):=by
 obtain⟨o,es,ep,ho,hd,hk,_,hm⟩:=n;refine⟨o,ho,λname=>?_⟩;have e:=hm name;unfold nsFind findBy at e;rw[<-Array.find?_toList]at e;unfold PySem.W.lookIn;rw[hd];dsimp only
 split
 ·rename_i y q
  rw[q]at e;exact congrArg some e
 rename_i q
 rw[q]at e
 have a:es.toList.any (·.refKey)=false:=by
  rw[List.any_eq_false];intro y hy;obtain⟨z,t,hkey⟩:=hk y (Array.mem_toList_iff.mp hy);simp[DictEntry.refKey,hkey]
 have a':¬es.toList.any (·.refKey)=true:=by rw[a];exact Qn
 rw[QB a'];exact congrArg some e
theorem ObjM.look {x:Addr} (I:ObjM h x dx C mA):∃od,PySem.W.InstAt h x (PySem.W.instObj C dx) C (some od)/\∀name,PySem.W.lookIn name od=some (mA name) :=
 let ⟨od,ho,hl⟩:=tO I.ns
 ⟨od,⟨I.obj,rfl,rfl,ho⟩,hl⟩
section
variable {prog:Program} {w:World} {A:Around} {E:Value->Shared->Prop} {s:Shared} {K:PySem.W.Frag} {x dx C f:Addr} {mA:Str->Option Value} {name:Str} {v:Value}
end
theorem kQ.some_of {v:V} {o:Option Value} (r:kQ (some v) o):∃u,o=some u/\aS v u:=by
 cases o with
 | none=>exact(show False from r).elim
 | some u=>exact⟨u,rfl,r⟩
section
variable {P:Program} {w:World} {H H':Hp} {h h':Heap} {a C dx:Addr} {fs fs':List (Str × V)}
theorem xv (hok:HOk P w H h) (e:H a=some (.ins C dx fs)):∃mA,ObjM h a dx C mA/\(∀f,kQ (fs.lookup f) (mA f))/\PySem.Within mA (fs.map (·.1))/\fs.length<=1000/\H dx=some (.own a):=by
 obtain⟨d,z,ne,ob,mA,n,r,q⟩:=(show bt P w H h a (.ins C dx fs) from hok a _ e);exact⟨mA,⟨ob,n,ne⟩,r,q,z,d⟩
end
structure Cls (K:PySem.W.Frag) (C:Addr):Prop where
 pg:PySem.W.plainGet K C Str.empty=true
 hd:PySem.W.hasDictIn K C=true
 po:PySem.W.plainOver K C=true
 sa:PySem.W.findIn K (.ref C) "__setattr__" = some (some (.builtin "object.__setattr__"))
theorem Cls.get (c:Cls K C) (f:Str):PySem.W.plainGet K C f=true:=c.pg
structure Con (K:PySem.W.Frag) (C:Addr) (f:Str) (v:V) (u:Value):Prop where
 at_:PySem.W.findIn K (.ref C) f=some (some u)
 rel:aS v u
 get:PySem.W.specialIn K u "__get__" = some none
 cp:PySem.W.copiedNames.contains f=false
structure Meth (K:PySem.W.Frag) (C:Addr) (m:Str) (f:Addr):Prop where
 at_:PySem.W.findIn K (.ref C) m=some (some (.ref f))
 fn:PySem.W.isFn K (.ref f)=true
 kp:PySem.W.keepIn K (.ref f)=true
section
variable {X:Cx} {pins:List (Addr × Obj)} {σ:St} {H:Hp} {s:Shared} {a C dx:Addr} {fs:List (Str × V)} {f:Str} {v:V} {A:Around} {E:Value->Shared->Prop}
end
def Du (X:Cx) (op:Operator) (rd:V->V->Hp->VK->Prop):Prop :=
 ∀(pins:List (Addr × Obj)) (s:Shared) (σ:St) (H:Hp) (x y:V) (u v:Value) (Q:VK),Inv X pins σ H s->aS x u->aS y v->rd x y H Q->wpAny (model X.prog X.w) X.A (inplaceOp op u v) (EP X pins σ Q) X.xe s
section
variable {X:Cx} {o e value:Expr} {f:Str} {pos pos' tpos:Pos} {ta tv:TE}
def Dz:V->V->Hp->VK->Prop:=λx y H Q=>∃i j,x=.int i/\y=.int j/\Q (.int (i-j)) H
theorem zZ:Du X .Sub Dz:=by
 rintro pins s σ H x y u v Q I rx ry ⟨i,j,rfl,rfl,q⟩;obtain⟨t,rfl⟩:=(show ∃t,u=Value.int i t from rx);obtain⟨t',rfl⟩:=(show ∃t',v=Value.int j t' from ry);exact PyProof.Rows.isub_int ⟨.int (i-j),H,I.tok _,⟨_,rfl⟩,q⟩
end
section
variable {X:Cx} {pins:List (Addr × Obj)} {σ:St} {H:Hp} {s:Shared} {A:Around} {E:Value->Shared->Prop} {Q:Value->Shared->Prop} {c:Value} {b:Bool}
inductive TyOf (K:PySem.W.Frag) (H:Hp):V->Value->Prop where
 | non:TyOf K H .non (.type "NoneType")
 | bl (x:Bool):TyOf K H (.bl x) (.type "bool")
 | int (i:Int):TyOf K H (.int i) (.type "int")
 | str (x:Str):TyOf K H (.str x) (.type "str")
 | flt (x:UInt64):TyOf K H (.flt x) (.type "float")
 | lst {a:Addr} {xs:List V} (e:H a=some (.lst xs)):TyOf K H (.ref a) (.type "list")
 | frz {a:Addr} {o:Obj} {xs:List V} (e:H a=some (.frz o (.lst xs))):TyOf K H (.ref a) (.type "list")
 | tup {a:Addr} {xs:List V} (e:H a=some (.tup xs)):TyOf K H (.ref a) (.type "tuple")
 | dK {a:Addr} {kvs:List (Key × V)} (e:H a=some (.dK kvs)):TyOf K H (.ref a) (.type "dict")
 | dT {a:Addr} {kvs:List (List Key × V)} (e:H a=some (.dT kvs)):TyOf K H (.ref a) (.type "dict")
 | ins {a C dx:Addr} {fs:List (Str × V)} (e:H a=some (.ins C dx fs)) (cl:Cls K C) (ha:PySem.W.findIn K (.ref C) "__class__" = some (some (.builtin "object.__class__")))
   (hn:PySem.W.specialIn K (.builtin "object.__class__") "__get__" = some (some (.builtin "getset_descriptor.__get__"))) (htk:PySem.W.takesIn K (.builtin "object.__class__")=some true)
   (hm:PySem.W.mroIn K C (.type "object")=some true):TyOf K H (.ref a) (.ref C)
theorem tW {x:V} {u t:Value} (I:Inv X pins σ H s) (rx:aS x u) (ty:TyOf X.K H x t) (e:PySem.W.kitOne X.K t c=some b) (h:∀tk,Q (.bool b) { s with toks:=tk }) :
  wpAny (model X.prog X.w) A (call (.builtin "isinstance") [u,c]) Q E s:=by
 cases ty with
 | non=>cases (show u=Value.none from rx);exact XC PySem.W.kitx_none I.kIn True.intro e (λz=>nomatch z) h
 | bl y=>cases (show u=Value.bool y from rx);exact XC PySem.W.kitx_bool I.kIn True.intro e (λz=>nomatch z) h
 | int i=>obtain⟨t,q⟩:=(show ∃t,u=Value.int i t from rx);cases q;exact XC PySem.W.kitx_int I.kIn True.intro e (λz=>nomatch z) h
 | str y=>obtain⟨t,q⟩:=(show ∃t,u=Value.str y t from rx);cases q;exact XC PySem.W.kitx_str I.kIn True.intro e (λz=>nomatch z) h
 | flt y=>obtain⟨t,q⟩:=(show ∃t,u=Value.float y t from rx);cases q;exact XC PySem.W.kitx_float I.kIn True.intro e (λz=>nomatch z) h
 | @lst a xs ea =>
  cases (show u=Value.ref a from rx);obtain⟨_,_,n,_,h1⟩:=(show bt X.prog X.w H s.heap a (.lst xs) from I.hok a _ ea);exact XC PySem.W.kitx_list I.kIn ⟨_,h1,rfl⟩ e (λz=>nomatch z) h
 | @frz a ob xs ea =>
  cases (show u=Value.ref a from rx);obtain⟨_,_,_,n,_,h1⟩:=(show bt X.prog X.w H s.heap a (.frz ob (.lst xs)) from I.hok a _ ea);exact XC PySem.W.kitx_list I.kIn ⟨_,h1,rfl⟩ e (λz=>nomatch z) h
 | @tup a xs ea =>
  cases (show u=Value.ref a from rx);obtain⟨_,_,_,p⟩:=(show bt X.prog X.w H s.heap a (.tup xs) from I.hok a _ ea);obtain⟨o,h1,h2,_⟩:=p;exact XC PySem.W.kitx_tuple I.kIn ⟨o,h1,h2⟩ e (λz=>nomatch z) h
 | @dK a kvs ea =>
  cases (show u=Value.ref a from rx);obtain⟨_,_,vs,_,p⟩:=(show bt X.prog X.w H s.heap a (.dK kvs) from I.hok a _ ea);obtain⟨o,es,ep,h1,h2,_⟩:=p;exact XC PySem.W.kitx_dict I.kIn ⟨o,h1,h2.1⟩ e (λz=>nomatch z) h
 | @dT a kvs ea =>
  cases (show u=Value.ref a from rx);obtain⟨_,_,xs,_,o,es,ep,h1,h2,_⟩:=(show bt X.prog X.w H s.heap a (.dT kvs) from I.hok a _ ea);exact XC PySem.W.kitx_dict I.kIn ⟨o,h1,h2.1⟩ e (λz=>nomatch z) h
 | @ins a C dx fs ea cl ha hn htk hm =>
 cases (show u=Value.ref a from rx);obtain⟨mA,O,_⟩:=xv I.hok ea;obtain⟨od,J,_⟩:=O.look;exact XC (PySem.W.kitx_own (cl.get _) cl.hd ha hn htk hm) I.kIn J e (λz=>nomatch z) h
end
structure Room (k:Nat) (A:Around):Prop where
 hd:A.handled=none
 dp:A.depth+3*k+5<recursionLimit
 un:A.units+16*k+200<cLine
theorem Room.mono {j k:Nat} (r:Room k A) (h:j<=k):Room j A:=⟨r.hd,by have:=r.dp;omega,by have:=r.un;omega⟩
theorem Room.deeper {k:Nat} (r:Room (k+1) A) (env:Env):Room k (A.deeper env) :=
 ⟨r.hd,by have:=r.dp;show A.depth+1+3*k+5<_;omega,by have:=r.un;show A.units+3+16*k+200<_;omega⟩
theorem Room.depth {k:Nat} (r:Room k A):A.depth<recursionLimit:=by have:=r.dp;omega
theorem Room.units {k:Nat} (r:Room k A):A.units+64<cLine:=by have:=r.un;omega
def ig:TA:=λ_ H Q=>Q [] H
def bY (ta:TE) (tr:TA):TA:=λσ H Q=>ta σ H λx H1=>tr σ H1 λxs H2=>Q (x::xs) H2
section
variable {X:Cx} {e:Expr} {es:List Expr} {te:TE} {t:TA} {pos:Pos}
theorem ad:PA X [] ig:=λ_ _ _ _ H Q I h=>Calls.spliced_nil ⟨[],H,I,.nil,h⟩
theorem aa (ha:PE X e te) (hr:PA X es t) (hs:starEach (e::es) X.env=(false,eval e X.env)::starEach es X.env:=by rfl):PA X (e::es) (bY te t):=by
 intro pos pins s σ H Q I h;rw[hs];show wpAny _ _ (spliced ((false,eval e X.env)::backTo pos (starEach es X.env))) _ _ s;refine Calls.spliced_cons (thn (ha pins s σ H _ I h) λu s1 ⟨x,H1,I1,r1,q1⟩=>?_);exact thn (hr pos pins s1 σ H1 _ I1 q1) λus s2 ⟨xs,H2,I2,r2,q2⟩=>⟨x::xs,H2,I2,.cons r1 r2,q2⟩
def wH (t:TA):TE:=λσ H Q=>t σ H λxs H1=>xs.length<=sizeLine/\∀p,H1 p=none->Q (.ref p) (upd H1 p (.tup xs))
def wJ (t:TA):TE:=λσ H Q=>t σ H λxs H1=>xs.length<=sizeLine/\∀p,H1 p=none->Q (.ref p) (upd H1 p (.lst xs))
theorem bh {x1} (h:PA X es t):PE X (.Tuple es x1 pos) (wH t):=by
 intro pins s σ H Q I hq;refine wpAny_Tuple_spliced (thn (h pos pins s σ H _ I hq) λus s1 ⟨xs,H1,I1,r,z,q⟩=>⟨by rw[<-r.length];exact z,?_⟩);have hf:H1 s1.heap.objs.size=none:=I1.hok.fresh (Qg _);refine⟨.ref s1.heap.objs.size,upd H1 s1.heap.objs.size (.tup xs),I1.laid (t':=s1.toks) (λb u e=>Qd _ e) (Qg _) ?_,rfl,q _ hf⟩;exact⟨z,us,r,⟨_,Qp _ rfl,rfl,_,rfl⟩⟩
theorem bx (h:PA X es t):PE X (.List es pos) (wJ t):=by
 intro pins s σ H Q I hq;refine wpAny_List_spliced (thn (h pos pins s σ H _ I hq) λus s1 ⟨xs,H1,I1,r,z,q⟩=>⟨by rw[<-r.length];exact z,?_⟩);have hf:H1 s1.heap.objs.size=none:=I1.hok.fresh (Qg _);refine⟨.ref s1.heap.objs.size,upd H1 s1.heap.objs.size (.lst xs),I1.laid (t':=s1.toks) (λb u e=>Qd _ e) (Qg _) ?_,rfl,q _ hf⟩;exact⟨z,us,0,r,Qp _ rfl⟩
end
abbrev Sp:=List V->Hp->VK->XK->Prop
abbrev CXT:=List Env->Hp->Shared->XK->Value->Shared->Prop
structure Env0 (P:Program) (w:World) (K:PySem.W.Frag) (mg:Str->Option Value) (base:Heap) (A:Around) (outer:List Env) (s:Shared) (H:Hp):Prop where
 frames:A.frames=some outer
 mod:Mod K mg base
 bs:∀b o,base.get? b=some o->s.heap.get? b=some o/\H b=none
 bsz:base.objs.size<=s.heap.objs.size
 funs:s.heap.FunFrames base outer
 frf:∀b∈frs outer,H b=none
 hok:HOk P w H s.heap
 bare:AllBare s.gens
def CE (outer:List Env) (P:Program) (w:World) (H:Hp) (s:Shared) (Q:VK) (u:Value) (s':Shared):Prop :=
 ∃v H',s'.os=s.os/\AllBare s'.gens/\Un (frs outer) [] H H' s.heap s'.heap/\HOk P w H' s'.heap/\aS v u/\Q v H'
def CR (CX:CXT) (outer:List Env) (P:Program) (w:World) (H:Hp) (s:Shared) (Q:VK) (E:XK) (r:Result) (s':Shared):Prop :=
 match r with
 | .ok (.ret u)=>CE outer P w H s Q u s'
 | .ok _=>False
 | .error e=>CX outer H s E e s'
structure FnOk (P:Program) (w:World) (K:PySem.W.Frag) (mg:Str->Option Value) (base:Heap) (CX:CXT) (k:Nat) (f:Addr) (fd:FuncData) (ps:List Str) (sp:Sp):Prop where
 len:∀vs H Q E,sp vs H Q E->vs.length=ps.length
 run:∀(A:Around) (outer:List Env) (s:Shared) (H:Hp) (args:Args) (us:List Value) (vs:List V) (Q:VK) (E:XK),Room k A->Env0 P w K mg base A outer s H->BindsTo s fd args (ps.zip us)->aY vs us->sp vs H Q E ->
  codeAny (model P w) A (.call (.ref f) args) (CR CX outer P w H s Q E) s
section
variable {X:Cx} {pins:List (Addr × Obj)} {σ:St} {H:Hp} {s s':Shared}
theorem Inv.env0 (I:Inv X pins σ H s):Env0 X.prog X.w X.K X.mg X.base X.A X.stack s H :=
 ⟨I.ok.frames,I.ok.mod,I.bs,Q0 I.ok.bsz I.sz,I.stack,I.stkFree,I.hok,I.bare⟩
theorem Inv.after {Q:VK} {u:Value} (I:Inv X pins σ H s) (h:CE X.stack X.prog X.w H s Q u s'):EP X pins σ Q u s':=by
 obtain⟨v,H',os,bare,un,hok,r,q⟩:=h;obtain⟨hh,g,d,t,os'⟩:=s';obtain rfl:os'=s.os:=os;exact⟨v,H',I.call (h':=hh) (g':=g) (d':=d) (t':=t) (ch:=[]) un hok bare (λb z=>absurd z (by simp)),r,q⟩
end
def jl (sp:Sp) (dvs:List V) (E:XK) (t:TA):TE:=λσ H Q=>t σ H λvs H1=>sp (vs++dvs) H1 Q E
def hZ (K:PySem.W.Frag) (fd:FuncData) (ps:List Str) (ds:List Value):Prop :=
 ∀(s:Shared) (us:List Value),K.In s.heap->(us++ds).length=ps.length->BindsTo s fd ⟨us,[]⟩ (ps.zip (us++ds))
variable {ps N:List Str}
theorem hZ.all {fd:FuncData} (h:∀us:List Value,us.length=ps.length->bindArgs fd ⟨us,[]⟩=pure (ps.zip us)):hZ K fd ps []:=λs us _ hl=>by
 rw[XJ]at hl ⊢;exact .of_eq (h us hl)
def kR (CX:CXT) (X:Cx) (E:XK):Prop:=∀(pins:List (Addr × Obj)) (σ:St) (H:Hp) (s:Shared) (e:Value) (s':Shared),Inv X pins σ H s->CX X.stack H s E e s'->X.xe e s'
section
variable {X:Cx} {CX:CXT} {k:Nat} {f C:Addr} {fd:FuncData} {ps:List Str} {sp:Sp} {dvs:List V} {ds:List Value} {E:XK} {x m:Str} {p pos apos:Pos} {e o:Expr} {es:List Expr} {ta:TE} {t:TA}
theorem za {pins:List (Addr × Obj)} {σ:St} {H:Hp} {s:Shared} {Q:VK} {us:List Value} {vs:List V} (F:FnOk X.prog X.w X.K X.mg X.base CX k f fd ps sp) (hr:Room k X.A) (hb:hZ X.K fd ps ds) (hd:aY dvs ds) (hx:kR CX X E)
  (I:Inv X pins σ H s) (r:aY vs us) (h:sp (vs++dvs) H Q E):wpAny (model X.prog X.w) X.A (call (.ref f) us) (EP X pins σ Q) X.xe s:=by
 have r2:aY (vs++dvs) (us++ds):=r.append hd;have hl:(us++ds).length=ps.length:=by rw[<-r2.length];exact F.len _ _ _ _ h
 refine wpAny_call (codeAny_mono (F.run X.A X.stack s H ⟨us,[]⟩ (us++ds) (vs++dvs) Q E hr I.env0 (hb s us I.kIn hl) r2 h) λr s' hq=>?_)
 cases r with
 | error e=>exact hx pins σ H s e s' I hq
 | ok fl =>
 cases fl with
 | ret u=>exact I.after hq
 | next=>exact False.elim hq
 | brk=>exact False.elim hq
 | cont=>exact False.elim hq
theorem wV (F:FnOk X.prog X.w X.K X.mg X.base CX k f fd ps sp) (hr:Room k X.A) (hg:Gl X x) (hm:X.mg x=some (.ref f)) (hk:PySem.W.keepIn X.K (.ref f)=true) (hb:hZ X.K fd ps ds) (hd:aY dvs ds) (hx:kR CX X E)
  (ha:PA X (e::es) t) (hdb:(x==("__debug__" : Str))=false:=by decide) (he:starEach (e::es) X.env=(false,eval e X.env)::starEach es X.env:=by rfl) (hpl:(backTo pos (starEach es X.env)).any (·.1)=false:=by rfl) :
  PE X (.Call (.Name x p) (e::es) [] pos) (jl sp dvs E t):=by
 intro pins s σ H Q I h;refine wpAny_Call_Name_kw (nv I hg hm ?_ hdb);refine PySem.W.callWith_K (h₀:=X.base) I.ok.mod.kin hk (thn (ha pos pins s σ H _ I h) λus s1 ⟨vs,H1,I1,r,q⟩=>⟨I1.kIn,?_⟩) he hpl;exact za F hr hb hd hx I1 r q
structure Mk (K:PySem.W.Frag) (C f:Addr):Prop where
 makes:PySem.W.makesIn K C=true
 init:PySem.W.findIn K (.ref C) "__init__" = some (some (.ref f))
 fn:PySem.W.isFn K (.ref f)=true
 kp:PySem.W.keepIn K (.ref C)=true
end
def PK (X:Cx) (kws:List Keyword) (t:TA):Prop :=
 ∀(pos:Pos) (pins:List (Addr × Obj)) (s:Shared) (σ:St) (H:Hp) (Q:List V->Hp->Prop),Inv X pins σ H s->t σ H Q->wpAny (model X.prog X.w) X.A (evalAll ((backToKw pos (keywordEach kws X.env)).map (·.2))) (AP X pins σ Q) X.xe s
section
variable {X:Cx} {CX:CXT} {k:Nat} {f C:Addr} {fd:FuncData} {ps ks:List Str} {sp:Sp} {E:XK} {x m:Str} {p pos apos kpos:Pos} {e o:Expr} {es:List Expr} {kws:List Keyword} {te ta:TE} {t tk:TA} {nm:Option Str}
theorem zh:PK X [] ig:=λ_ _ _ _ H Q I h=>wpAny_evalAll_nil ⟨[],H,I,.nil,h⟩
theorem wS (ha:PE X e te) (hr:PK X kws t):PK X (⟨nm,e,kpos⟩::kws) (bY te t):=by
 intro pos pins s σ H Q I h;show wpAny _ _ (evalAll ((do let v <-eval e X.env;standAt pos;pure v)::(backToKw pos (keywordEach kws X.env)).map (·.2))) _ _ s;refine wpAny_evalAll_cons (Qb (thn (ha pins s σ H _ I h) λu s1 ⟨x,H1,I1,r1,q1⟩=>Qb (wpAny_standAt (Qf ?_))));exact thn (hr pos pins s1 σ H1 _ I1 q1) λus s2 ⟨xs,H2,I2,r2,q2⟩=>⟨x::xs,H2,I2,.cons r1 r2,q2⟩
structure KBinds (K:PySem.W.Frag) (fd:FuncData) (ps ks:List Str) (g:List Value->List Value->List Value) (gV:List V->List V->List V):Prop where
 to:∀(s:Shared) (us ws:List Value),K.In s.heap->(g us ws).length=ps.length->BindsTo s fd ⟨us,ks.zip ws⟩ (ps.zip (g us ws))
 rel:∀{vs:List V} {us:List Value} {zs:List V} {ws:List Value},aY vs us->aY zs ws->aY (gV vs zs) (g us ws)
variable {g:List Value->List Value->List Value} {gV:List V->List V->List V}
end
structure FnScope (N P:List Str) (sc:Scope):Prop where
 kind:sc.kind=.function
 co:sc.isCoroutine=false
 gen:sc.isGenerator=false
 nd:N.Nodup
 pre:N.take P.length=P
 par:∀x∈P,sc.names.lookup x=some .local\/sc.names.lookup x=some .cell
 nofree:∀y∈sc.names,y.2≠.free
theorem l9 {kindOf:Str->Option NameKind} {x:Str}:∀{binds:List (Str × Value)} {m:Str->Option Value},(∀v,(x,v)∉binds)->bindL kindOf binds m x=m x
 | [],_,_=>rfl
 | (n,v)::r,m,h=>by
  unfold bindL;rw[l9 λw hw=>h w (Qw _ hw)]
  split
  ·have:x≠n:=by rintro rfl;exact h v Xj
   simp[this]
  rfl
theorem ma {kindOf:Str->Option NameKind} {x:Str}:∀{binds:List (Str × Value)} {m:Str->Option Value},(∀v,(x,v)∉binds)->bindC kindOf binds m x=m x
 | [],_,_=>rfl
 | (n,v)::r,m,h=>by
  unfold bindC;rw[ma λw hw=>h w (Qw _ hw)]
  split
  ·rfl
  have:x≠n:=by rintro rfl;exact h v Xj
  simp[this]
theorem l_ {kindOf:Str->Option NameKind} {x:Str} {v:Value}:∀{P:List Str} {vs:List Value} {i:Nat} {m:Str->Option Value},P.Nodup->P[i]?=some x->vs[i]?=some v->kindOf x=some .local ->
  bindL kindOf (P.zip vs) m x=some v
 | [],_,_,_,_,h,_,_=>by simp at h
 | _::_,[],_,_,_,_,h,_=>by simp at h
 | p::P,w::vs,0,m,nd,h1,h2,hk=>by
  simp at h1 h2;subst h1;subst h2;show bindL kindOf ((p,w)::P.zip vs) m p=_;unfold bindL;rw[l9 λv hv=>(Q5.mp nd).1 (List.of_mem_zip hv).1,QF hk];simp
 | p::P,w::vs,i+1,m,nd,h1,h2,hk=>by
  show bindL kindOf ((p,w)::P.zip vs) m x=_;unfold bindL;exact l_ (i:=i) (Q5.mp nd).2 (by simpa using h1) (by simpa using h2) hk
theorem me {kindOf:Str->Option NameKind} {x:Str} {v:Value}:∀{P:List Str} {vs:List Value} {i:Nat} {m:Str->Option Value},P.Nodup->P[i]?=some x->vs[i]?=some v->kindOf x≠some .local ->
  bindC kindOf (P.zip vs) m x=some v
 | [],_,_,_,_,h,_,_=>by simp at h
 | _::_,[],_,_,_,_,h,_=>by simp at h
 | p::P,w::vs,0,m,nd,h1,h2,hk=>by
  simp at h1 h2;subst h1;subst h2;show bindC kindOf ((p,w)::P.zip vs) m p=_;unfold bindC;rw[ma λv hv=>(Q5.mp nd).1 (List.of_mem_zip hv).1,QB hk];simp
 | p::P,w::vs,i+1,m,nd,h1,h2,hk=>by
  show bindC kindOf ((p,w)::P.zip vs) m x=_;unfold bindC;exact me (i:=i) (Q5.mp nd).2 (by simpa using h1) (by simpa using h2) hk
def start (N:List Str) (vs:List V):St:=vs.map some++List.replicate (N.length-vs.length) none
noncomputable def cxOf (CX:CXT) (P:Program) (w:World) (K:PySem.W.Frag) (mg:Str->Option Value) (base:Heap) (N:List Str) (qual:Str) (scope:Scope) (f:Addr) (cd:Value) (A:Around) (outer:List Env) (s:Shared) (H:Hp) (E:XK):Cx where
 prog:=P
 w:=w
 K:=K
 mg:=mg
 base:=base
 A:=A.deeper (envOfC qual scope s.heap.objs.size f cd)
 N:=N
 s₀:=s
 H₀:=H
 env:=envOfC qual scope s.heap.objs.size f cd
 outer:=outer
 stack:=envOfC qual scope s.heap.objs.size f cd::outer
 ex:=[]
 calm:=true
 fn:=λ_=>true
 pn:=[]
 xe:=λe s'=>wpAny (model P w) (A.deeper (envOfC qual scope s.heap.objs.size f cd)) (leaving (envOfC qual scope s.heap.objs.size f cd) e) (λ_ s''=>CX outer H s E e s'') (λe' s''=>CX outer H s E e' s'') s'
variable {sc scope:Scope}
theorem pJ {n:Nat} {x:Str} (h:sc.names.lookup x=some .cell):∃c,(cellsFrom n sc.names []).lookup x=some c:=by
 have q:=PySem.W.cellsFrom_some sc.names n [] (.inl h);exact Option.isSome_iff_exists.mp q
theorem tX {CX:CXT} {qual:Str} {outer:List Env} {E:XK} {us:List Value} {vs:List V}
  (S:FnScope N ps scope) (hd:A.handled=none) (e0:Env0 P w K mg base A outer s H) (hl:vs.length=ps.length) (r:aY vs us)
  (x:InCallC s s.heap.objs.size (bindL (envOfC qual scope s.heap.objs.size f cd).kindOf (ps.zip us) λ_=>none) (cellsFrom (s.heap.objs.size+1) scope.names []) (bindC (envOfC qual scope s.heap.objs.size f cd).kindOf (ps.zip us) λ_=>none) s1) :
  Inv (cxOf CX P w K mg base N qual scope f cd A outer s H E) [] (start N vs) H s1:=by
 have hpl:ps.length<=N.length:=by have:=congrArg List.length S.pre;rw[Qs]at this;omega
 obtain⟨h1,tk,rfl,hk⟩:=x.done;have noA:∀b:Addr,b∉(cxOf CX P w K mg base N qual scope f cd A outer s H E).ex:=λb z=>absurd (show b∈([]:List Addr) from z) (by simp)
 refine⟨⟨e0.mod,S.kind,rfl,rfl,Qg _,λy z c h1 h2=>?_,λy hy=>?_,λy c _ h=>?_,λ_=>hd,Around.frames_deeper e0.frames,.inr ⟨rfl,rfl⟩,λb z=>absurd z (noA b),e0.bs,e0.bsz,λb _ _=>noA b,λb z=>absurd z (noA b),e0.funs,e0.frf⟩,
  rfl,e0.bare,Un.kept hk,⟨_,x.toInCall.ns,λi y v h1 h2 h3=>?_⟩,λy c h=>⟨_,x.cell y c h⟩,e0.hok.fresh (Qg _),λy c h=>?_,λp hp=>absurd (show p∈([]:List (Addr × Obj)) from hp) (by simp),e0.hok.kept hk,?_⟩
 ·exact name_of_addr x.apart (PySem.mem_of_lookup h1) (PySem.mem_of_lookup h2)
 ·have hy:scope.names.lookup y=some .cell\/scope.names.lookup y=some .free:=hy;rcases hy with hy|hy
  ·exact pJ hy
  exact absurd rfl (S.nofree _ (PySem.mem_of_lookup hy))
 ·exact Xv (x.above y c (PySem.mem_of_lookup h))
 ·have hi:i<vs.length:=by
   unfold start at h2;by_cases hi:i<vs.length
   ·exact hi
   rw[QE (by simpa using hi)]at h2;rw[List.getElem?_replicate]at h2
   split at h2 <;> cases h2
  have ha:vs[i]?=some v:=by
   unfold start at h2;rw[QG (by simpa using hi),Qh]at h2
   cases e:vs[i]? with
   | none=>rw[e]at h2;cases h2
   | some a=>rw[e]at h2;cases h2;rfl
  obtain⟨u,hu,rv⟩:=r.get ha
  have hp:ps[i]?=some y:=by
   rw[<-S.pre,List.getElem?_take_of_lt (by omega)];exact h1
  have ndP:ps.Nodup:=by rw[<-S.pre];exact S.nd.sublist (List.take_sublist _ _)
  refine⟨u,rv,?_⟩;rcases S.par y (Qi hp) with k|k
  ·exact .inl ⟨k,l_ ndP hp hu k⟩
  obtain⟨c,e⟩:=pJ (n:=s.heap.objs.size+1) k;refine .inr ⟨.inl k,c,e,?_⟩;have q:=x.cell y c e;rw[me ndP hp hu (by show scope.names.lookup y≠_;rw[k];decide)]at q;exact q
 ·exact e0.hok.fresh (Xv (x.above y c (PySem.mem_of_lookup h)))
 unfold start;show _=N.length;rw[Qj,Qa,List.length_replicate];omega
theorem yQ {CX:CXT} {k:Nat} {name qual:Str} {params:Arguments} {body:List Stmt} {kV:Value} {an od:Option Addr}
  {osl:Array (Option Value)} {sp:Sp} (lk:K.lookup f=some ⟨oc,od,.func (PySem.W.fnOf name qual params body scope dV kV doc pm an cdv ct),osl⟩) (hcd:PySem.W.codeIn K cdv qual=true) (S:FnScope N ps scope)
  (len:∀vs H Q E,sp vs H Q E->vs.length=ps.length)
  (hbody:∀(A:Around) (outer:List Env) (s:Shared) (H:Hp) (vs:List V) (Q:VK) (E:XK),Room k (A.deeper (envOfC qual scope s.heap.objs.size f cdv))->sp vs H Q E ->
   ∃t,PSs (cxOf CX P w K mg base N qual scope f cdv A outer s H E) body t/\t { nx:=λ_ H'=>Q .non H',rt:=Q } (start N vs) H) :
  FnOk P w K mg base CX (k+1) f (PySem.W.fnOf name qual params body scope dV kV doc pm an cdv ct) ps sp:=by
 refine⟨len,λA outer s H args us vs Q E hr e0 hb r hsp=>?_⟩;have hl:=len _ _ _ _ hsp;have KX:K.In s.heap:=e0.mod.kin.keeps λb o e=>(e0.bs b o e).1;have lim:s.heap.NoLimit:=e0.mod.nolimit.keeps λb o e=>(e0.bs b o e).1
 have hkind:∀y∈ps.zip us,scope.names.lookup y.1=some .local\/(scope.names.lookup y.1=some .cell/\((cellsFrom (s.heap.objs.size+1) scope.names []).lookup y.1).isSome=true):=λ⟨n,v⟩ hy=>by
  rcases S.par n (List.of_mem_zip hy).1 with q|q
  ·exact .inl q
  exact .inr ⟨q,PySem.W.cellsFrom_some _ _ _ (.inl q)⟩
 refine codeAny_call_function hr.depth (KX _ _ lk) rfl S.co S.gen rfl (PySem.W.codeRec_of KX hcd) (hb _ _ _ _ ?_);refine wpAny_newFunctionEnv_cells S.kind hkind λenv he s1 x=>?_;subst he;refine⟨lim.keeps x.toInCall.keep,codeAny_func ?_⟩;obtain⟨t,ht,hq⟩:=hbody A outer s H vs Q E (hr.deeper _) hsp;have I:Inv (cxOf CX P w K mg base N qual scope f cdv A outer s H E) [] (start N vs) H s1:=tX S hr.hd e0 hl r x;refine Xm (ht [] s1 (start N vs) H _ I hq) (λfl s' hs=>?_) λe s' hs=>hs
 have fin:∀{σ':St} {H':Hp} {v:V} {u:Value},Inv (cxOf CX P w K mg base N qual scope f cdv A outer s H E) [] σ' H' s'->aS v u->Q v H'->CE outer P w H s Q u s' :=
  λ{σ' H' v u} J rv q=>⟨v,H',J.os,J.bare,J.base,J.hok,rv,q⟩
 cases fl with
 | ret u =>
  obtain⟨v,σ',H',J,rv,q⟩:=hs;exact fin J rv q
 | next =>
  obtain⟨σ',H',J,q⟩:=hs;exact fin (v:=V.non) (u:=Value.none) J rfl q
 | brk =>
  obtain⟨_,_,_,q⟩:=hs;exact False.elim q
 | cont =>
 obtain⟨_,_,_,q⟩:=hs;exact False.elim q
section
variable {X:Cx} {x:Str} {p pos:Pos} {e:Expr} {es:List Expr} {t:TA} {id T:String} {r:List V->Hp->VK->Prop}
def tCB (r:List V->Hp->VK->Prop) (t:TA):TE:=λσ H Q=>t σ H λvs H1=>r vs H1 Q
theorem aB (hc:eB X (.builtin id) r) (hg:Gl X x) (hm:X.mg x=none) (hv:bootBuiltins x=some (.builtin id)) (ha:PA X (e::es) t) (hn:x ≠ "__name__" := by decide) (hdb:(x==("__debug__" : Str))=false:=by decide)
  (he:starEach (e::es) X.env=(false,eval e X.env)::starEach es X.env:=by rfl) (hpl:(backTo pos (starEach es X.env)).any (·.1)=false:=by rfl):PE X (.Call (.Name x p) (e::es) [] pos) (tCB r t):=by
 intro pins s σ H Q I h;refine wpAny_Call_Name_kw (dO I hg hm hv ?_ hn hdb);exact PyProof.Rows.callWith_builtin1 (thn (ha pos pins s σ H _ I h) λus s1 ⟨vs,H1,I1,r1,q1⟩=>hc pins s1 σ H1 vs us Q I1 r1 q1) he hpl
theorem d6 (hc:eB X (.type T) r) (hg:Gl X x) (hm:X.mg x=none) (hv:bootBuiltins x=some (.type T)) (ha:PA X (e::es) t) (hn:x ≠ "__name__" := by decide) (hdb:(x==("__debug__" : Str))=false:=by decide)
  (he:starEach (e::es) X.env=(false,eval e X.env)::starEach es X.env:=by rfl) (hpl:(backTo pos (starEach es X.env)).any (·.1)=false:=by rfl):PE X (.Call (.Name x p) (e::es) [] pos) (tCB r t):=by
 intro pins s σ H Q I h;refine wpAny_Call_Name_kw (dO I hg hm hv ?_ hn hdb);exact Xe (thn (ha pos pins s σ H _ I h) λus s1 ⟨vs,H1,I1,r1,q1⟩=>hc pins s1 σ H1 vs us Q I1 r1 q1) he hpl
end
end L2
namespace HT
open PySem PyProof.Rows
section
open PySem.SeqAt
open PySem.AutoSeq1 (wpAny_loadPart')
open PySem.MeetsSeq PySem.MeetsSeq2 PySem.MeetsSeq3
end
section
variable {prog:Program} {w:World} {A:Around} {E:Value->Shared->Prop} {s:Shared}
def sIx (n d:Nat):Option Int->Nat
 | none=>d
 | some v=>if v<0 then (v+(n:Int)).toNat else min v.toNat n
theorem jK (n d:Nat):sIx n d none=d:=rfl
theorem mT (n d k:Nat):sIx n d (some (k:Int))=min k n:=by
 show (if (k:Int)<0 then ((k:Int)+(n:Int)).toNat else min (k:Int).toNat n)=min k n;rw[QB (by omega),Xw]
end
end HT
namespace L2
open PySem PySem.Spec PyProof.Rows
abbrev TO:=St->Hp->(Option Int->Hp->Prop)->Prop
def PO (X:Cx) (e:Option Expr) (t:TO):Prop :=
 ∀(pins:List (Addr × Obj)) (s:Shared) (σ:St) (H:Hp) (Q:Option Int->Hp->Prop),Inv X pins σ H s->t σ H Q ->
  wpAny (model X.prog X.w) X.A (evalPart e X.env) (λu s'=>∃o H',Inv X pins σ H' s'/\IsPart u o/\Q o H') X.xe s
def rm:TO:=λ_ H Q=>Q none H
def xP (t:TE):TO:=λσ H Q=>t σ H λx H1=>∃i,x=.int i/\Q (some i) H1
section
variable {X:Cx} {e:Expr} {te:TE} {lo hi:Option Expr} {tl th:TO} {pos p2:Pos}
theorem cw:PO X none rm:=by
 intro pins s σ H Q I h;rw[evalPart_none];exact Qf ⟨none,H,I,.none,h⟩
theorem cu (h:PE X e te):PO X (some e) (xP te):=by
 intro pins s σ H Q I hw;rw[evalPart_some];refine thn (h pins s σ H _ I hw) λu s1 ⟨x,H1,I1,r1,q1⟩=>?_;obtain⟨i,rfl,q⟩:=q1;obtain⟨t,rfl⟩:=r1;exact⟨some i,H1,I1,.int i t,q⟩
def SlR (X:Cx) (r:V->Option Int->Option Int->Hp->VK->Prop):Prop :=
 ∀(pins:List (Addr × Obj)) (s:Shared) (σ:St) (H:Hp) (x:V) (v vl vu:Value) (lo hi:Option Int) (sl:Addr) (Q:VK),Inv X pins σ H s->aS x v->s.heap.IsSliceOf sl vl vu .none->IsPart vl lo->IsPart vu hi->r x lo hi H Q ->
  ∃T id,typeLookup (.type T) "__getitem__" = pure (some (.builtin id))/\s.TypeIs v T/\wpAny (model X.prog X.w) X.A (getItem v (.ref sl)) (EP X pins σ Q) X.xe s
def tSl (r:V->Option Int->Option Int->Hp->VK->Prop) (te:TE) (tl th:TO):TE:=λσ H Q=>te σ H λx H1=>tl σ H1 λl H2=>th σ H2 λu H3=>r x l u H3 Q
theorem bJ {r:V->Option Int->Option Int->Hp->VK->Prop} (hr:SlR X r) (he:PE X e te) (hl:PO X lo tl) (hu:PO X hi th):PE X (.Subscript e (.Slice lo hi none p2) pos) (tSl r te tl th):=by
 intro pins s σ H Q I h;refine Subscript_ (thn (he pins s σ H _ I h) λv s1 ⟨x,H1,I1,r1,q1⟩=>?_);refine wpAny_Slice (thn (hl pins s1 σ H1 _ I1 q1) λvl s2 ⟨l,H2,I2,pl,q2⟩=>thn (hu pins s2 σ H2 _ I2 q2) λvu s3 ⟨u,H3,I3,pu,q3⟩=>?_);rw[evalPart_none];refine Qf ?_;have I4:Inv X pins σ H3 { s3 with heap:=s3.heap.push { cls:=.type "slice", data:=.fields #[vl,vu,.none] } }:=I3.kept (t':=s3.toks) λb ob q=>Qd _ q;obtain⟨T,id,hT,ht,hg⟩:=hr pins { s3 with heap:=s3.heap.push { cls:=.type "slice", data:=.fields #[vl,vu,.none] } } σ H3 x v vl vu l u s3.heap.objs.size Q I4 r1 (Heap.IsSliceOf.new ..) pl pu q3;show wpAny (model X.prog X.w) X.A (subscriptTail e (.Slice lo hi none p2) v (.ref s3.heap.objs.size)) (EP X pins σ Q) X.xe { s3 with heap:=s3.heap.push { cls:=.type "slice", data:=.fields #[vl,vu,.none] } };exact tail_any (ops:=[.ref s3.heap.objs.size,v]) ht hT hg (by with_unfolding_all rfl)
def fQ (xs:List V) (lo hi:Option Int):List V:=(xs.drop (HT.sIx xs.length 0 lo)).take (HT.sIx xs.length xs.length hi-HT.sIx xs.length 0 lo)
theorem iR (xs:List V) (lo hi:Option Int):(fQ xs lo hi).length<=xs.length:=by
 unfold fQ;rw[Qs,Q4];omega
end
def ixN (n:Nat) (i:Int):Option Nat:=if 0<=i then (if i<n then some i.toNat else none) else if -(n:Int)<=i then some (i+n).toNat else none
def atI {α:Type} (xs:List α) (i:Int):Option α:=(ixN xs.length i).bind λj=>xs[j]?
theorem rZ {n:Nat} {i:Int} {j:Nat} (h:ixN n i=some j):seqIndex? i n=some j/\j<n/\-(n:Int)<=i/\i<n:=by
 unfold ixN at h;by_cases h0:0<=i
 ·rw[QF h0]at h;by_cases h1:i<n
  ·rw[QF h1]at h;have e:i.toNat=j:=Q2 h;exact⟨by rw[seqIndex_of h0 h1,e],by omega,by omega,h1⟩
  rw[QB h1]at h;cases h
 rw[QB h0]at h;by_cases h1:-(n:Int)<=i
 ·rw[QF h1]at h;have e:(i+n).toNat=j:=Q2 h;exact⟨by rw[seqIndex_neg (by omega) h1,e],by omega,h1,by omega⟩
 rw[QB h1]at h;cases h
theorem nP {α:Type} {xs:List α} {i:Int} {v:α} (h:atI xs i=some v):∃j,seqIndex? i xs.length=some j/\xs[j]?=some v/\j<xs.length/\-(xs.length:Int)<=i/\i<xs.length:=by
 unfold atI at h
 cases e:ixN xs.length i with
 | none=>rw[e]at h;cases h
 | some j =>
 rw[e]at h;obtain⟨h1,h2,h3,h4⟩:=rZ e;exact⟨j,h1,h,h2,h3,h4⟩
theorem cC {α:Type} {xs:List α} {j:Nat} {v:α} (h:xs[j]?=some v):atI xs (j:Int)=some v:=by
 have hj:j<xs.length:=(Qe.mp h).1
 have e:ixN xs.length (j:Int)=some j:=by
  unfold ixN;rw[QF (by omega),QF (by omega)];simp
 unfold atI;rw[e];exact h
def xL (b:Expr):Prop:=∀o i,subscripted b false o i=operate [o,i] (getItem o i)
def IxR (X:Cx) (r:R2):Prop :=
 ∀(value slice:Expr) (pins:List (Addr × Obj)) (s:Shared) (σ:St) (H:Hp) (x y:V) (v u:Value) (Q:VK),Inv X pins σ H s->aS x v->aS y u->r x y H Q ->
  subscripted slice false v u=operate [v,u] (getItem v u)->wpAny (model X.prog X.w) X.A (subscriptTail value slice v u) (EP X pins σ Q) X.xe s
def MtR (X:Cx) (id:String) (r:V->List V->Hp->VK->Prop):Prop :=
 ∀(pins:List (Addr × Obj)) (s:Shared) (σ:St) (H:Hp) (x:V) (xs:List V) (v:Value) (us:List Value) (Q:VK),Inv X pins σ H s->aS x v->aY xs us->r x xs H Q ->
  wpAny (model X.prog X.w) X.A (call (.builtin id) (v::us)) (EP X pins σ Q) X.xe s
section
variable {X:Cx} {a b:Expr} {ta tb:TE} {pos:Pos}
theorem aC {r:R2} (hr:IxR X r) (ha:PE X a ta) (hb:PE X b tb) (hs:xL b):PE X (.Subscript a b pos) (tOp r ta tb):=by
 intro pins s σ H Q I h;exact Subscript_ (Af ha hb I h λv u s2 x y H2 I2 rx ry q=>hr a b pins s2 σ H2 x y v u Q I2 rx ry q (hs _ _))
def wP (K:PySem.W.Frag):R2:=λx y H Q=>∃p xs i v,x=.ref p/\y=.int i/\SqL K H p xs/\atI xs i=some v/\Q v H
def oN (K:PySem.W.Frag):R2:=λx y H Q=>∃p xs i v,x=.ref p/\y=.int i/\SqT K H p xs/\atI xs i=some v/\Q v H
def AE:R2:=λx y H Q=>∃z i c,x=.str z/\y=.int i/\z.length<=sizeLine/\atI z.cps.toList i=some c/\Q (.str ⟨#[c]⟩) H
theorem aH:IxR X (wP X.K):=by
 intro value slice pins s σ H x y v u Q I rx ry h hs;obtain⟨p,xs,i,z,rfl,rfl,hq,he,q⟩:=h;cases rx;obtain⟨t,rfl⟩:=ry;obtain⟨its,r,pl,hz⟩:=I.list hq;obtain⟨j,h1,h2,h3,h4,h5⟩:=nP he;obtain⟨w,ew,rw'⟩:=r.get h2;have hl:=r.length;have hn:=iA;have fin:EP X pins σ Q w s:=⟨z,H,I,rw',q⟩;by_cases h0:0<=i
 ·have hj:i.toNat=j:=by
   rw[seqIndex_of h0 h5]at h1;exact Q2 h1
  exact item_listR pl.isList h0 (by omega) (by rw[hj];simpa using ew) fin hs
 have hj:(i+(its.toArray.size:Int)).toNat=j:=by
  rw[seqIndex_neg (by omega) h4]at h1;rw[Ql,<-hl];exact Q2 h1
 exact subscriptTail_builtinR (x:=w) pl.isList.typeIs slot_list_getitem.lookup
  (wpAny_getItem_list_neg (Q:=λr s'=>r=w/\EP X pins σ Q r s') pl.isList (by omega) (by rw[Ql] <;> omega) (by omega) (by rw[hj];simpa using ew) ⟨rfl,fin⟩) hs
theorem aU:IxR X (oN X.K):=by
 intro value slice pins s σ H x y v u Q I rx ry h hs;obtain⟨p,xs,i,z,rfl,rfl,hq,he,q⟩:=h;cases rx;obtain⟨t,rfl⟩:=ry;obtain⟨its,r,pl,hz⟩:=I.tuple hq;obtain⟨j,h1,h2,h3,h4,h5⟩:=nP he;obtain⟨w,ew,rw'⟩:=r.get h2;have hl:=r.length;have hn:=iA;have fin:EP X pins σ Q w s:=⟨z,H,I,rw',q⟩
 exact subscriptTail_builtinR (x:=w) pl.typeIs slot_tuple_getitem.lookup
  (getItem_tuple (j:=j) (Q:=λr s'=>r=w/\EP X pins σ Q r s') pl (by omega) (by omega) (by rw[Ql,<-hl];exact h1) (by simpa using ew) ⟨rfl,fin⟩) hs
theorem eP:IxR X AE:=by
 intro value slice pins s σ H x y v u Q I rx ry h hs;obtain⟨z,i,c,rfl,rfl,hz,he,q⟩:=h;obtain⟨t,rfl⟩:=rx;obtain⟨t',rfl⟩:=ry;obtain⟨j,h1,h2,h3,h4,h5⟩:=nP he;have hl:z.cps.toList.length=z.length:=by simp[Str.length]
 rw[hl]at h1 h4 h5;have hn:=iA
 exact tail_any (typeIs_str s z t) slot_str_getitem.lookup (getItem_str (c:=c) (by
  have e1:decide (i < -(2 ^ 63:Int))=false:=QU (by omega);have e2:decide (i>=2 ^ 63)=false:=QU (by omega)
  rw[e1,e2,Bool.or_false]) (by rw[h1];simpa using h2) ⟨.str ⟨#[c]⟩,H,I.tok _,⟨_,rfl⟩,q⟩) hs
theorem qH (its:List Value) (n j:Nat) (u:Value):Obj.mapSeq (·.setIfInBounds j u) { cls:=.type "list", data:=.seq its.toArray n }={ cls:=.type "list", data:=.seq (its.set j u).toArray n }:=by
 simp[Obj.mapSeq]
variable {s:Shared} {pins:List (Addr × Obj)}
theorem Inv.lst {σ:St} {H:Hp} {p:Addr} {xs:List V} (I:Inv X pins σ H s) (h:H p=some (.lst xs)) :
  ∃(its:List Value) (n:Nat),aY xs its/\s.heap.get? p=some { cls:=.type "list", data:=.seq its.toArray n }/\xs.length<=sizeLine:=by
 obtain⟨z,its,n,r,e⟩:=I.hok p _ h;exact⟨its,n,r,e,z⟩
theorem Inv.lstUpd {σ:St} {H:Hp} {p:Addr} {xs ys:List V} {its its':List Value} {n n':Nat} {f:Obj->Obj} (I:Inv X pins σ H s) (h:H p=some (.lst xs))
  (ho:s.heap.get? p=some { cls:=.type "list", data:=.seq its.toArray n }) (hf:f { cls:=.type "list", data:=.seq its.toArray n }={ cls:=.type "list", data:=.seq its'.toArray n' }) (r:aY ys its') (hz:ys.length<=sizeLine) (t:Nat) :
  Inv X pins σ (upd H p (.lst ys)) { s with heap:=s.heap.update p f,toks:=t }:=by
 have e:(s.heap.update p f).get? p=some { cls:=.type "list", data:=.seq its'.toArray n' }:=by
  rw[XH f ho (by rw[hf] <;> rfl),hf]
 refine I.write (x:=p) (e:=p) (by rw[h];trivial) (.inl rfl) (λb u hb q=>(Xf _ _ (XF hb)).trans q) ⟨_,e⟩ ?_;exact⟨hz,its',n',r,e⟩
def yb:V->V->V->Hp->(Hp->Prop)->Prop:=λo i v H Q=>∃p xs k j,o=.ref p/\i=.int k/\H p=some (.lst xs)/\ixN xs.length k=some j/\Q (upd H p (.lst (xs.set j v)))
theorem ou:Ds X yb:=by
 intro pins s σ H o i v ov iv u Q I ro ri rv h;obtain⟨p,xs,k,j,rfl,rfl,hp,hj,q⟩:=h;cases ro;obtain⟨t,rfl⟩:=ri;obtain⟨its,n,r,ho,hz⟩:=I.lst hp;obtain⟨h1,h2,h3,h4⟩:=rZ hj;have hl:=r.length;have hn:=iA
 have I':Inv X pins σ (upd H p (.lst (xs.set j v))) { s with heap:=s.heap.update p (Obj.mapSeq (·.setIfInBounds j u)) } :=
  I.lstUpd hp ho (qH its n j u) (r.set rv j) (by rw[List.length_set];exact hz) s.toks
 by_cases h0:0<=k
 ·have hk:k.toNat=j:=by
   rw[seqIndex_of h0 h4]at h1;exact Q2 h1
  exact PySem.W.ki_setAt ho h0 (by omega) (by rw[Ql,<-hl];exact h4) (by rw[hk];exact⟨_,I',q⟩)
 have hk:(k+(its.toArray.size:Int)).toNat=j:=by
  rw[seqIndex_neg (by omega) h3]at h1;rw[Ql,<-hl];exact Q2 h1
 exact PySem.W.ki_setBack ho (by omega) (by rw[Ql,<-hl];exact h3) (by omega) (by rw[hk];exact⟨_,I',q⟩)
theorem xX (i:Int) (n:Nat):max 0 (min (if i<0 then i+(n:Int) else i) (n:Int))=(((if i<0 then (i+(n:Int)).toNat else min i.toNat n):Nat):Int):=by
 by_cases h:i<0
 ·rw[QF h,QF h,Int.min_eq_left (by omega)];omega
 obtain⟨k,rfl⟩:=Int.eq_ofNat_of_zero_le (Int.not_lt.mp h);rw[QB h,QB h,Xw];omega
theorem mK (lo hi:Option Int) (n:Nat):(sliceBounds lo hi none n).1=((HT.sIx n 0 lo:Nat):Int)/\(sliceBounds lo hi none n).2.1=((HT.sIx n n hi:Nat):Int)/\(sliceBounds lo hi none n).2.2=1:=by
 refine⟨?_,?_,rfl⟩
 ·cases lo with
  | none=>simp[sliceBounds,HT.sIx]
  | some i =>
   simp only[sliceBounds,HT.sIx,Option.getD_none,show (1:Int)>0 by decide,if_true];exact xX i n
 cases hi with
 | none=>simp[sliceBounds,HT.sIx]
 | some i =>
 simp only[sliceBounds,HT.sIx,Option.getD_none,show (1:Int)>0 by decide,if_true];exact xX i n
theorem kT (its:List Value) (lo hi:Option Int):slicePick its.toArray lo hi none=((its.drop (HT.sIx its.length 0 lo)).take (HT.sIx its.length its.length hi-HT.sIx its.length 0 lo)).toArray:=by
 obtain⟨h1,h2,h3⟩:=mK lo hi its.toArray.size;unfold slicePick;rw[h1,h2,h3];simp only[sliceRange_one,pick_run,Ql] <;> rfl
def AB (K:PySem.W.Frag):V->Option Int->Option Int->Hp->VK->Prop:=λx lo hi H Q=>∃a xs,x=.ref a/\SqL K H a xs/\∀p,H p=none->Q (.ref p) (upd H p (.lst (fQ xs lo hi)))
theorem fY:SlR X (AB X.K):=by
 intro pins s σ H x v vl vu lo hi sl Q I rx hs pl pu h;obtain⟨a,xs,rfl,hx,q⟩:=h;cases rx;obtain⟨its,r,ht,hz⟩:=I.list hx;have hlen:=r.length;refine⟨"list", _,slot_list_getitem.lookup,ht.isList.typeIs,?_⟩;refine wpAny_getItem_list_slice ht.isList hs pl pu .none (by simp) ?_ (by rw[Ql] <;> omega);rw[kT,<-hlen];refine⟨.ref s.heap.objs.size,_,I.laid (t':=s.toks) (o:=.lst (fQ xs lo hi)) (λb ob q=>Qd _ q) (Qg _) ?_,rfl,q _ (I.hok.fresh (Qg _))⟩;exact⟨Q0 (iR xs lo hi) hz,_,0,(r.drop (HT.sIx xs.length 0 lo)).take (HT.sIx xs.length xs.length hi-HT.sIx xs.length 0 lo),Qp _ rfl⟩
def dw:V->Bool
 | .non=>true
 | .bl _=>true
 | .int _=>true
 | .str _=>true
 | _=>false
def eqV:V->V->Bool
 | .non,.non=>true
 | .bl a,.bl b=>a==b
 | .bl a,.int b=>(if a then 1 else 0)==b
 | .int a,.bl b=>a==(if b then 1 else 0)
 | .int a,.int b=>a==b
 | .str a,.str b=>a==b
 | _,_=>false
variable {u v:Value}
theorem v_ {A:Around} {y x:V} (ry:aS y u) (rx:aS x v) (fy:dw y=true) (fx:dw x=true):SeqAt.EqAt A s u v (eqV y x):=by
 cases y with
 | non =>
  cases ry
  cases x with
  | non=>cases rx;exact SeqAt.EqAt.same _
  | bl b=>cases rx;exact SeqAt.EqAt.none_bool b
  | int b=>obtain⟨t,rfl⟩:=rx;exact SeqAt.EqAt.none_int b t
  | str b=>obtain⟨t,rfl⟩:=rx;exact SeqAt.EqAt.none_str b t
  | _=>exact absurd (show false=true from fx) Qn
 | bl a =>
  cases ry
  cases x with
  | non=>cases rx;exact SeqAt.EqAt.bool_none a
  | bl b=>cases rx;exact SeqAt.EqAt.bool_bool a b
  | int b=>obtain⟨t,rfl⟩:=rx;exact SeqAt.EqAt.bool_int a b t
  | str b=>obtain⟨t,rfl⟩:=rx;exact SeqAt.EqAt.bool_str a b t
  | _=>exact absurd (show false=true from fx) Qn
 | int a =>
  obtain⟨t',rfl⟩:=ry
  cases x with
  | non=>cases rx;exact SeqAt.EqAt.int_none a t'
  | bl b=>cases rx;exact SeqAt.EqAt.int_bool a t' b
  | int b=>obtain⟨t,rfl⟩:=rx;exact SeqAt.EqAt.int_int a t' b t
  | str b=>obtain⟨t,rfl⟩:=rx;exact SeqAt.EqAt.int_str a t' b t
  | _=>exact absurd (show false=true from fx) Qn
 | str a =>
  obtain⟨t',rfl⟩:=ry
  cases x with
  | non=>cases rx;exact SeqAt.EqAt.str_none a t'
  | bl b=>cases rx;exact SeqAt.EqAt.str_bool a t' b
  | int b=>obtain⟨t,rfl⟩:=rx;exact SeqAt.EqAt.str_int a t' b t
  | str b=>obtain⟨t,rfl⟩:=rx;exact SeqAt.EqAt.str_str a t' b t
  | _=>exact absurd (show false=true from fx) Qn
 | _=>exact absurd (show false=true from fy) Qn
def eqU (x:V) (u:Value):Bool:=match u with
 | .none=>eqV .non x
 | .bool b=>eqV (.bl b) x
 | .int i _=>eqV (.int i) x
 | .str z _=>eqV (.str z) x
 | _=>false
theorem v9 {x y:V} (r:aS y u) (f:dw y=true):eqU x u=eqV y x:=by
 cases y with
 | non=>cases r;rfl
 | bl b=>cases r;rfl
 | int i=>obtain⟨t,rfl⟩:=r;rfl
 | str z=>obtain⟨t,rfl⟩:=r;rfl
 | _=>exact absurd (show false=true from f) Qn
theorem nU {x:V}:∀{xs:List V} {us:List Value},aY xs us->xs.all dw=true->us.any (eqU x)=xs.any λy=>eqV y x
 | _,_,.nil,_=>rfl
 | y::xs,u::us,.cons r t,f=>by
  rw[List.all_cons,Xl]at f;rw[List.any_cons,List.any_cons,v9 r f.1,nU t f.2]
theorem jW {A:Around} {s:Shared} {x:V} {v:Value} (rx:aS x v) (fx:dw x=true):∀{xs:List V} {us:List Value},aY xs us->xs.all dw=true->∀u∈us,SeqAt.EqAt A s u v (eqU x u)
 | _,_,.nil,_=>λu hu=>by cases hu
 | y::xs,u::us,.cons r t,f=>λu' hu=>by
  rw[List.all_cons,Xl]at f;rcases QV.mp hu with rfl|hu
  ·rw[v9 r f.1];exact v_ r rx f.1 fx
  exact jW rx fx t f.2 u' hu
def inV (x:V) (xs:List V):Bool:=xs.any λy=>eqV y x
def rIn (K:PySem.W.Frag) (neg:Bool):R2:=λx y H Q=>∃p xs,y=.ref p/\(SqL K H p xs\/SqT K H p xs)/\dw x=true/\xs.all dw=true/\Q (.bl (if neg then !inV x xs else inV x xs)) H
theorem tf:OpR X (compareOp .In) (rIn X.K false):=by
 intro pins s σ H x y v u Q I rx ry h;obtain⟨p,xs,rfl,hq,fx,fs,q⟩:=h;cases ry;rcases hq with hq|hq
 ·obtain⟨its,r,pl,hz⟩:=I.list hq;refine SeqAt.in_listAt (eqU x) pl.isList (λw hw=>jW rx fx r fs w (by simpa using hw)) ⟨.bl _,H,I,rfl,?_⟩;rw[show its.toArray.any (eqU x)=its.any (eqU x) by simp,nU r fs];exact q
 obtain⟨its,r,pl,hz⟩:=I.tuple hq;refine SeqAt.in_tupleAt (eqU x) pl (λw hw=>jW rx fx r fs w (by simpa using hw)) ⟨.bl _,H,I,rfl,?_⟩;rw[show its.toArray.any (eqU x)=its.any (eqU x) by simp,nU r fs];exact q
theorem aJ:eB X (.builtin "len") (λxs H Q=>∃p ys,xs=[.ref p]/\(SqL X.K H p ys\/SqT X.K H p ys)/\Q (.int ys.length) H):=by
 intro pins s σ H xs us Q I r h;obtain⟨p,ys,rfl,hq,q⟩:=h;obtain⟨u,rfl,rx⟩:=eE r;cases rx;have hn:=iA;rcases hq with hq|hq
 ·obtain⟨its,r',pl,hz⟩:=I.list hq;have hlen:=r'.length;exact Calls.call_len_list pl.isList (by simp only[Ql] <;> omega) ⟨.int ys.length,H,I.tok _,⟨s.toks+1,by rw[Ql,hlen]⟩,q⟩
 obtain⟨its,r',pl,hz⟩:=I.tuple hq;have hlen:=r'.length;exact len_tuple pl (by simp only[Ql] <;> omega) ⟨.int ys.length,H,I.tok _,⟨s.toks+1,by rw[Ql,hlen]⟩,q⟩
theorem dW:eB X (.builtin "len") (λxs H Q=>∃z,xs=[.str z]/\z.length<=sizeLine/\Q (.int z.length) H):=by
 intro pins s σ H xs us Q I r h;obtain⟨z,rfl,hz,q⟩:=h;obtain⟨u,rfl,t,rfl⟩:=eE r;have hn:=iA;exact len_str (by omega) ⟨.int z.length,H,I.tok _,⟨_,rfl⟩,q⟩
theorem dU:eB X (.type "list") (λxs H Q=>∃p ys,xs=[.ref p]/\(SqL X.K H p ys\/SqT X.K H p ys)/\∀l,H l=none->Q (.ref l) (upd H l (.lst ys))):=by
 intro pins s σ H xs us Q I r h;obtain⟨p,ys,rfl,hq,q⟩:=h;obtain⟨u,rfl,rx⟩:=eE r;cases rx
 have fin:∀(its:List Value),aY ys its->ys.length<=sizeLine->∀(h':Heap) (c':Nat),(∀b o',s.heap.get? b=some o'->h'.get? b=some o') ->
   h'.get? s.heap.objs.size=some { cls:=.type "list", dict:=none,data:=.seq its.toArray c',slots:=#[] }->EP X pins σ Q (.ref s.heap.objs.size) { s with heap:=h' }:=λits r' hz h' c' kp e =>
  ⟨.ref s.heap.objs.size,_,I.laid (t':=s.toks) kp (Qg _) (show bt X.prog X.w _ h' _ (.lst ys) from⟨hz,its,c',r',e⟩),rfl,q _ (I.hok.fresh (Qg _))⟩
 rcases hq with hq|hq
 ·obtain⟨its,r',pl,hz⟩:=I.list hq;have hlen:=r'.length;obtain⟨o,ho,hc,n,hd⟩:=pl.isList;exact call_list_seq p (.inl rfl) ho hc hd (λh' c' kp e=>fin its r' hz h' c' kp e) (by simp only[Ql] <;> omega)
 obtain⟨its,r',pl,hz⟩:=I.tuple hq;have hlen:=r'.length;obtain⟨o,ho,hc,n,hd⟩:=pl;exact call_list_seq p (.inr rfl) ho hc hd (λh' c' kp e=>fin its r' hz h' c' kp e) (by simp only[Ql] <;> omega)
def tyV (K:PySem.W.Frag) (T:String) (x:V) (H:Hp):Prop:=match x with
 | .str _=>T = "str"
 | .int _=>T = "int"
 | .ref p=>(T = "list" /\ ∃xs,SqL K H p xs)\/(T = "tuple" /\ ∃o,K.lookup p=some o/\o.cls=.type "tuple" /\ o.dict=none) \/
   (T = "dict" /\ ((∃kvs,H p=some (.dK kvs))\/∃kvs,H p=some (.dT kvs)))\/(T = "set" /\ ∃S n,H p=some (.set S n))
 | _=>False
theorem uq {σ:St} {H:Hp} {T:String} {x:V} (I:Inv X pins σ H s) (r:aS x v) (ty:tyV X.K T x H) :
  s.TypeIs v T/\∀a,v=.ref a->∃ob,s.heap.get? a=some ob/\ob.dict=none:=by
 cases x with
 | str z =>
  obtain⟨t,rfl⟩:=r;cases (show T = "str" from ty);exact⟨typeIs_str s z t,λ_ e=>nomatch e⟩
 | int i =>
  obtain⟨t,rfl⟩:=r;cases (show T = "int" from ty);exact⟨typeIs_int s i t,λ_ e=>nomatch e⟩
 | ref p =>
  cases r;rcases ty with⟨rfl,xs,hq⟩|⟨rfl,o,hk,hc,hd⟩|⟨rfl,hk⟩|⟨rfl,S,n,hk⟩
  ·obtain⟨its,_,pl,_⟩:=I.list hq;refine⟨pl.isList.typeIs,λa e=>?_⟩;cases e;obtain⟨o,n,e,c,hd,_⟩:=pl;exact⟨o,e,hd⟩
  ·refine⟨⟨o,I.kIn p o hk,hc⟩,λa e=>?_⟩;cases e;exact⟨o,I.kIn _ o hk,hd⟩
  ·have z:∃o,s.heap.get? p=some o/\o.ExactDict:=by
    rcases hk with⟨kvs,hk⟩|⟨kvs,hk⟩
    ·obtain⟨_,_,_,_,o,_,_,e,ex,_⟩:=I.hok p _ hk;exact⟨o,e,ex⟩
    obtain⟨_,_,_,_,o,_,_,e,ex,_⟩:=I.hok p _ hk;exact⟨o,e,ex⟩
   obtain⟨o,e,ex⟩:=z;refine⟨⟨o,e,ex.1⟩,λa e2=>?_⟩;cases e2;exact⟨o,e,ex.2.1⟩
  obtain⟨o,_,_,_,e,ex,_⟩:=I.hok p _ hk;refine⟨⟨o,e,ex.1⟩,λa e2=>?_⟩;cases e2;exact⟨o,e,ex.2.1⟩
 | _=>exact False.elim ty
def Ax (K:PySem.W.Frag) (T:String) (r:V->List V->Hp->VK->Prop) (to:TE):TE:=λσ H Q=>to σ H λx H1=>tyV K T x H1/\r x [] H1 Q
def tBM (K:PySem.W.Frag) (T:String) (r:V->List V->Hp->VK->Prop) (to:TE) (t:TA):TE:=λσ H Q=>to σ H λx H1=>tyV K T x H1/\t σ H1 λxs H2=>r x xs H2 Q
variable {o e:Expr} {es:List Expr} {to:TE} {t:TA} {name:Str} {apos cpos:Pos} {T id:String} {r:V->List V->Hp->VK->Prop}
theorem uX (pa:PlainAttrs T) (slot:Slot T name id) (hty:typeOf (.builtin id)=pure (.type "method_descriptor")) (hm:MtR X id r) (ho:PE X o to)
  (hbase:attributeBase o name X.env (eval o X.env)=eval o X.env:=by rfl) (hline:(apos.endLine==cpos.line)=true:=by rfl):PE X (.Call (.Attribute o name apos) [] [] cpos) (Ax X.K T r to):=by
 intro pins s σ H Q I h;refine wpAny_Call_method0_late hbase hline (thn (ho pins s σ H _ I h) λv s1 ⟨x,H1,I1,r1,ty,q1⟩=>?_);obtain⟨h1,h2⟩:=uq I1 r1 ty;exact⟨T,id,pa,slot,hty,h1,h2,Calls.callWith_builtin rfl (PySem.evalArgs_none (hm pins s1 σ H1 x [] v [] Q I1 r1 .nil q1))⟩
theorem dI (pa:PlainAttrs T) (slot:Slot T name id) (hty:typeOf (.builtin id)=pure (.type "method_descriptor")) (hm:MtR X id r) (ho:PE X o to) (ha:PA X (e::es) t)
  (hbase:attributeBase o name X.env (eval o X.env)=eval o X.env:=by rfl)
  (hfew:((backTo cpos (starEach (e::es) X.env)).all (fun x=>!x.1)&&(backToKw cpos (keywordEach [] X.env)).all (fun x=>x.1.isSome)
   && decide ((e::es).length+([]:List Keyword).length+(if ([]:List Keyword).isEmpty then 0 else 1)<30))=true:=by rfl)
  (hline:(apos.endLine==cpos.line)=true:=by rfl) (hs:starEach (e::es) X.env=(false,eval e X.env)::starEach es X.env:=by rfl) (hplain:(backTo cpos (starEach es X.env)).any (·.1)=false:=by rfl) :
  PE X (.Call (.Attribute o name apos) (e::es) [] cpos) (tBM X.K T r to t):=by
 intro pins s σ H Q I h;refine wpAny_Call_method_late hbase hfew hline rfl (thn (ho pins s σ H _ I h) λv s1 ⟨x,H1,I1,r1,ty,q1⟩=>?_);obtain⟨h1,h2⟩:=uq I1 r1 ty;refine⟨T,id,pa,slot,hty,h1,h2,?_⟩;have hA:=ha cpos pins s1 σ H1 _ I1 q1;rw[hs]at hA ⊢;refine Calls.callWith_builtin (by show (false || (backTo cpos (starEach es X.env)).any (·.1))=false;rw[hplain] <;> rfl) (Calls.evalArgs_plain ?_);exact thn hA λus s2 ⟨vs,H2,I2,r2,q2⟩=>hm pins s2 σ H2 x vs v us Q I2 r1 r2 q2
end
def MtM (X:Cx) (id:String) (r:V->List V->Hp->VK->Prop):Prop :=
 ∀(pins:List (Addr × Obj)) (s:Shared) (σ:St) (H:Hp) (x:V) (xs:List V) (v:Value) (us:List Value) (Q:VK),Inv X pins σ H s->aS x v->aY xs us->r x xs H Q ->
  wpAny (model X.prog X.w) X.A (call (.builtin id) (v::us)) (EP X pins σ Q) X.xe s
theorem aY.one:∀{x:V} {us:List Value},aY [x] us->∃u,us=[u]/\aS x u
 | _,_,.cons r .nil=>⟨_,rfl,r⟩
theorem aY.zero:∀{us:List Value},aY [] us->us=[]
 | _,.nil=>rfl
theorem aY.dropLast {xs:List V} {us:List Value} (h:aY xs us):aY xs.dropLast us.dropLast:=by
 induction h with
 | nil=>exact .nil
 | cons r t ih =>
 cases t with
 | nil=>exact .nil
 | cons q t'=>exact .cons r ih
theorem aY.reverse {xs:List V} {us:List Value} (h:aY xs us):aY xs.reverse us.reverse:=by
 induction h with
 | nil=>exact .nil
 | cons r t ih=>rw[List.reverse_cons,List.reverse_cons];exact aY.append ih (.cons r .nil)
theorem qR {α:Type} (l:List α):l.eraseIdx (l.length-1)=l.dropLast:=by
 induction l with
 | nil=>rfl
 | cons a r ih =>
 cases r with
 | nil=>rfl
 | cons b r =>
 have e:(a::b::r).length-1=((b::r).length-1)+1:=by
  have h1:(a::b::r).length=r.length+2:=rfl;have h2:(b::r).length=r.length+1:=rfl;omega
 rw[e,List.eraseIdx_cons_succ,ih]
 all_goals rfl
section
variable {X:Cx} {pins:List (Addr × Obj)} {σ:St} {H:Hp} {s:Shared} {l b:Addr} {xs ys zs:List V}
theorem Inv.lset {its its':List Value} {n:Nat} {f:Array Value->Array Value} {t':Nat} (I:Inv X pins σ H s) (hH:H l=some (.lst xs))
  (e:s.heap.get? l=some { cls:=.type "list", data:=.seq its.toArray n }) (hf:f its.toArray=its'.toArray) (hv:aY ys its') (hz:ys.length<=sizeLine) :
  Inv X pins σ (upd H l (.lst ys)) { s with heap:=s.heap.update l (Obj.mapSeq f),toks:=t' }:=by
 have q:=PySem.IsL.update e f;rw[hf]at q;refine I.write (x:=l) (e:=l) (by rw[hH];exact trivial) (.inl rfl) (λb' u hb hu=>(Xf s.heap (Obj.mapSeq f) (XF hb)).trans hu) ⟨_,q⟩ ?_;exact⟨hz,its',_,hv,q⟩
theorem Inv.lnew {its:List Value} {t':Nat} (I:Inv X pins σ H s) (hv:aY ys its) (hz:ys.length<=sizeLine) :
  Inv X pins σ (upd H s.heap.objs.size (.lst ys)) { s with heap:=s.heap.push { cls:=.type "list", data:=.seq its.toArray },toks:=t' } :=
 I.laid (λ_ _ q=>Qd _ q) (Qg _) ⟨hz,its,0,hv,Qp _ rfl⟩
theorem Inv.fresh (I:Inv X pins σ H s):H s.heap.objs.size=none:=I.hok.fresh (Qg _)
theorem Inv.lstM (I:Inv X pins σ H s) (hH:H l=some (.lst xs)):xs.length<=sizeLine/\∃(its:List Value) (n:Nat),aY xs its/\xs.length=its.length/\s.heap.get? l=some { cls:=.type "list", data:=.seq its.toArray n }:=by
 obtain⟨z,its,n,r,e⟩:=I.hok l _ hH;exact⟨z,its,n,r,r.length,e⟩
end
section
variable {X:Cx}
def mY:V->List V->Hp->VK->Prop:=λx vs H Q=>∃l xs y,x=.ref l/\vs=[y]/\H l=some (.lst xs)/\xs.length<sizeLine/\Q .non (upd H l (.lst (xs++[y])))
theorem bp:MtM X "list.append" mY:=by
 intro pins s σ H x vs v us Q I rx rv h;obtain⟨l,xs,y,rfl,rfl,hH,hz,q⟩:=h;cases rx;obtain⟨u,rfl,ru⟩:=rv.one;obtain⟨z,its,n,r,hl,e⟩:=I.lstM hH;refine call_meets F.slot_list_append ⟨_,e,rfl⟩ F.entry_list_append (F.args_list_append_2 _ _) (PySem.list_append l its.toArray n u (by rw[Ql];omega)) ⟨e,?_⟩;refine⟨.non,_,I.lset (its':=its++[u]) hH e (by simp) (r.append (.cons ru .nil)) ?_,rfl,q⟩;rw[Qj,List.length_singleton];omega
def DA:V->List V->Hp->VK->Prop:=λx vs H Q=>∃l xs y,x=.ref l/\vs=[]/\H l=some (.lst xs)/\xs[xs.length-1]?=some y/\Q y (upd H l (.lst xs.dropLast))
theorem zR:MtM X "list.pop" DA:=by
 intro pins s σ H x vs v us Q I rx rv h;obtain⟨l,xs,y,rfl,rfl,hH,hy,q⟩:=h;cases rx;have hus:=rv.zero;subst hus;obtain⟨z,its,n,r,hl,e⟩:=I.lstM hH;obtain⟨u,hu,ru⟩:=r.get hy
 have hy':its.toArray[its.toArray.size-1]?=some u:=by
  show its.toArray[its.length-1]?=some u;rw[<-Qy,<-hl];exact hu
 refine call_meets F.slot_list_pop ⟨_,e,rfl⟩ F.entry_list_pop (F.args_list_pop_1 _) (MeetsSeq.list_pop_last l its.toArray n u hy' (by rw[Ql];omega)) ⟨e,?_⟩;refine⟨y,_,I.lset (its':=its.dropLast) hH e ?_ r.dropLast ?_,ru,q⟩
 ·show its.toArray.eraseIdxIfInBounds (its.toArray.size-1)=its.dropLast.toArray;rw[Ql,List.eraseIdxIfInBounds_toArray,qR]
 rw[List.length_dropLast];omega
def uH:V->List V->Hp->VK->Prop:=λx vs H Q=>∃l xs,x=.ref l/\vs=[]/\H l=some (.lst xs)/\Q .non (upd H l (.lst xs.reverse))
theorem qD:MtM X "list.reverse" uH:=by
 intro pins s σ H x vs v us Q I rx rv h;obtain⟨l,xs,rfl,rfl,hH,q⟩:=h;cases rx;have hus:=rv.zero;subst hus;obtain⟨z,its,n,r,hl,e⟩:=I.lstM hH;refine call_meets F.slot_list_reverse ⟨_,e,rfl⟩ F.entry_list_reverse (F.args_list_reverse_1 _) (AutoSeq1.list_reverse_list_0 l its.toArray n (by rw[Ql];omega)) ⟨e,?_⟩;refine⟨.non,_,I.lset (its':=its.reverse) hH e (by simp) r.reverse ?_,rfl,q⟩;rw[List.length_reverse];omega
def zg:R2:=λx y H Q=>∃l b xs zs,x=.ref l/\y=.ref b/\H l=some (.lst xs)/\H b=some (.lst zs)/\xs.length+zs.length<=sizeLine/\∀p,H p=none->Q (.ref p) (upd H p (.lst (xs++zs)))
theorem jR:OpR X (binaryOp .Add) zg:=by
 intro pins s σ H x y v u Q I rx ry h;obtain⟨l,b,xs,zs,rfl,rfl,hH,hB,hz,q⟩:=h;cases rx;cases ry;obtain⟨z,its,n,r,hl,e⟩:=I.lstM hH;obtain⟨z2,its2,n2,r2,hl2,e2⟩:=I.lstM hB;refine PySem.P.add_list e e2 ?_ (by rw[Ql,Ql];omega);have ea:its.toArray++its2.toArray=(its++its2).toArray:=by simp
 rw[ea];exact⟨.ref _,_,I.lnew (t':=s.toks) (r.append r2) (by rw[Qj];omega),rfl,q _ I.fresh⟩
theorem xp {α:Type} (xs:List α) (k:Nat):(List.replicate k xs).flatten.length=k*xs.length:=by
 induction k with
 | zero=>simp
 | succ k ih=>rw[List.replicate_succ,List.flatten_cons,Qj,ih,Nat.succ_mul,Nat.add_comm]
end
section
variable {prog:Program} {w:World} {A:Around} {E:Value->Shared->Prop} {s:Shared}
end
section
variable {X:Cx}
end
section
variable {κ:Type} [DecidableEq κ]
def ba (kvs:List (κ × V)) (k:κ):Option V:=(kvs.find? λkv=>decide (kv.1=k)).map (·.2)
def cg (kvs:List (κ × V)) (k:κ) (v:V):List (κ × V) :=
 if (kvs.any λkv=>decide (kv.1=k))=true then kvs.map (λkv=>if kv.1=k then (kv.1,v) else kv) else kvs++[(k,v)]
variable {r kvs:List (κ × V)}
theorem bO {p:κ × V} {k:κ} (e:p.1=k):ba (p::r) k=some p.2:=by simp[ba,List.find?_cons,e]
theorem bP {p:κ × V} {k:κ} (e:¬p.1=k):ba (p::r) k=ba r k:=by simp[ba,List.find?_cons,e]
theorem cZ (k:κ):∀kvs:List (κ × V),(kvs.any λkv=>decide (kv.1=k))=(ba kvs k).isSome
 | []=>rfl
 | p::r=>by
  rw[List.any_cons];by_cases e:p.1=k
  ·simp only[bO e,Q7 e,Bool.true_or,Option.isSome_some]
  rw[bP e,QU e,Bool.false_or];exact cZ k r
theorem oi (k j:κ) (y:V):∀kvs:List (κ × V),ba (kvs.map λkv=>if kv.1=k then (kv.1,y) else kv) j=(ba kvs j).map λx=>if j=k then y else x
 | []=>rfl
 | p::r=>by
  have ih:=oi k j y r;rw[QI];by_cases h:p.1=k
  ·rw[QF h];by_cases e:p.1=j
   ·rw[bO (p:=(p.1,y)) e,bO e,Option.map_some,QF (e.symm.trans h)]
   rw[bP (p:=(p.1,y)) e,bP e,ih]
  rw[QB h];by_cases e:p.1=j
  ·rw[bO (p:=p) e,bO e,Option.map_some,QB (λz=>h (e.trans z))]
  rw[bP (p:=p) e,bP e,ih]
theorem lE (k j:κ) (y:V):∀kvs:List (κ × V),ba kvs k=none->ba (kvs++[(k,y)]) j=if j=k then some y else ba kvs j
 | [],_=>by
  by_cases e:k=j
  ·rw[QF e.symm];exact bO (p:=(k,y)) e
  rw[QB (λz=>e z.symm)];exact bP (p:=(k,y)) e
 | p::r,hn=>by
  rw[List.cons_append];have hk:¬p.1=k:=λz=>by rw[bO z]at hn;cases hn
  rw[bP hk]at hn;have ih:=lE k j y r hn;by_cases e:p.1=j
  ·rw[bO e,bO e,QB (λz=>hk (e.trans z))]
  rw[bP e,bP e,ih]
theorem oh (kvs:List (κ × V)) (k j:κ) (y:V):ba (cg kvs k y) j=if j=k then some y else ba kvs j:=by
 unfold cg;by_cases a:(kvs.any λkv=>decide (kv.1=k))=true
 ·rw[QF a,oi];rw[cZ]at a;by_cases e:j=k
  ·obtain⟨x,hx⟩:=Option.isSome_iff_exists.mp a;rw[QF e,e,hx,Option.map_some,QF rfl]
  rw[QB e]
  cases ba kvs j with
  | none=>rfl
  | some x=>rw[Option.map_some,QB e]
 rw[QB a];refine lE k j y kvs ?_;rw[cZ]at a
 cases q:ba kvs k with
 | none=>rfl
 | some x=>rw[q]at a;exact(a rfl).elim
theorem eK (kvs:List (κ × V)) (k:κ) (v:V):(cg kvs k v).length<=kvs.length+1:=by
 unfold cg
 split
 ·rw[Qa];omega
 rw[Qj,QQ,List.length_nil];omega
theorem d_ {k:κ} (v:V) (h:ba kvs k=none):cg kvs k v=kvs++[(k,v)]:=by
 unfold cg;rw[cZ,h];exact QB (by decide)
theorem kQ.isSome_eq {o:Option V} {u:Option Value} (r:kQ o u):o.isSome=u.isSome:=by
 cases o with
 | none=>cases u with
  | none=>rfl
  | some _=>exact(show False from r).elim
 | some _=>cases u with
  | none=>exact(show False from r).elim
  | some _=>rfl
variable {vs:List (κ × Value)}
theorem KV.val (r:KV kvs vs) (k:κ):kQ (ba kvs k) (valueAt vs k):=by
 unfold KV at r
 induction r with
 | nil=>exact True.intro
 | @cons p q ps qs h t ih =>
 obtain⟨h1,h2⟩:=h;by_cases e:p.1=k
 ·have e':q.1=k:=h1.symm.trans e;have b:valueAt (q::qs) k=some q.2:=by simp[valueAt,List.find?_cons,e']
  rw[bO e,b];exact h2
 have e':¬q.1=k:=λz=>e (h1.trans z);have b:valueAt (q::qs) k=valueAt qs k:=by simp[valueAt,List.find?_cons,e']
 rw[bP e,b];exact ih
theorem KV.any (r:KV kvs vs) (k:κ):(kvs.any λkv=>decide (kv.1=k))=vs.any λkv=>decide (kv.1=k):=by
 unfold KV at r
 induction r with
 | nil=>rfl
 | cons h t ih=>rw[List.any_cons,List.any_cons,ih,h.1]
theorem KV.repl (r:KV kvs vs) (k:κ) {y:V} {u:Value} (ry:aS y u) :
  KV (kvs.map λkv=>if kv.1=k then (kv.1,y) else kv) (vs.map λkv=>if kv.1=k then (kv.1,u) else kv):=by
 unfold KV at r ⊢
 induction r with
 | nil=>exact .nil
 | @cons p q ps qs h t ih =>
 rw[QI,QI];refine .cons ?_ ih;obtain⟨h1,h2⟩:=h;by_cases e:p.1=k
 ·rw[QF e,QF (h1.symm.trans e)];exact⟨h1,ry⟩
 rw[QB e,QB (λz=>e (h1.trans z))];exact⟨h1,h2⟩
theorem KV.put (r:KV kvs vs) (k:κ) {y:V} {u:Value} (ry:aS y u):KV (cg kvs k y) (stored vs k u):=by
 unfold cg stored;rw[r.any k];by_cases e:(vs.any λkv=>decide (kv.1=k))=true
 ·rw[QF e,QF e];exact r.repl k ry
 rw[QB e,QB e];exact Paired.snoc r ⟨rfl,ry⟩
theorem KV.length (r:KV kvs vs):kvs.length=vs.length:=Paired.length r
end
variable {u:Value} {w:World} {P prog:Program}
theorem lO {k:Key} (r:aS (kV k) u):(bn P w).is k u=true:=by
 cases k with
 | inl i=>obtain⟨t,e⟩:=(show ∃t,u=Value.int i t from r);subst e;exact o_ P w i t
 | inr x=>obtain⟨t,e⟩:=(show ∃t,u=Value.str x t from r);subst e;exact fM P w x t
theorem lP {P:Program} {w:World}:∀{ks:List Key} {us:List Value},aY (ks.map kV) us->ItemsAre (bn P w) ks us
 | [],_,r=>by rw[List.map_nil]at r;cases r;exact .nil
 | k::ks,_,r=>by
  rw[QI]at r
  cases r with
  | cons h t=>exact .cons (lO h) (lP t)
abbrev KT (H:Hp):List (List Key × V)->List (List Key × Addr × Value)->Prop:=Paired λp q=>p.1=q.1/\H q.2.1=some (.tup (p.1.map kV))/\aS p.2 q.2.2
variable {xs:List (List Key × Addr × Value)} {kvs:List (List Key × V)} {H H':Hp}
theorem KT.val (r:KT H kvs xs) (k:List Key):kQ (ba kvs k) ((atKey xs k).map (·.2)):=by
 induction r with
 | nil=>exact True.intro
 | @cons p q ps qs h t ih =>
 obtain⟨h1,_,h2⟩:=h;by_cases e:p.1=k
 ·have e':q.1=k:=h1.symm.trans e;have b:atKey (q::qs) k=some q.2:=by simp[atKey,List.find?_cons,e']
  rw[bO e,b];exact h2
 have e':¬q.1=k:=λz=>e (h1.trans z);have b:atKey (q::qs) k=atKey qs k:=by simp[atKey,List.find?_cons,e']
 rw[bP e,b];exact ih
theorem KT.repl (r:KT H kvs xs) (k:List Key) {y:V} (ry:aS y u) :
  KT H (kvs.map λkv=>if kv.1=k then (kv.1,y) else kv) (xs.map (putAt k u)):=by
 induction r with
 | nil=>exact .nil
 | @cons p q ps qs h t ih =>
 rw[QI,QI];refine .cons ?_ ih;obtain⟨h1,h2,h3⟩:=h;unfold putAt;by_cases e:p.1=k
 ·rw[QF e,QF (h1.symm.trans e)];exact⟨h1,h2,ry⟩
 rw[QB e,QB (λz=>e (h1.trans z))];exact⟨h1,h2,h3⟩
theorem KT.put (r:KT H kvs xs) (k:List Key) {b:Addr} {y:V} (hb:H b=some (.tup (k.map kV))) (ry:aS y u) :
  KT H (cg kvs k y) (storedH xs k b u):=by
 have e:(kvs.any λkv=>decide (kv.1=k))=(atKey xs k).isSome:=by
  rw[cZ,(r.val k).isSome_eq,Option.isSome_map]
 unfold cg storedH;rw[e];by_cases q:(atKey xs k).isSome=true
 ·rw[QF q,QF q];exact r.repl k ry
 rw[QB q,QB q];exact Paired.snoc r ⟨rfl,hb,ry⟩
theorem KT.keeps (r:KT H kvs xs) (ht:∀b ys,H b=some (.tup ys)->H' b=some (.tup ys)):KT H' kvs xs :=
 Paired.mapP r λ_ _ z=>⟨z.1,ht _ _ z.2.1,z.2.2⟩
section
variable {P:Program} {w:World} {H:Hp} {h:Heap} {a:Addr}
theorem x_ {u:HO} (ok:HOk P w H h) (e:Rd H a u):bt P w H h a u:=e.ok ok
theorem iQ {kvs:List (Key × V)} (ok:HOk P w H h) (e:Rd H a (.dK kvs)):kvs.length<=sizeLine/\(a==sysModules)=false/\∃vs,KV kvs vs/\h.DictOf (bn P w) a vs :=
 show bt P w H h a (.dK kvs) from x_ ok e
theorem se {kvs:List (Key × V)} (ok:HOk P w H h) (e:H a=some (.dK kvs)):kvs.length<=sizeLine/\(a==sysModules)=false/\∃vs,KV kvs vs/\h.DictOf (bn P w) a vs:=iQ ok (.inl e)
theorem kb {ks:List Key} (ok:HOk P w H h) (e:H a=some (.tup (ks.map kV))):(tupleKind (bn P w)).is h ks a:=by
 obtain⟨_,its,r,o,h1,h2,n,h3⟩:=(show bt P w H h a (.tup (ks.map kV)) from ok a _ e);exact⟨o,its.toArray,n,h1,h2,h3,by simpa using lP r⟩
variable {kvs:List (List Key × V)}
theorem pF (ok:HOk P w H h) (e:Rd H a (.dT kvs)):kvs.length<=sizeLine/\(a==sysModules)=false /\
  ∃xs,KT H kvs xs/\h.DictOfH (tupleKind (bn P w)) a xs:=by
 obtain⟨z,y,xs,r,o,es,ep,h1,h2,h3,h4,h5⟩:=(show bt P w H h a (.dT kvs) from x_ ok e);refine⟨z,y,xs,r,o,es,ep,h1,h2,h3,h4,λx hx=>?_,h5⟩
 have all:∀{l:List (List Key × V)} {m:List (List Key × Addr × Value)},KT H l m->∀x∈m,(tupleKind (bn P w)).is h x.1 x.2.1:=by
  intro l m q
  induction q with
  | nil=>intro x hx;exact nomatch hx
  | @cons p q ps qs hq t ih =>
  intro x hx;rcases QV.mp hx with e|hx
  ·subst e;exact kb ok (by rw[<-hq.1];exact hq.2.1)
  exact ih x hx
 exact all r x hx
theorem Dm (ok:HOk P w H h) (e:H a=some (.dT kvs)):kvs.length<=sizeLine/\(a==sysModules)=false /\
  ∃xs,KT H kvs xs/\h.DictOfH (tupleKind (bn P w)) a xs:=pF ok (.inl e)
end
def cL (H:Hp) (a:Addr) (y:V) (r:Option V):Prop :=
 (∃kvs k,Rd H a (.dK kvs)/\y=kV k/\r=ba kvs k)\/∃kvs k b,Rd H a (.dT kvs)/\y=.ref b/\H b=some (.tup (k.map kV))/\r=ba kvs k
def hX (H:Hp) (a:Addr) (y v:V) (H':Hp):Prop :=
 (∃kvs k,H a=some (.dK kvs)/\y=kV k/\kvs.length<sizeLine/\H'=upd H a (.dK (cg kvs k v))) \/
 ∃kvs k b,H a=some (.dT kvs)/\y=.ref b/\H b=some (.tup (k.map kV))/\kvs.length<sizeLine/\H'=upd H a (.dT (cg kvs k v))
theorem cL.k {H:Hp} {a:Addr} {kvs:List (Key × V)} {k:Key} (e:H a=some (.dK kvs)):cL H a (kV k) (ba kvs k):=.inl ⟨kvs,k,.inl e,rfl,rfl⟩
theorem hX.k {H:Hp} {a:Addr} {kvs:List (Key × V)} {k:Key} {v:V} (e:H a=some (.dK kvs)) (hl:kvs.length<sizeLine):hX H a (kV k) v (upd H a (.dK (cg kvs k v))):=.inl ⟨kvs,k,e,rfl,hl,rfl⟩
section
variable {X:Cx} {pins:List (Addr × Obj)} {σ:St} {H:Hp} {s:Shared} {a:Addr} {y v:V} {u r:Value} {o:Option V} {A:Around} {E:Value->Shared->Prop}
theorem Inv.big (I:Inv X pins σ H s):sysModules<s.heap.objs.size:=by
 have h:mainGlobals<s.heap.objs.size:=(I.mod.glob.keeps I.bk).lt;exact Nat.lt_trans (by decide) h
variable {Q:Value->Shared->Prop}
theorem lY (hu:A.units+1<cLine) (I:Inv X pins σ H s) (g:cL H a y (some v)) (ry:aS y u) (h:∀w' s',Inv X pins σ H s'->aS v w'->Q w' s') :
  wpAny (model X.prog X.w) A (getItem (.ref a) u) Q E s:=by
 rcases g with⟨kvs,k,e,ey,l⟩|⟨kvs,k,b,e,ey,eb,l⟩
 ·subst ey;obtain⟨z,hd,vs,rel,dd⟩:=iQ I.hok e;obtain⟨w',hw,rw'⟩:=kQ.some_of (v:=v) (o:=valueAt vs k) (by rw[l];exact rel.val k);exact wpAny_getItem_of (lO ry) dd.mapOf hw (h w' _ (I.tok _) rw')
 subst ey;cases (show u=Value.ref b from ry);obtain⟨z,hd,xs,rel,dd⟩:=pF I.hok e;obtain⟨w',hw,rw'⟩:=kQ.some_of (v:=v) (o:=(atKey xs k).map (·.2)) (by rw[l];exact rel.val k);obtain⟨p,hp,hp2⟩:=Option.map_eq_some_iff.mp hw;refine wpAny_getItem_heap (tupleKind_room_in1 hu) (kb I.hok eb) dd hp ?_;rw[hp2];exact h w' _ (I.tok _) rw'
theorem Es (hu:A.units+1<cLine) (I:Inv X pins σ H s) (g:cL H a y o) (ry:aS y u) (h:∀s',Inv X pins σ H s'->Q (.bool o.isSome) s') :
  wpAny (model X.prog X.w) A (compareOp .In u (.ref a)) Q E s:=by
 rcases g with⟨kvs,k,e,ey,l⟩|⟨kvs,k,b,e,ey,eb,l⟩
 ·subst ey;obtain⟨z,hd,vs,rel,dd⟩:=iQ I.hok e;refine wpAny_in_of (lO ry) hd dd.mapOf ?_;rw[<-(rel.val k).isSome_eq,<-l];exact h _ (I.tok _)
 subst ey;cases (show u=Value.ref b from ry);obtain⟨z,hd,xs,rel,dd⟩:=pF I.hok e;refine wpAny_in_heap (tupleKind_room_in1 hu) (kb I.hok eb) hd dd ?_;have q:=(rel.val k).isSome_eq;rw[Option.isSome_map]at q;rw[<-q,<-l];exact h _ (I.tok _)
theorem xC (hu:A.units+1<cLine) (I:Inv X pins σ H s) (g:cL H a y o) (ry:aS y u) (h:∀s',Inv X pins σ H s'->Q (.bool (!o.isSome)) s') :
  wpAny (model X.prog X.w) A (compareOp .NotIn u (.ref a)) Q E s:=by
 rcases g with⟨kvs,k,e,ey,l⟩|⟨kvs,k,b,e,ey,eb,l⟩
 ·subst ey;obtain⟨z,hd,vs,rel,dd⟩:=iQ I.hok e;refine wpAny_notIn_of (lO ry) hd dd.mapOf ?_;rw[<-(rel.val k).isSome_eq,<-l];exact h _ (I.tok _)
 subst ey;cases (show u=Value.ref b from ry);obtain⟨z,hd,xs,rel,dd⟩:=pF I.hok e;refine wpAny_notIn_heap (tupleKind_room_in1 hu) (kb I.hok eb) hd dd ?_;have q:=(rel.val k).isSome_eq;rw[Option.isSome_map]at q;rw[<-q,<-l];exact h _ (I.tok _)
theorem nC {h':Heap} {t':Nat} {ob:HO} (I:Inv X pins σ H s) (mu:Mut (H a)) (hs:Heap.SameBut a s.heap h') (he:∃q,h'.get? a=some q) (new:bt X.prog X.w (upd H a ob) h' a ob) :
  Inv X pins σ (upd H a ob) { s with heap:=h',toks:=t' } :=
 I.write (x:=a) (e:=a) mu (.inl rfl) (λb q hb z=>(hs.2 b hb).trans z) he new
theorem wa {P:Program} {w:World} {H':Hp} {h':Heap} {kvs:List (Key × V)} {vs:List (Key × Value)} (z:kvs.length<=sizeLine) (hd:(a==sysModules)=false) (rel:KV kvs vs) (dd:h'.DictOf (bn P w) a vs) :
  bt P w H' h' a (.dK kvs):=⟨z,hd,vs,rel,dd⟩
theorem lX {H':Hp} {Q:Unit->Shared->Prop} (hu:A.units+1<cLine) (I:Inv X pins σ H s) (g:hX H a y v H') (ry:aS y u) (rv:aS v r) (h:∀s',Inv X pins σ H' s'->Q () s') :
  wpAny (model X.prog X.w) A (setItem (.ref a) u r) Q E s:=by
 rcases g with⟨kvs,k,e,ey,l,eH⟩|⟨kvs,k,b,e,ey,eb,l,eH⟩
 ·subst ey eH;obtain⟨z,hd,vs,rel,dd⟩:=se I.hok e;have hz:vs.length<=sizeLine:=by rw[<-rel.length];exact z
  have hl:(cg kvs k v).length<=sizeLine:=by have:=eK kvs k v;omega
  refine wpAny_setItem_pairs (hsz:=hz) (lO ry) dd λh' dd' hs=>h _ ?_;have he:∃q,h'.get? a=some q:=let ⟨q,_,_,hq,_⟩:=dd';⟨q,hq⟩;exact nC I (by rw[e];exact True.intro) hs he (wa hl hd (rel.put k rv) dd')
 subst ey eH;cases (show u=Value.ref b from ry);obtain⟨z,hd,xs,rel,dd⟩:=Dm I.hok e;have hz:xs.length<=sizeLine:=by rw[<-Paired.length rel];exact z
 have hl:(cg kvs k v).length<=sizeLine:=by have:=eK kvs k v;omega
 refine wpAny_setItem_heap (hsz:=hz) (tupleKind_room_in1 hu) (kb I.hok eb) dd λh' dd' hs=>h _ ?_;obtain⟨q,es,ep,hq,h2,h3,h4,_,h5⟩:=dd';refine nC I (by rw[e];exact True.intro) hs ⟨q,hq⟩ ⟨hl,hd,_,(rel.put k eb rv).keeps λc ys ec=>?_,q,es,ep,hq,h2,h3,h4,h5⟩;rw[ak (C_ ec e (λz=>nomatch z))];exact ec
end
section
variable {X:Cx} {pins:List (Addr × Obj)} {σ:St} {H:Hp} {s:Shared} {a:Addr} {kvs:List (Key × V)} {k:Key} {u:Value} {A:Around} {E:Value->Shared->Prop}
theorem Dn {Q:Value->Shared->Prop} (I:Inv X pins σ H s) (e:Rd H a (.dK kvs)) (h:∀t s',Inv X pins σ H s'->Q (.int kvs.length t) s'):wpAny (model X.prog X.w) A (call (.builtin "len") [.ref a]) Q E s:=by
 obtain⟨z,hd,vs,rel,dd⟩:=iQ I.hok e;refine call_len_dict hd dd (by rw[<-rel.length];rw[XG]at z;omega) ?_;rw[<-rel.length];exact h _ _ (I.tok _)
end
def Dt (i:Expr):Prop:=∀ov iv,subscripted i false ov iv=operate [ov,iv] (getItem ov iv)
variable {Q E:Value->Shared->Prop} {pos:Pos}
theorem wK {A:Around} {s:Shared} {env:Env} {value slice:Expr} {T id:String}
  (hl:typeLookup (.type T) "__getitem__" = pure (some (.builtin id))) (hs:Dt slice)
  (h:wpAny (model prog w) A (eval value env) (λo s₁=>wpAny (model prog w) A (eval slice env) (λi s₂=>s₂.TypeIs o T/\wpAny (model prog w) A (getItem o i) Q E s₂) E s₁) E s) :
  wpAny (model prog w) A (eval (.Subscript value slice pos) env) Q E s:=by
 refine Subscript_ (Xm h (λo s₁ h₁=>Xm h₁ (λi s₂ h₂=>?_) λ_ _ x=>x) λ_ _ x=>x);obtain⟨hT,h₂⟩:=h₂;unfold subscriptTail;refine Qb ?_;rw[getitemInPython_of_ne hT.not_modules];refine Qb (wpAny_specialOf hT hl ?_)
 have fin:wpAny (model prog w) A (subscripted slice false o i) (λr s₃=>wpAny (model prog w) A (letTemporaryGo value o r >>= λ_=>pure r) Q E s₃) E s₂:=by
  rw[hs o i];exact wpAny_operating (Xm h₂ (λr s₃ h₃=>Qb (wpAny_letTemporaryGo (Qf h₃))) λ_ _ x=>x)
 first
  | exact Qf (Qb fin)
  | exact Qb (Qf (Qb fin))
  | exact Qb fin
variable {X:Cx}
theorem pH {pins:List (Addr × Obj)} {σ:St} {s:Shared} {a:Addr} {y:V} {o:Option V} (I:Inv X pins σ H s) (g:cL H a y o):s.TypeIs (.ref a) "dict" := by
 rcases g with⟨kvs,k,e,_,_⟩|⟨kvs,k,b,e,_,_,_⟩
 ·obtain⟨_,_,vs,_,dd⟩:=iQ I.hok e;exact dd.typeIs
 obtain⟨_,_,xs,_,dd⟩:=pF I.hok e;exact dd.typeIs
def xU (td ty:TE):TE:=λσ H Q=>td σ H λx H1=>ty σ H1 λy H2=>∃a v,x=.ref a/\cL H2 a y (some v)/\Q v H2
def Aw (ty td:TE):TE:=λσ H Q=>ty σ H λy H1=>td σ H1 λx H2=>∃a o,x=.ref a/\cL H2 a y o/\Q (.bl o.isSome) H2
def rp (ty td:TE):TE:=λσ H Q=>ty σ H λy H1=>td σ H1 λx H2=>∃a o,x=.ref a/\cL H2 a y o/\Q (.bl (!o.isSome)) H2
def xY (td ty tv:TE):TS:=λD σ H=>tv σ H λv H1=>td σ H1 λx H2=>ty σ H2 λy H3=>∃a H4,x=.ref a/\hX H3 a y v H4/\D.nx σ H4
def xZ (td ty tv:TE) (rd:V->V->Hp->VK->Prop):TS:=λD σ H=>td σ H λx H1=>ty σ H1 λy H2=>∃a v,x=.ref a/\cL H2 a y (some v) /\
 tv σ H2 λy2 H3=>rd v y2 H3 λz H4=>∃H5,hX H4 a y z H5/\D.nx σ H5
section
variable {X:Cx} {o i e value:Expr} {pos pos' tpos:Pos} {td ty tv:TE}
theorem bC (hu:X.A.units+1<cLine) (ho:PE X o td) (hi:PE X i ty) (hs:Dt i):PE X (.Subscript o i pos) (xU td ty):=by
 intro pins s σ H Q I h;refine wK PySem.F.slot_dict_getitem.lookup hs (thn (ho pins s σ H _ I h) λu s1 ⟨x,H1,I1,rx,q1⟩=>thn (hi pins s1 σ H1 _ I1 q1) λiv s2 ⟨y,H2,I2,ry,a,v,ex,g,q2⟩=>?_);subst ex;obtain rfl:u=Value.ref a:=rx;exact⟨pH I2 g,lY hu I2 g ry λw' s3 I3 rw'=>⟨v,H2,I3,rw',q2⟩⟩
theorem zo (hu:X.A.units+1<cLine) (hi:PE X i ty) (ho:PE X o td):PC X .In i o (Aw ty td):=by
 intro pins s σ H Q I h;refine thn (hi pins s σ H _ I h) λiv s1 ⟨y,H1,I1,ry,q1⟩=>thn (ho pins s1 σ H1 _ I1 q1) λu s2 ⟨x,H2,I2,rx,a,ov,ex,g,q2⟩=>?_;subst ex;obtain rfl:u=Value.ref a:=rx;exact Es hu I2 g ry λs3 I3=>⟨.bl ov.isSome,H2,I3,rfl,q2⟩
theorem cU (hu:X.A.units+1<cLine) (hi:PE X i ty) (ho:PE X o td):PC X .NotIn i o (rp ty td):=by
 intro pins s σ H Q I h;refine thn (hi pins s σ H _ I h) λiv s1 ⟨y,H1,I1,ry,q1⟩=>thn (ho pins s1 σ H1 _ I1 q1) λu s2 ⟨x,H2,I2,rx,a,ov,ex,g,q2⟩=>?_;subst ex;obtain rfl:u=Value.ref a:=rx;exact xC hu I2 g ry λs3 I3=>⟨.bl (!ov.isSome),H2,I3,rfl,q2⟩
theorem f6 (hu:X.A.units+1<cLine) (ho:PE X o td) (hi:PE X i ty) (hv:PE X value tv) (hs:swapsWith value (some (.Subscript o i pos')) pos.line X.env=pure false) :
  PS X (.Assign [.Subscript o i pos'] value pos) (xY td ty tv):=by
 intro pins s σ H D I h;refine wpAny_Assign_Subscript (thn (hv pins s σ H _ I h) λr s1 ⟨v,H1,I1,rv,q1⟩=>thn (ho pins s1 σ H1 _ I1 q1) λu s2 ⟨x,H2,I2,rx,q2⟩=>thn (hi pins s2 σ H2 _ I2 q2) λiv s3 ⟨y,H3,I3,ry,a,H4,ex,g,q3⟩=>?_) hs;subst ex;obtain rfl:u=Value.ref a:=rx;exact lX hu I3 g ry rv λs4 I4=>⟨σ,H4,I4,q3⟩
theorem wQ {op:Operator} {rd:V->V->Hp->VK->Prop} (hu:X.A.units+1<cLine) (ho:PE X o td) (hi:PE X i ty) (hv:PE X value tv) (hop:Du X op rd)
  (ha:∀ov iv new,augStore i ov iv new=(do holding [new,ov,iv] (setItem ov iv new);release [new,ov,iv] [];pure .next)):PS X (.AugAssign (.Subscript o i tpos) op value pos) (xZ td ty tv rd):=by
 intro pins s σ H D I h;refine wpAny_AugAssign_SubscriptAny (thn (ho pins s σ H _ I h) λu s1 ⟨x,H1,I1,rx,q1⟩=>thn (hi pins s1 σ H1 _ I1 q1) λiv s2 ⟨y,H2,I2,ry,a,v,ex,g,q2⟩=>?_) ha;subst ex;obtain rfl:u=Value.ref a:=rx;refine lY hu I2 g ry λw' s3 I3 rw'=>thn (hv pins s3 σ H2 _ I3 q2) λw2 s4 ⟨y2,H3,I4,ry2,q3⟩=>thn (hop pins s4 σ H3 v y2 w' w2 _ I4 rw' ry2 q3) λw3 s5 ⟨z,H4,I5,rz,H5,g5,q4⟩=>?_;exact lX hu I5 g5 ry rz λs6 I6=>⟨σ,H5,I6,q4⟩
end
theorem pG (h:Heap) (hb:sysModules<h.objs.size):bt P w H (h.push { cls:=.type "dict", data:=.dict #[] }) h.objs.size (.dK []) :=
 ⟨QN _,beq_eq_false_iff_ne.mpr (XF (Qz hb)),[],.nil,Heap.DictOf.new h⟩
def yX:TE:=λ_ H Q=>∀p,H p=none->Q (.ref p) (upd H p (.dK []))
section
variable {X:Cx} {pos:Pos}
theorem gP:PE X (.Dict [] [] pos) yX:=λpins s σ H Q I h =>
 wpAny_Dict_empty ⟨.ref s.heap.objs.size,_,I.laid (a:=s.heap.objs.size) (o:=.dK []) (t':=s.toks) (λ_ _ q=>Qd _ q) (Qg _) (pG s.heap I.big),rfl,h _ (I.hok.fresh (Qg _))⟩
end
def pU:List (TE × TE)->St->Hp->(List (V × V)->Hp->Prop)->Prop
 | [],_,H,Q=>Q [] H
 | (tk,tv)::r,σ,H,Q=>tk σ H λx H1=>tv σ H1 λy H2=>pU r σ H2 λps H3=>Q ((x,y)::ps) H3
abbrev VV:List (V × V)->List (Value × Value)->Prop:=Paired λp q=>aS p.1 q.1/\aS p.2 q.2
def PPs (X:Cx) (pos:Pos) (keys:List (Option Expr)) (values:List Expr) (trs:List (TE × TE)):Prop :=
 ∀(pins:List (Addr × Obj)) (s:Shared) (σ:St) (H:Hp) (Q:List (V × V)->Hp->Prop),Inv X pins σ H s->pU trs σ H Q ->
  wpAny (model X.prog X.w) X.A (evalPairs (pairTrees keys values X.env pos)) (λvs s'=>∃ps H',Inv X pins σ H' s'/\VV ps vs/\Q ps H') X.xe s
theorem wR:PPs X pos [] [] []:=λpins s σ H Q I h=>pairTrees_nil_walk ⟨[],H,I,.nil,h⟩
variable {trs:List (TE × TE)}
theorem uP {k v:Expr} {ks:List (Option Expr)} {vs:List Expr} {tk tv:TE} (hk:PE X k tk) (hv:PE X v tv) (hr:PPs X pos ks vs trs) :
  PPs X pos (some k::ks) (v::vs) ((tk,tv)::trs):=λpins s σ H Q I h =>
 pairTrees_cons_walk (thn (hk pins s σ H _ I h) λu s1 ⟨x,H1,I1,rx,q1⟩=>thn (hv pins s1 σ H1 _ I1 q1) λw2 s2 ⟨y,H2,I2,ry,q2⟩ =>
  thn (hr pins s2 σ H2 _ I2 q2) λws s3 ⟨ps,H3,I3,rel,q3⟩=>⟨(x,y)::ps,H3,I3,.cons ⟨rx,ry⟩ rel,q3⟩)
def jV (kvs more:List (Key × V)):List (Key × V):=more.foldl (λacc kv=>cg acc kv.1 kv.2) kvs
theorem KV.merge:∀{more:List (Key × V)} {rs:List (Key × Value)} {kvs:List (Key × V)} {vs:List (Key × Value)},KV more rs->KV kvs vs->KV (jV kvs more) (merged vs rs):=by
 intro more rs kvs vs r;unfold KV at r
 induction r generalizing kvs vs with
 | nil=>intro q;exact q
 | @cons p q ps qs h t ih =>
 intro r0
 have e:KV (cg kvs p.1 p.2) (stored vs q.1 q.2):=by
  have:=r0.put p.1 h.2;rw[<-h.1];exact this
 exact ih e
theorem gc:∀(more kvs:List (Key × V)),(jV kvs more).length<=kvs.length+more.length
 | [],kvs=>by show kvs.length<=kvs.length+0;omega
 | p::r,kvs=>by
  have h1:=gc r (cg kvs p.1 p.2);have h2:=eK kvs p.1 p.2;show (jV (cg kvs p.1 p.2) r).length<=_;rw[QQ];omega
theorem kA {P:Program} {w:World}:∀{kvs:List (Key × V)} {ws:List (Value × Value)},VV (kvs.map λkv=>(kV kv.1,kv.2)) ws->∃rs,Carries (bn P w) ws rs/\KV kvs rs
 | [],_,r=>by rw[List.map_nil]at r;cases r;exact⟨[],True.intro,.nil⟩
 | p::kvs,_,r=>by
  rw[QI]at r
  cases r with
  | @cons a b as bs h t =>
  obtain⟨rs,c,q⟩:=kA (P:=P) (w:=w) t;obtain⟨b1,b2⟩:=b;exact⟨(p.1,b2)::rs,⟨lO h.1,rfl,c⟩,.cons ⟨rfl,h.2⟩ q⟩
def Av (trs:List (TE × TE)):TE:=λσ H Q=>∀p,H p=none->pU trs σ (upd H p (.dK [])) λps H2=>H2 p=some (.dK [])/\∃kvs:List (Key × V),ps=kvs.map (λkv=>(kV kv.1,kv.2))/\kvs.length<=15/\Q (.ref p) (upd H2 p (.dK (jV [] kvs)))
theorem wU {keys:List (Option Expr)} {values:List Expr} (h:PPs X pos keys values trs) (hall:keys.all (·.isSome)=true) (hl:keys.length=values.length) (h0:keys≠[])
  (h15:keys.length<=15):PE X (.Dict keys values pos) (Av trs):=by
 intro pins s σ H Q I q;have hn:=I.hok.fresh (Qg s.heap.objs.size);have I1:=I.laid (a:=s.heap.objs.size) (o:=.dK []) (h':=s.heap.push { cls:=.type "dict", data:=.dict #[] }) (t':=s.toks) (λ_ _ q=>Qd _ q) (Qg _) (pG s.heap I.big);refine wpAny_Dict_walk (knd:=bn X.prog X.w) hall hl h0 h15 (thn (h pins _ σ _ _ I1 (q _ hn)) λws s2 ⟨ps,H2,I2,rel,e,kvs,ep,lk,q2⟩=>?_);subst ep;obtain⟨rs,c,rk⟩:=kA (P:=X.prog) (w:=X.w) rel;obtain⟨z,hd,vs0,r0,dd⟩:=se I2.hok e;cases r0;refine⟨rs,c,dd,λh' dd' hs=>⟨.ref s.heap.objs.size,_,?_,rfl,q2⟩⟩
 have hz:(jV [] kvs).length<=sizeLine:=by
  have h1:=gc kvs [];rw[List.length_nil]at h1;rw[XG];omega
 have he:∃q,h'.get? s.heap.objs.size=some q:=let ⟨q,_,_,hq,_⟩:=dd';⟨q,hq⟩;exact nC I2 (by rw[e];exact True.intro) hs he (wa hz hd (rk.merge .nil) dd')
structure M1 (X:Cx) (o:Expr) (m:Str) (apos:Pos) (e:Expr) (cpos:Pos):Prop where
 base:attributeBase o m X.env (eval o X.env)=eval o X.env
 few:((backTo cpos (starEach [e] X.env)).all (λx=>!x.1)&&(backToKw cpos (keywordEach [] X.env)).all (λx=>x.1.isSome)
  && decide (([e]:List Expr).length+([]:List Keyword).length+(if ([]:List Keyword).isEmpty then 0 else 1)<30))=true
 line:(apos.endLine==cpos.line)=true
 trees:backTo cpos (starEach [e] X.env)=[(false,eval e X.env)]
structure M2 (X:Cx) (o:Expr) (m:Str) (apos:Pos) (e f:Expr) (cpos:Pos):Prop where
 base:attributeBase o m X.env (eval o X.env)=eval o X.env
 few:((backTo cpos (starEach [e,f] X.env)).all (λx=>!x.1)&&(backToKw cpos (keywordEach [] X.env)).all (λx=>x.1.isSome)
  && decide (([e,f]:List Expr).length+([]:List Keyword).length+(if ([]:List Keyword).isEmpty then 0 else 1)<30))=true
 line:(apos.endLine==cpos.line)=true
 trees:backTo cpos (starEach [e,f] X.env)=[(false,eval e X.env),(false,eval f X.env)]
section
variable {X:Cx} {pins:List (Addr × Obj)} {σ:St} {H:Hp} {s:Shared} {a:Addr} {y d:V} {u r:Value} {o:Option V} {A:Around} {E:Value->Shared->Prop}
end
section
variable {X:Cx} {o e f:Expr} {apos cpos:Pos} {td ty tx:TE}
end
section
variable {X:Cx} {pins:List (Addr × Obj)} {σ:St} {H:Hp} {s:Shared} {a:Addr} {kvs:List (Key × V)} {A:Around} {E:Value->Shared->Prop}
end
section
variable {X:Cx} {pins:List (Addr × Obj)} {σ:St} {H:Hp} {s:Shared} {a:Addr} {y:V} {u:Value} {A:Around} {E:Value->Shared->Prop}
end
end L2
namespace Att
open PySem PySem.W PySem.Calls PyProof.Rows
theorem i6 {P:Params} {h:Heap}:∀(ns:List Int) (vs:List Value),WellAll P h vs (ns.map WData.int)->IntsAre vs ns:=by
 intro ns
 induction ns with
 | nil =>
  intro vs w;rw[List.map_nil]at w;cases w;exact .nil
 | cons n ns ih =>
 intro vs w;rw[QI]at w
 cases w with
 | cons a b =>
 cases a;exact .cons _ _ (ih _ b)
theorem sS {l:OpenLaw} {n:Nat} (hn:l.most=some n) {P:Params} {h:Heap} {args:List WData} {vals:List Value}
  (hpre:l.row.toRowW.claim.pre args=true) (hwl:WellAll P h vals args) :
  ∃a vs ns,vals=[Value.ref a]/\args=[WData.list (ns.map WData.int)]/\h.get? a=some { cls:=.type "list", data:=.seq vs.toArray }/\IntsAre vs ns/\ns.length<=n:=by
 have hsh:WShape.hasAll [] args [.list .int]=true:=(pre_splitW hpre).1;have hc:l.pre.holds [] { args:=args }=true:=(pre_splitW hpre).2;obtain⟨d,r,rfl,h1,h2⟩:=hasAllW_cons hsh;obtain rfl:=hasAllW_nil h2;obtain⟨xs,rfl,h3⟩:=hasW_list h1;obtain⟨ns,rfl⟩:=items_int h3
 have hlen:ns.length<=n:=by
  unfold OpenLaw.pre at hc
  have h4:(WTm.not (.lt (.lit (.int (n:Int))) (.len (.arg 0)))).holds [] { args:=[.list (ns.map .int)] }=true:=by
   have h4:=(holds_andW hc).1;rw[hn]at h4;exact h4
  have h5:=condW_of h4 (w_not (w_lt w_lit (w_len_list (w_arg rfl))));rw[Qa]at h5;refine Nat.le_of_not_lt λq=>?_;have q':(n:Int)<((ns.length:Nat):Int):=by omega
  first
   | (rw[Q7 q']at h5;exact absurd h5 (by decide))
   | (simp at h5;omega)
 cases hwl with
 | cons w1 w2 =>
 cases w2
 cases w1 with
 | list ho hall=>exact⟨_,_,ns,rfl,rfl,ho,i6 ns _ hall,hlen⟩
theorem sX (l:OpenLaw) (args:List WData):l.row.toRowW.claim.post args (.bool true) args=true :=
 postW_of (r:=l.row.toRowW) (X:=(true==true))
  (show WShape.has [] (.bool true) .bool=true by first|rfl|decide|simp[WShape.has,WShape.arms,WShape.armsAll])
  (show (WTm.eq .res (.lit (.bool true))).value [] { args:=args,res:=some (.bool true),after:=args }=some (.bool (true==true)) from w_eq_bool (w_res rfl) w_lit) rfl
theorem pL {l:OpenLaw} {n:Nat} {q:Program} {loose:List Str} {XP:(Str->Option Value)->Heap->Prop} {YP:World->Heap->Prop} {d:DefRec}
  (hn:l.most=some n) (hdf:d.params.defaults=[])
  (call:∀(w:World) (s₀ s₁:Shared) (mg mb:Str->Option Value) (fa:Addr) (o:Obj) (pm cd doc:Value) (a:Addr) (vs:List Value) (ns:List Int),
   Ground q loose [] XP w s₀ mg mb s₁.heap->YP w s₁.heap ->
   s₁.heap.get? fa=some o->o.data=.func (docDef d.name d.params d.body d.scope pm cd doc)->s₁.heap.CodeRec cd d.name->mg d.name=some (.ref fa) ->
   s₁.heap.get? a=some { cls:=.type "list", data:=.seq vs.toArray }->IntsAre vs ns->ns.length<=n->s₁.gens=#[] ->
   codeAny (model l.prog w) callerA (.call (.ref fa) ⟨[.ref a],[]⟩) (λr s'=>r=.ok (.ret (.bool true))/\OldK s₁.heap s'.heap/\s'.os=s₁.os/\AllBare s'.gens) s₁) :
  WalkO q loose XP YP l.row.toRowW d [] (λf vs=>PySem.call f vs):=by
 intro w s₀ s₁ mg mb G Y fa o pm cd doc dV kV ho hd hcd hD hmg hg args vals as hpre hlay hrd hwl hlo;obtain rfl:dV=.none:=Dflts.none hD hdf;obtain rfl:kV=.none:=Dflts.noKw hD;obtain⟨a,vs,ns,rfl,rfl,hobj,hints,hlen⟩:=sS hn hpre hwl;refine enter_call (codeAny_mono (call w s₀ s₁ mg mb fa o pm cd doc a vs ns G Y ho (fd_plain hd) hcd hmg hobj hints hlen hg) λr s' hq=>?_);obtain⟨rfl,h2,h3,h4⟩:=hq;exact⟨.inl ⟨.bool true,.bool true,[],rfl,λ_=>rfl,.bool true,sX l _,λ_=>⟨List.Pairwise.nil,λ_ hm=>(nomatch hm)⟩⟩,h2,h3,h4⟩
section
variable {prog:Program} {w:World} {A:Around} {E:Value->Shared->Prop} {s:Shared} {K:Frag}
end
end Att
namespace L2
open PySem PySem.Spec PyProof.Rows
theorem lD:∀{vs:List Value} {ns:List Int},IntsAre vs ns->aY (ns.map V.int) vs
 | _,_,.nil=>.nil
 | _,_,.cons n t h=>.cons ⟨t,rfl⟩ (lD h)
end L2
/- THE LAST THEOREM (shape;LID,My.* are yours):
  My.Adr: a structure of the addresses that your layer names (classes,functions);My.Txt K t: a structure (Prop) of the equations over K;
  My.txt_mk:{K} {implicit addresses ..} (e1:nsIn K mainGlobals "law" = some (some (.ref f))) (e2:K.lookup f=some ⟨oc,od,.func (fnOf "law" "law" params body scope dV kV doc pm an cdv ct),sl⟩) (e3:codeIn K cdv "law" = true) ..:∃t,My.Txt K t
(the tactic k_is has no namespace: write k_is) -/
namespace L2
open PySem PySem.Spec PyProof.Rows
abbrev CX0:CXT:=λ_ _ _ _ _ _=>False
abbrev E0:XK:=λ_ _ _=>False
theorem yj {X:Cx}:kR CX0 X E0:=λ_ _ _ _ _ _ _ h=>h.elim
structure Fun (K:PySem.W.Frag) (x qual:Str) (st:Stmt) (f:Addr) (fd:FuncData):Prop where
 ex:∃(oc:Value) (od:Option Addr) (kV doc pm:Value) (an:Option Addr) (cdv ct:Value) (osl:Array (Option Value)),
  fd=PySem.W.fnOf x qual (dR st) (cQ st) (aA st) .none kV doc pm an cdv ct/\K.lookup f=some ⟨oc,od,.func fd,osl⟩/\PySem.W.codeIn K cdv qual=true
 kp:PySem.W.keepIn K (.ref f)=true
section
variable {P:Program} {w:World} {K:PySem.W.Frag} {mg:Str->Option Value} {base:Heap}
variable {x qual:Str}
theorem Fun.ok {st:Stmt} {f:Addr} {fd:FuncData} {N ps:List Str} {k:Nat} {sp:Sp} (F:Fun K x qual st f fd) (S:FnScope N ps (aA st)) (len:∀vs H Q E,sp vs H Q E->vs.length=ps.length)
  (hbody:∀(cdv:Value) (A:Around) (outer:List Env) (s:Shared) (H:Hp) (vs:List V) (Q:VK) (E:XK),Room k (A.deeper (envOfC qual (aA st) s.heap.objs.size f cdv))->sp vs H Q E ->
   ∃t,PSs (cxOf CX0 P w K mg base N qual (aA st) f cdv A outer s H E).nox (cQ st) t/\t { nx:=λ_ H'=>Q .non H',rt:=Q } (start N vs) H):FnOk P w K mg base CX0 (k+1) f fd ps sp:=by
 obtain⟨oc,od,kV,doc,pm,an,cdv,ct,osl,rfl,lk,hcd⟩:=F.ex;refine yQ lk hcd S len λA outer s H vs Q E hr hsp=>?_;obtain⟨t,h,q⟩:=hbody cdv A outer s H vs Q E hr hsp;exact⟨t,h.nox,q⟩
theorem Fun.binds {st:Stmt} {f:Addr} {fd:FuncData} {ps:List Str} (F:Fun K x qual st f fd)
  (h:∀(kV doc pm:Value) (an:Option Addr) (cdv ct:Value) (us:List Value),us.length=ps.length->bindArgs (PySem.W.fnOf x qual (dR st) (cQ st) (aA st) .none kV doc pm an cdv ct) ⟨us,[]⟩=pure (ps.zip us)):hZ K fd ps []:=by
 obtain⟨oc,od,kV,doc,pm,an,cdv,ct,osl,rfl,lk,hcd⟩:=F.ex;exact .all (h kV doc pm an cdv ct)
theorem qQ {st:Stmt} {f:Addr} {oc:Value} {od an:Option Addr} {osl:Array (Option Value)} {kV doc pm cdv ct:Value} (l:K.lookup f=some ⟨oc,od,.func (PySem.W.fnOf x qual (dR st) (cQ st) (aA st) .none kV doc pm an cdv ct),osl⟩)
  (c:PySem.W.codeIn K cdv qual=true) (k:PySem.W.keepIn K (.ref f)=true):Fun K x qual st f (PySem.W.fnOf x qual (dR st) (cQ st) (aA st) .none kV doc pm an cdv ct):=⟨⟨oc,od,kV,doc,pm,an,cdv,ct,osl,rfl,l,c⟩,k⟩
end
theorem du {A:Around} {k:Nat} (hr:Room k A):A.units+1<cLine:=XA (Nat.add_le_add_left (by decide:1<=64) _) hr.units
section
variable {X:Cx}
theorem pv (i:Nat) {x:Str} {pos:Pos} (hN:X.N[i]?=some x:=by rfl) (hv:Vis X.env.scope x:=by first|exact Or.inl rfl|exact Or.inr (Or.inl rfl)|exact Or.inr (Or.inr rfl)) (hd:(x==("__debug__" : Str))=false:=by decide)
  (hcd:(x==("__classdict__" : Str))=false:=by decide):PE X (.Name x pos) (cX i):=zj hN hv hd hcd
end
variable {A B c:Prop}
theorem ck (h:B):if false=true then A else B:=by
 rw[QB Qn];exact h
theorem bX (h:A):if true=true then A else B:=by
 rw[QF rfl];exact h
theorem eX [Decidable c] (h1:c->A) (h2:¬c->B):if c then A else B:=by
 by_cases h:c
 ·rw[QF h];exact h1 h
 rw[QB h];exact h2 h
def am (H H':Hp):Prop:=∀b o,H b=some o->H' b=some o
theorem am.refl (H:Hp):am H H:=λ_ _ h=>h
theorem am.trans {H H1 H2:Hp} (a:am H H1) (b:am H1 H2):am H H2:=λc o h=>b c o (a c o h)
theorem am.free {H H':Hp} (e:am H H') {l:Addr} (h:H' l=Option.none):H l=Option.none:=by
 cases q:H l with
 | none=>rfl
 | some o =>
 rw[e l o q]at h;cases h
theorem am.seq {K:PySem.W.Frag} {H H':Hp} {a:Addr} {xs:List V} (e:am H H') (h:SqL K H a xs):SqL K H' a xs:=by
 rcases h with(h|⟨o,h⟩)|h
 ·exact .inl (.inl (e _ _ h))
 ·exact .inl (.inr ⟨o,e _ _ h⟩)
 exact .inr h
section
variable {κ:Type} [DecidableEq κ]
variable {kvs:List (κ × V)}
theorem uo {k:κ} (h:ba kvs k=none):¬k∈kvs.map (·.1):=by
 intro m;obtain⟨p,hp,e⟩:=Qk.mp m;have q:(kvs.any λkv=>decide (kv.1=k))=true:=List.any_eq_true.mpr ⟨p,hp,Q7 e⟩;rw[cZ,h]at q;exact absurd q (by simp)
theorem wD {k:κ} {v:V} (h:ba kvs k=some v):k∈kvs.map (·.1):=by
 have q:(kvs.any λkv=>decide (kv.1=k))=true:=by
  rw[cZ,h]
  all_goals rfl
 obtain⟨p,hp,e⟩:=List.any_eq_true.mp q;exact Qk.mpr ⟨p,hp,of_decide_eq_true e⟩
end
section
variable {X:Cx}
theorem ud:eB X (.builtin "len") (λxs H Q=>∃a kvs,xs=[V.ref a]/\H a=some (.dK kvs)/\Q (.int kvs.length) H):=by
 intro pins s σ H xs us Q I r h;obtain⟨a,kvs,rfl,ha,q⟩:=h;obtain⟨u,rfl,ru⟩:=eE r;cases ru;exact Dn I (.inl ha) λt s' I'=>⟨.int kvs.length,H,I',⟨t,rfl⟩,q⟩
end
end L2
set_option maxHeartbeats 4000000
namespace L2
open PySem PySem.Spec PyProof.Rows
def wk:St->St->Prop
 | [],[]=>True
 | none::a,_::b=>wk a b
 | some x::a,y::b=>y=some x/\wk a b
 | _,_=>False
theorem mo:∀{a b:St},wk a b->a.length=b.length
 | [],[],_=>rfl
 | [],_::_,h=>h.elim
 | none::_,[],h=>h.elim
 | some _::_,[],h=>h.elim
 | none::a,_::b,h=>congrArg (·+1) (mo (a:=a) (b:=b) h)
 | some _::a,_::b,h=>congrArg (·+1) (mo (a:=a) (b:=b) h.2)
theorem mt:∀{a b:St},wk a b->∀(i:Nat) (v:V),a[i]?=some (some v)->b[i]?=some (some v)
 | [],[],_,i,v,e=>by simp at e
 | [],_::_,h,_,_,_=>h.elim
 | none::_,[],h,_,_,_=>h.elim
 | some _::_,[],h,_,_,_=>h.elim
 | none::a,y::b,h,0,v,e=>by simp at e
 | none::a,y::b,h,i+1,v,e=>by
  have:=mt (a:=a) (b:=b) h i v (by simpa using e);simpa using this
 | some x::a,y::b,h,0,v,e=>by
  have e':x=v:=by simpa using e
  subst e';rw[h.1];rfl
 | some x::a,y::b,h,i+1,v,e=>by
  have:=mt (a:=a) (b:=b) h.2 i v (by simpa using e);simpa using this
def dy (env:Env):List (Str × NameKind)->List (Str × Addr)->List (Str × Addr)
 | [],acc=>acc
 | (n,k)::r,acc=>dy env r (if (k==.free)=true then (n,(env.cells.lookup n).getD 0)::acc else acc)
theorem ku {env:Env}:∀(ns:List (Str × NameKind)) (acc:List (Str × Addr)),(∀y∈ns,y.2=.free->∃c,env.cells.lookup y.1=some c) ->
  (forIn ns acc (fun x r=>match x with
   | (name,kind)=>if (kind==NameKind.free)=true then (do let c <-cellOf env name;pure (ForInStep.yield ((name,c)::r))) else pure (ForInStep.yield r)):Sem (List (Str × Addr)))=pure (dy env ns acc)
 | [],acc,_=>rfl
 | (n,k)::r,acc,h=>by
  rw[List.forIn_cons];have ih:=λa=>ku (env:=env) r a λy hy=>h y (Qw _ hy);by_cases hk:(k==NameKind.free)=true
  ·obtain⟨c,hc⟩:=h (n,k) Xj (by simpa using hk);have e1:cellOf env n=pure c:=by unfold cellOf;rw[hc]
   simp only[hk,if_true,e1,pure_bind];unfold dy;simp only[hk,if_true,hc,Option.getD_some];exact ih _
  simp only[hk,if_false,pure_bind];unfold dy;simp only[hk,if_false];exact ih _
variable {env:Env} {scope:Scope}
theorem kz (h:∀y∈scope.names,y.2=.free->∃c,env.cells.lookup y.1=some c):closureFor scope env=pure (dy env scope.names []):=by
 have e:=ku scope.names [] h;unfold closureFor
 first
  | (rw[show (forIn scope.names ([]:List (Str × Addr)) _:Sem (List (Str × Addr)))=pure (dy env scope.names []) from e];rfl)
  | (simp only[bind_pure];exact e)
  | exact(congrArg (· >>= pure) e)
theorem iF {env:Env}:∀(ns:List (Str × NameKind)) (acc:List (Str × Addr)) (n:Str) (a:Addr),(n,a)∈dy env ns acc->(n,a)∈acc\/(a=(env.cells.lookup n).getD 0/\(n,NameKind.free)∈ns)
 | [],acc,n,a,h=>.inl h
 | (m,k)::r,acc,n,a,h=>by
  unfold dy at h;by_cases hk:(k==NameKind.free)=true
  ·rw[QF hk]at h;rcases iF r _ n a h with q|⟨q1,q2⟩
   ·rcases QV.mp q with q|q
    ·cases q;have hk':k=.free:=by simpa using hk
     subst hk';exact .inr ⟨rfl,Xj⟩
    exact .inl q
   exact .inr ⟨q1,Qw _ q2⟩
  rw[QB hk]at h;rcases iF r _ n a h with q|⟨q1,q2⟩
  ·exact .inl q
  exact .inr ⟨q1,Qw _ q2⟩
theorem l6 {env:Env}:∀(ns:List (Str × NameKind)) (acc:List (Str × Addr)) (p:Str × Addr),p∈acc->p∈dy env ns acc
 | [],_,_,h=>h
 | (m,k)::r,acc,p,h=>by
  unfold dy;refine l6 r _ p ?_
  split
  ·exact Qw _ h
  exact h
theorem kr {env:Env}:∀(ns:List (Str × NameKind)) (acc:List (Str × Addr)) (n:Str),(n,NameKind.free)∈ns->(n,(env.cells.lookup n).getD 0)∈dy env ns acc
 | [],_,_,h=>nomatch h
 | (m,k)::r,acc,n,h=>by
  unfold dy;rcases QV.mp h with q|q
  ·cases q;refine l6 r _ _ ?_;rw[QF (by rfl)];exact Xj
  exact kr r _ n q
theorem eg {α β:Type} [BEq α] [LawfulBEq α]:∀{l:List (α × β)} {x:α} {y:β},l.lookup x=some y->(x,y)∈l
 | [],_,_,h=>by simp at h
 | (a,b)::r,x,y,h=>by
  rw[Q8]at h;by_cases e:(x==a)=true
  ·rw[e]at h;have e':x=a:=by simpa using e
   have h':b=y:=by simpa using h
   subst e' h';exact Xj
  have e2:(x==a)=false:=by simpa using e
  rw[e2]at h;exact Qw _ (eg (by simpa using h))
theorem gb {α β:Type} [BEq α] [LawfulBEq α]:∀{l:List (α × β)} {x:α} {y:β},(x,y)∈l->∃z,l.lookup x=some z
 | [],_,_,h=>nomatch h
 | (a,b)::r,x,y,h=>by
  rw[Q8];by_cases e:(x==a)=true
  ·rw[e];exact⟨b,rfl⟩
  have e2:(x==a)=false:=by simpa using e
  rw[e2];rcases QV.mp h with q|q
  ·cases q;simp at e
  exact gb q
variable {c it e T a p:Addr} {x z:Str} {ns:List (Str × NameKind)}
theorem wq (h:(dy env ns []).lookup x=some c) (hall:∀y∈ns,y.2=.free->∃c,env.cells.lookup y.1=some c):env.cells.lookup x=some c:=by
 rcases iF ns [] x c (eg h) with q|⟨q1,q2⟩
 ·nomatch q
 obtain⟨c',hc⟩:=hall _ q2 rfl;have hc':env.cells.lookup x=some c':=hc;rw[hc']at q1;rw[hc',q1];rfl
theorem sr {env:Env} (h:(x,NameKind.free)∈ns):∃c,(dy env ns []).lookup x=some c:=gb (kr ns [] x h)
noncomputable def Cx.block (X:Cx) (N:List Str) (scope:Scope) (C:Addr) (s:Shared) (H:Hp) (fp:List Addr):Cx :=
 { X with N:=N,s₀:=s,H₀:=H,env:=compEnvC scope (dy X.env scope.names []) C X.env,outer:=X.stack,ex:=fp,fn:=λ_=>false,pn:=[],xe:=λ_ _=>False }
theorem mU {k:NameKind} (h:(relabel scope env).names.lookup x=some k):∃k',scope.names.lookup x=some k'/\(k=k'\/(k'=.free/\k=.cell)):=by
 unfold relabel at h;generalize scope.names=ns at h
 induction ns with
 | nil=>simp at h
 | cons p r ih =>
 obtain⟨n,k0⟩:=p;rw[QI]at h;by_cases e:(x==n)=true
 ·refine⟨k0,by rw[Q8,e],?_⟩;by_cases c:(k0==NameKind.free&&env.scope.kind==.function&&env.kindOf n==some .cell)=true
  ·have h1:some NameKind.cell=some k:=by
    have h2:=h;simp only[c,if_true]at h2;rw[Q8,e]at h2;exact h2
   have h3:k0=.free:=by
    simp only[Xl,beq_iff_eq]at c;exact c.1.1
   exact .inr ⟨h3,(Q2 h1).symm⟩
  have h1:some k0=some k:=by
   have h2:=h;simp only[c,QT,if_false]at h2;rw[Q8,e]at h2;exact h2
  exact .inl (Q2 h1).symm
 have e2:(x==n)=false:=by simpa using e
 rw[Q8,e2];refine ih ?_;by_cases c:(k0==NameKind.free&&env.scope.kind==.function&&env.kindOf n==some .cell)=true
 ·have h2:=h;simp only[c,if_true]at h2;rw[Q8,e2]at h2;exact h2
 have h2:=h;simp only[c,QT,if_false]at h2;rw[Q8,e2]at h2;exact h2
theorem mV (h:scope.names.lookup x=some .free):(relabel scope env).names.lookup x=some .cell\/(relabel scope env).names.lookup x=some .free:=by
 unfold relabel;show List.lookup x (scope.names.map _)=_\/List.lookup x (scope.names.map _)=_;generalize scope.names=ns at h
 induction ns with
 | nil=>simp at h
 | cons p r ih =>
 obtain⟨n,k0⟩:=p;rw[QI];by_cases e:(x==n)=true
 ·rw[Q8,e]at h;have h':k0=.free:=by simpa using h
  subst h';by_cases c:(NameKind.free==NameKind.free&&env.scope.kind==.function&&env.kindOf n==some .cell)=true
  ·left
   simp only[c,if_true];rw[Q8,e]
  right
  simp only[c,QT,if_false];rw[Q8,e]
 have e2:(x==n)=false:=by simpa using e
 rw[Q8,e2]at h;have h3:=ih h;by_cases c:(k0==NameKind.free&&env.scope.kind==.function&&env.kindOf n==some .cell)=true
 ·simp only[c,if_true];rw[Q8,e2];exact h3
 simp only[c,QT,if_false];rw[Q8,e2];exact h3
def xM (X:Cx) (ifs:List Expr) (t:TT):Prop :=
 ∀(pins:List (Addr × Obj)) (s:Shared) (σ:St) (H:Hp) (Q:Bool->Hp->Prop),Inv X pins σ H s->t σ H Q ->
  wpAny (model X.prog X.w) X.A (forIn ifs true λc r=>if r=true then do let ok <-isTrue c X.env (eval c X.env);pure (ForInStep.yield ok) else pure (ForInStep.yield r)) (TP X pins σ Q) X.xe s
def ie:TT:=λ_ H Q=>Q true H
theorem bq {X:Cx}:xM X [] ie:=λ_ _ _ H _ I h=>wpAny_tests_nil ⟨H,I,h⟩
theorem oQ {X:Cx} {c:Expr} {t:TT} (h:PT X c t):xM X [c] t:=λpins s σ H Q I hw=>wpAny_tests_one (h pins s σ H Q I hw)
variable {pos px:Pos} {w:World} {prog P:Program}
theorem hG {A:Around} {R:Result->Shared->Prop} {s:Shared} {elt target iter:Expr} {ifs:List Expr} {it acc:Value} (I:Nat->Shared->Prop)
  (turn:∀n s,I n s->wpAny (model prog w) A (pyNext it) (fun r s1=>match r with
   | none=>R (.ok .next) s1
   | some v=>wpAny (model prog w) A (letOwnedTupleGo target it v) (λ_ s2=>wpAny (model prog w) A (assign target env v) (λ_ s3 =>
     wpAny (model prog w) A (forIn ifs true λc r=>if r=true then do let ok <-isTrue c env (eval c env);pure (ForInStep.yield ok) else pure (ForInStep.yield r)) (λok s4 =>
      if ok=true then wpAny (model prog w) A (eval elt env) (λx s5 =>
       wpAny (model prog w) A (call (.builtin "list.append") [acc,x]) (λ_ s6=>∃m,m<n/\I m s6) (λ_ _=>False) s5) (λ_ _=>False) s4
      else ∃m,m<n/\I m s4) (λ_ _=>False) s3) (λ_ _=>False) s2) (λ_ _=>False) s1) (λ_ _=>False) s)
  (n:Nat) (h:I n s):codeAny (model prog w) A (.compLoop (.ListComp elt [⟨target,iter,ifs,0⟩] scope pos) 0 it acc env) R s:=by
 refine codeAny_loop rfl I (λn s hI=>?_) n h;show wpAny _ A ((compTurn (.ListComp elt [⟨target,iter,ifs,0⟩] scope pos) 0 it acc env).onRaise (λx=>do noteFrame x env;theTreesLotGoes x)) _ _ s;refine wpAny_noted ?_;rw[compTurn_list];have no:∀{E:Value->Shared->Prop},∀e s',(λ(_:Value) (_:Shared)=>False) e s'->E e s':=λ_ _ z=>False.elim z;refine Qb (wpAny_standAt (Qb (Xm (turn n s hI) (λr s1 h1=>?_) no)))
 cases r with
 | none=>exact Qf h1
 | some v =>
 refine Qb (Xm h1 (λ_ s2 h2=>?_) no);refine Qb (Xm h2 (λ_ s3 h3=>Qb (Xm h3 (λok s4 h4=>?_) no)) no)
 cases ok with
 | false=>exact Qf ⟨rfl,h4⟩
 | true =>
 exact Qb (Qb (Xm h4 (λx s5 h5=>Qb (Xm h5 (λ_ s6 h6=>Qf (Qf ⟨rfl,h6⟩)) no)) no))
def b_ (tgs:List Str) (cap:List (Str × Nat)) (σ:St):St:=tgs.map (λ_=>none)++cap.map λc=>(σ[c.2]?).join
def lF (wi:TI) (g:TG) (tt:TT) (te:TE) (f:St->St):TE:=λσ H Q=>wi σ H λJ H1=>∀D,H1 D=none->∃W:Nat->Nat->Hp->List V->Prop,(∃m,W 0 m (upd H1 D (.lst [])) []) /\
 ∀i m H ys,W i m H ys->H D=some (.lst ys)/\((J.stop i H/\Q (.ref D) H)\/(J.go i H/\∀x H',J.yld i H x H'->g x (f σ) H' λσ2 H2=>wk (f σ) σ2/\tt σ2 H2 λb H3 =>
  if b=true then te σ2 H3 λv H4=>H4 D=some (.lst ys)/\ys.length<sizeLine/\∃m',m'<m/\W (i+1) m' (upd H4 D (.lst (ys++[v]))) (ys++[v])
  else ∃m',m'<m/\W (i+1) m' H3 ys))
structure BlockOk (X:Cx) (scope:Scope) (tgs:List Str) (cap:List (Str × Nat)):Prop where
 kind:scope.kind=.function
 nocell:(scope.names.all λy=>!(y.2==NameKind.cell))=true
 names:(scope.names.all λy=>!(y.2==NameKind.local) || (scope.names.lookup y.1==some .local))=true
 free:(scope.names.all λy=>!(y.2==NameKind.free) || (X.env.scope.names.lookup y.1==some .cell) || (X.env.scope.names.lookup y.1==some .free))=true
 caps:(cap.all λc=>decide (X.N[c.2]?=some c.1)&&(scope.names.lookup c.1==some .free)&&(decide (X.env.scope.names.lookup c.1=some .cell) || decide (X.env.scope.names.lookup c.1=some .free)))=true
 tgl:(tgs.all λx=>(scope.names.lookup x==some .local))=true
section
variable {X:Cx} {scope:Scope} {tgs:List Str} {cap:List (Str × Nat)}
theorem BlockOk.cellAt (B:BlockOk X scope tgs cap) (ok:X.Ok):∀y∈scope.names,y.2=.free->∃c,X.env.cells.lookup y.1=some c:=λy hy hk=>by
 have q:=QK.mp B.free y hy;rw[hk]at q;refine ok.has y.1 ?_;simp only[beq_self_eq_true,Bool.not_true,Bool.false_or,Bool.or_eq_true,beq_iff_eq]at q;exact q
theorem BlockOk.noc (B:BlockOk X scope tgs cap):∀y∈scope.names,y.2≠.cell:=λy hy hk=>by
 have q:=QK.mp B.nocell y hy;rw[hk]at q;simp at q
theorem BlockOk.locs (B:BlockOk X scope tgs cap):∀y∈scope.names,y.2=.local->scope.names.lookup y.1=some .local:=λy hy hk=>by
 have q:=QK.mp B.names y hy;rw[hk]at q;simpa using q
variable {pins:List (Addr × Obj)}
theorem Inv.enter {σ:St} {H:Hp} {s:Shared} {h1:Heap} {tk:Nat} {fp:List Addr} (B:BlockOk X scope tgs cap) (I:Inv X pins σ H s) (hfp:∀b∈fp,gF X pins H b) (hlt:∀b∈fp,b<s.heap.objs.size)
  (hns:h1.Ns s.heap.objs.size (λ_=>none)) (old:∀b o,s.heap.get? b=some o->h1.get? b=some o) :
  Inv (X.block (tgs++cap.map (·.1)) scope s.heap.objs.size s H fp) [] (b_ tgs cap σ) H { s with heap:=h1,toks:=tk }:=by
 have cellsIn:∀x c,(dy X.env scope.names []).lookup x=some c->X.env.cells.lookup x=some c:=λx c e=>wq e (B.cellAt I.ok)
 have kindIn:∀x,((relabel scope X.env).names.lookup x=some .cell\/(relabel scope X.env).names.lookup x=some .free)->(x,NameKind.free)∈scope.names:=λx hx=>by
  have go:∀k,(relabel scope X.env).names.lookup x=some k->(k=.cell\/k=.free)->(x,NameKind.free)∈scope.names:=λk hk hc=>by
   obtain⟨k',e1,e2⟩:=mU hk;have m:=eg e1;rcases e2 with e2|⟨e2,_⟩
   ·subst e2;rcases hc with z|z
    ·exact absurd z (B.noc _ m)
    subst z;exact m
   subst e2;exact m
  rcases hx with h|h
  ·exact go _ h (.inl rfl)
  exact go _ h (.inr rfl)
 have nocl:∀x c,X.env.cells.lookup x=some c->c≠s.heap.objs.size:=λx c e=>by
  obtain⟨v,q⟩:=I.cell x c e;exact Qz q.lt
 refine⟨⟨I.ok.mod,?_,I.ok.glob,I.ok.blt,Qg _,λx y c e1 e2=>I.ok.inj x y c (cellsIn x c e1) (cellsIn y c e2),λx hx=>?_,λx c hf _=>absurd (show false=true from hf) Qn,I.ok.hd,I.ok.frames,.inl rfl,
  λb hb=>⟨Qz (hlt b hb),λx c e=>?_⟩,I.bs,Q0 I.ok.bsz I.sz,λb o e hb=>?_,λb hb hf=>?_,I.stack,I.stkFree⟩,
  rfl,I.bare,Un.kept old,⟨_,hns,λi x v h2 h3 h4=>?_⟩,λx c e=>?_,?_,λx c e=>I.freeC x c (cellsIn x c e),λp hp=>absurd (show p∈([]:List (Addr × Obj)) from hp) (by simp),I.hok.kept old,?_⟩
 ·exact B.kind
 ·exact sr (kindIn x hx)
 ·exact(hfp b hb).2.2.2.2.1 x c (cellsIn x c e)
 ·-- no object of the base is an iterator of ours
  rcases(hfp b hb).2.2.2.1 with z|z
  ·exact I.ok.noex b o e z
  have q:=I.ok.bs b o e;exact absurd (QC (Qm q.1) z) (Nat.lt_irrefl _)
 ·have hf':b∈frs X.stack:=hf;rcases QV.mp (I.stkSub b hf') with z|z
  ·exact(hfp b hb).2.1 z
  exact(hfp b hb).2.2.1 z
 ·-- a name that is known: one of the captured ones
  have hi:tgs.length<=i:=by
   by_cases hl:i<tgs.length
   ·exfalso;unfold b_ at h3;rw[QG (by simpa using hl),Qh]at h3
    cases e:tgs[i]? with
    | none=>rw[e]at h3;cases h3
    | some z=>rw[e]at h3;cases h3
   exact om2 hl
  unfold b_ at h3;rw[QE (by simpa using hi),Qa,Qh]at h3;have h2':(tgs++cap.map (·.1))[i]?=some x:=h2;rw[QE hi,Qh]at h2'
  cases e:cap[i-tgs.length]? with
  | none=>rw[e]at h2';cases h2'
  | some c =>
  rw[e]at h2' h3;have hx:c.1=x:=by simpa using h2'
  have hv:(σ[c.2]?).join=some v:=by simpa using h3
  have hm:c∈cap:=Qi e;have q:=QK.mp B.caps c hm;simp only[Xl,decide_eq_true_eq,beq_iff_eq,Bool.or_eq_true]at q;obtain⟨⟨q1,q2⟩,q3⟩:=q
  have hσ:σ[c.2]?=some (some v):=by
   cases z:σ[c.2]? with
   | none=>rw[z]at hv;cases hv
   | some o =>
   rw[z]at hv;have:o=some v:=by simpa using hv
   rw[this]
  obtain⟨m,_,hl⟩:=I.loc
  obtain⟨u,r,l⟩:=hl c.2 c.1 v q1 hσ (by
   rcases q3 with z|z
   ·exact .inr (.inl z)
   exact .inr (.inr z))
  subst hx;refine⟨u,r,.inr ⟨mV q2,?_⟩⟩
  have nl:¬X.env.kindOf c.1=some .local:=λz=>by
   rcases q3 with y|y
   ·have:X.env.kindOf c.1=some .cell:=y;rw[this]at z;cases z
   have:X.env.kindOf c.1=some .free:=y;rw[this]at z;cases z
  rcases l with⟨l1,_⟩|⟨_,d,l2,l3⟩
  ·exact absurd l1 nl
  obtain⟨d',e'⟩:=sr (env:=X.env) (eg q2);have:d=d':=Q2 (l2.symm.trans (cellsIn _ _ e'));subst this;obtain⟨oc,ho,hd⟩:=l3;exact⟨d,e',oc,old d oc ho,hd⟩
 ·obtain⟨v,oc,ho,hd⟩:=I.cell x c (cellsIn x c e);exact⟨v,oc,old c oc ho,hd⟩
 ·exact I.hok.fresh (Qg _)
 unfold b_;show _=(tgs++cap.map (·.1)).length;simp
theorem Inv.leave {σ σ':St} {H H':Hp} {s s':Shared} {h2:Heap} {fp:List Addr} {N:List Str} (I:Inv X pins σ H s) (hfp:∀b∈fp,gF X pins H b)
  (J:Inv (X.block N scope s.heap.objs.size s H fp) [] σ' H' s') (hs:Heap.SameBut s.heap.objs.size s'.heap h2):Inv X pins σ H' { s' with heap:=h2 }:=by
 have u:Un (frs X.stack) fp H H' s.heap s'.heap:=J.base;have ne:∀b o,s.heap.get? b=some o->b≠s.heap.objs.size:=λb o e=>Qz (Qm e);have hf:H' s.heap.objs.size=none:=J.free;have k:∀b o,b≠s.heap.objs.size->s'.heap.get? b=some o->h2.get? b=some o:=λb o hb e=>(hs.2 b hb).trans e
 have u2:Un (frs X.stack) fp H H' s.heap h2 :=
  ⟨λb o e n h1 h3=>k b o (ne b o e) (u.keep b o e n h1 h3),λb o e n h1 h3=>let ⟨sl,q⟩:=u.slot b o e n h1 h3;⟨sl,k b _ (ne b o e) q⟩,u.free,λb o e h3=>let ⟨o',q⟩:=u.there b o e h3;⟨o',k b o' (ne b o e) q⟩,u.tups,u.frzs,u.tbls⟩
 have hok:HOk X.prog X.w H' h2:=λb ob e=>(J.hok b ob e).stay (λc v hc q=>k c v (by
  rcases hc with z|z
  ·subst z;intro y;rw[y,hf]at e;cases e
  intro y
  rw[y,hf]at z;cases z) q) (λ_ q=>q) λ_ _ q=>q
 exact Inv.call' I (s':={ s' with heap:=h2 }) J.os u2 hok J.bare λb hb=>by
  obtain⟨f0,f1,f2,f3,f4,f5⟩:=hfp b hb;exact⟨f3,f1,f4,f5⟩
theorem dr {elt tg iter:Expr} {ifs:List Expr} {pos:Pos} {wi:TI} {g:TG} {tt:TT} {te:TE} (hc:X.calm=true) (B:BlockOk X scope tgs cap) (hi:PI X tg iter wi)
  (hg:∀C s H fp,PG (X.block (tgs++cap.map (·.1)) scope C s H fp) tg g) (ht:∀C s H fp,xM (X.block (tgs++cap.map (·.1)) scope C s H fp) ifs tt) (he:∀C s H fp,PE (X.block (tgs++cap.map (·.1)) scope C s H fp) elt te)
  (hs:∀x,foldedSetIterable iter X.env x=pure x:=by intro _;rfl):PE X (.ListComp elt [⟨tg,iter,ifs,0⟩] scope pos) (lF wi g tt te (b_ tgs cap)):=by
 intro pins s σ H Q I h;rw[eval_ListComp];refine wpAny_comprehension_free (use:=none) rfl hs (kz (B.cellAt I.ok)) B.kind B.locs (thn (hi pins s σ H _ I h) λv s1 h1=>thn h1 λitv s2 h2=>?_);obtain⟨it,fp,tn,J,H2,e,I2,T,st2,f2,q⟩:=h2;subst e;have lt2:∀b∈fp,b<s2.heap.objs.size:=λb hb=>let ⟨o,e,_⟩:=T.obj _ _ st2 b hb;Qm e;have hD:H2 s2.heap.objs.size=none:=I2.hok.fresh (Qg _);obtain⟨W,⟨m0,w0⟩,turn⟩:=q s2.heap.objs.size hD;refine wpAny_newObj_type ?_;have I3:Inv X pins σ (upd H2 s2.heap.objs.size (.lst [])) { s2 with heap:=s2.heap.push { cls:=.type "list", dict:=none,data:=.seq ([]:List Value).toArray } }:=I2.lnew (t':=s2.toks) (ys:=[]) (its:=[]) .nil (QN _);have st3:tn 0 (s2.heap.push { cls:=.type "list", dict:=none,data:=.seq ([]:List Value).toArray }):=T.keep _ _ _ st2 λb _ o e=>Qd _ e;have nD:∀b∈fp,b≠s2.heap.objs.size:=λb hb=>Qz (lt2 b hb);have f3:∀b∈fp,gF X pins (upd H2 s2.heap.objs.size (.lst [])) b:=λb hb=>⟨by rw[ak (nD b hb)];exact(f2 b hb).1,(f2 b hb).2⟩;generalize hs3:({ s2 with heap:=s2.heap.push { cls:=.type "list", dict:=none,data:=.seq ([]:List Value).toArray } }:Shared)=s3 at I3 st3 ⊢;have st3':tn 0 s3.heap:=by rw[<-hs3];exact st3
 have lt3:∀b∈fp,b<s3.heap.objs.size:=λb hb=>let ⟨o,e,_⟩:=T.obj _ _ st3' b hb;Qm e;generalize hH3:upd H2 s2.heap.objs.size (.lst [])=H3 at I3 f3 w0;generalize s2.heap.objs.size=D at *;refine wpAny_newFunctionEnv B.noc (by intro y hy;simp at hy) (λh1 hns hsb=>?_) B.kind;have old:∀b o,s3.heap.get? b=some o->h1.get? b=some o:=λb o e=>hsb.extBut b o (Qz (Qm e)) (Qd _ e);have I4:=Inv.enter (tk:=s3.toks+([]:List (Str × Value)).length) (h1:=h1) B I3 f3 lt3 hns old;have st4:tn 0 h1:=T.keep _ _ _ st3' λb _ o e=>old b o e
 have fpB:∀{H':Hp},(∀b∈fp,H' b=none)->∀b∈fp,gF (X.block (tgs++cap.map (·.1)) scope s3.heap.objs.size s3 H3 fp) [] H' b:=λ{H'} hn b hb =>
  ⟨hn b hb,Qz (lt3 b hb),I4.ok.exfs b hb,.inl hb,λx c e=>(I4.ok.exf b hb).2 x c e,λp hp=>absurd (show p∈([]:List (Addr × Obj)) from hp) (by simp)⟩
 have loop:codeAny (model X.prog X.w) X.A (.compLoop (.ListComp elt [⟨tg,iter,ifs,0⟩] scope pos) 0 (.ref it) (.ref D) (compEnvC scope (dy X.env scope.names []) s3.heap.objs.size X.env))
   (compPost (model X.prog X.w) X.A X.xe none (EP X pins σ Q) (.ref D) s3.heap.objs.size) { s3 with heap:=h1,toks:=s3.toks+([]:List (Str × Value)).length }:=by
  refine hG (λn s'=>∃i H' ys,Inv (X.block (tgs++cap.map (·.1)) scope s3.heap.objs.size s3 H3 fp) [] (b_ tgs cap σ) H' s'/\tn i s'.heap/\(∀b∈fp,H' b=none)/\W i n H' ys) ?_ m0 ⟨0,H3,[],I4,st4,λb hb=>(f3 b hb).1,w0⟩;rintro n s5 ⟨i,H5,ys,I5,st5,fr5,w5⟩;obtain⟨hl,ht5⟩:=turn i n H5 ys w5;rcases ht5 with⟨stop,qd⟩|⟨go,step⟩
  ·refine thn (T.done (X.block (tgs++cap.map (·.1)) scope s3.heap.objs.size s3 H3 fp) rfl rfl rfl hc i [] s5 _ H5 _ I5 (fpB fr5) st5 stop) λr s6 ⟨hr,I6⟩=>?_;subst hr;obtain⟨m6,n6,_⟩:=I6.loc;exact⟨m6,n6,λh' hs'=>⟨.ref D,H5,Inv.leave I3 f3 I6 hs',rfl,qd⟩⟩
  refine thn (T.item (X.block (tgs++cap.map (·.1)) scope s3.heap.objs.size s3 H3 fp) rfl rfl rfl hc i [] s5 _ H5 _ I5 (fpB fr5) st5 go) λr s6 ⟨u,hr,h6⟩=>?_;subst hr;refine thn h6 λ_ s7 ⟨x,H7,I7,r7,y7,st7,fr7⟩=>?_;have I7':=I7.pinned (fpB fr7) (T.obj _ _ st7)
  have again:∀{σ8:St} {H8:Hp} {s8:Shared} {ys8:List V},Inv (X.block (tgs++cap.map (·.1)) scope s3.heap.objs.size s3 H3 fp) ([]++ir fp s7.heap) σ8 H8 s8->wk (b_ tgs cap σ) σ8->(∃m',m'<n/\W (i+1) m' H8 ys8) ->
    ∃m,m<n/\∃i H' ys,Inv (X.block (tgs++cap.map (·.1)) scope s3.heap.objs.size s3 H3 fp) [] (b_ tgs cap σ) H' s8/\tn i s8.heap/\(∀b∈fp,H' b=none)/\W i m H' ys:=λ{σ8 H8 s8 ys8} I8 k8 ⟨m',hm,w8⟩=>by
   refine⟨m',hm,i+1,H8,ys8,I8.unpinned.weak (mo k8) (mt k8),T.keep _ _ _ st7 λb hb o e=>(I8.pin (b,o) (QO _ (QO _ (dB hb e)))).1,λb hb=>?_,w8⟩;obtain⟨o,e,d⟩:=T.obj _ _ st7 b hb;exact(I8.pin (b,o) (QO _ (QO _ (dB hb e)))).2.1
  refine thn (hg _ _ _ _ _ s7 _ H7 x u _ I7' r7 (step x H7 y7)) λ_ s8 ⟨σ8,H8,I8,k8,q8⟩=>?_;refine thn (ht _ _ _ _ _ s8 σ8 H8 _ I8 q8) λok s9 ⟨H9,I9,q9⟩=>?_
  cases ok with
  | false =>
   rw[QB Qn]at q9 ⊢;exact again I9 k8 q9
  | true =>
  rw[QF rfl]at q9 ⊢;refine thn (he _ _ _ _ _ s9 σ8 H9 _ I9 q9) λy sA ⟨yv,HA,IA,rA,hA,zA,qA⟩=>?_;exact thn (bp _ sA σ8 HA (.ref D) [yv] (.ref D) [y] (λv H'=>v=.non/\∃m',m'<n/\W (i+1) m' H' (ys++[yv])) IA rfl (.cons rA .nil) ⟨D,ys,yv,rfl,rfl,hA,zA,rfl,qA⟩) λ_ sB ⟨_,HB,IB,_,_,qB⟩=>again IB k8 qB
 exact codeAny_compStart_list loop (T.self _ 0 _ _ _ st4 loop)
end
def Itf (n:Nat) (f:Nat->V):It:=⟨λi _=>i<n,λi H x H'=>H'=H/\x=f i,λi _=>i=n⟩
variable {n i:Nat} {K:PySem.W.Frag}
theorem jk {f:Nat->V} {Pv:Nat->Value->Prop} {St:Nat->Heap->Prop}
  (W:∀A:Around,A.handled=none->Walks P w A it [it] [it] n Pv St) (hP:∀i v,Pv i v->aS (f i) v) (hobj:∀i h,St i h->∃o,h.get? it=some o/\∀v,o.data≠.cell v)
  (hfr:∀i h h',St i h->(∀o,h.get? it=some o->h'.get? it=some o)->St i h')
  (hself:∀(A:Around) (i:Nat) (s:Shared) (Q:Value->Shared->Prop) (E:Value->Shared->Prop),St i s.heap->Q (.ref it) s->wpAny (model P w) A (pyIter (.ref it)) Q E s) :
  Turn P w K (.Name x px) (Itf n f) [it] it St where
 mem:=by simp
 obj:=λi h st b hb=>by
  have e:b=it:=by simpa using hb
  subst e;exact hobj i h st
 keep:=λi h h' st k=>hfr i h h' st λo e=>k it (by simp) o e
 item:=by
  intro X hP' hw hK hc i pins s σ H E I hf st hg;subst hP' hw hK;obtain⟨f0,f1,f2,f3,f4,f5⟩:=hf it (by simp);refine(W X.A (I.ok.hd hc)).item i s _ _ hg st λv h' tk hv st' kk=>?_;have I1:Inv X pins σ H { s with heap:=h',toks:=tk }:=I.turned (λb o hb e=>kk b o (by simpa using hb) e) f0 f1 f3 f4 f5;refine⟨v,rfl,wpAny_of_eq (a:=()) (by rfl) ⟨f i,H,I1,hP i v hv,⟨rfl,rfl⟩,st',λb hb=>(hf b hb).1⟩⟩
 done:=by
  intro X hP' hw hK hc i pins s σ H E I hf st hg;subst hP' hw hK;obtain⟨f0,f1,f2,f3,f4,f5⟩:=hf it (by simp);have e:i=n:=hg;subst e;exact(W X.A (I.ok.hd hc)).done s _ _ st λh' tk kk=>⟨rfl,I.turned (λb o hb e=>kk b o (by simpa using hb) e) f0 f1 f3 f4 f5⟩
 self:=λA i s Q E st h=>hself A i s Q E st h
def fv (z:Str) (i:Nat):V:=.str ⟨#[z.cps.getD i 0]⟩
theorem jF {v:Value} (h:SignAt z i v):aS (fv z i) v:=by
 obtain⟨c,u,h1,h2⟩:=h;subst h2;refine⟨u,?_⟩;have:z.cps.getD i 0=c:=by rw[Array.getD_eq_getD_getElem?,h1];rfl
 rw[this]
theorem uu {t:Tok} {ty:String} (hty:ty = "str_ascii_iterator" \/ ty = "str_iterator") :
  Turn P w K (.Name x px) (Itf z.cps.size (fv z)) [it] it (λi h=>h.IsStrIter it ty z t i):=by
 rcases hty with e|e
 ·subst e
  exact jk (λA hA=>Walks.strAscii hA it z t) (λi v h=>jF h) (λi h st=>let ⟨o,e,_,d⟩:=st;⟨o,e,λv q=>by rw[d]at q;cases q⟩)
   (λi h h' st k=>let ⟨o,e,r⟩:=st;⟨o,k o e,r⟩) λA i s Q E st q=>wpAny_pyIter_striter_ascii st q
 subst e
 exact jk (λA hA=>Walks.strWide hA it z t) (λi v h=>jF h) (λi h st=>let ⟨o,e,_,d⟩:=st;⟨o,e,λv q=>by rw[d]at q;cases q⟩)
  (λi h h' st k=>let ⟨o,e,r⟩:=st;⟨o,k o e,r⟩) λA i s Q E st q=>wpAny_pyIter_striter_wide st q
section
variable {X:Cx} {x:Str} {px:Pos}
def Df (tl:TE):TI:=λσ H R=>tl σ H λv H1=>∃z:Str,v=.str z/\R (Itf z.cps.size (fv z)) H1
theorem zi {l:Expr} {tl:TE} (hl:PE X l tl):PI X (.Name x px) l (Df tl):=by
 intro pins s σ H R I h;refine thn (hl pins s σ H _ I h) λv s1 ⟨y,H1,I1,r1,q1⟩=>?_;obtain⟨z,e,q⟩:=q1;subst e;obtain⟨t,e⟩:=r1;subst e
 have fin:∀ty:String,(ty = "str_ascii_iterator" \/ ty = "str_iterator")->PIE X pins σ (.Name x px) R (.ref s1.heap.objs.size) { s1 with heap:=s1.heap.push { cls:=.type ty,data:=.fields #[.str z t,.int 0 0] } }:=λty hty=>by
  refine⟨s1.heap.objs.size,[s1.heap.objs.size],_,_,H1,rfl,I1.kept (t':=s1.toks) λb o e=>Qd _ e,uu (t:=t) hty,⟨_,Qp _ rfl,rfl,rfl⟩,λb hb=>?_,q⟩;have e:b=s1.heap.objs.size:=by simpa using hb
  subst e;exact I1.fpOk (Qg _) (I1.hok.fresh (Qg _))
 cases ha:z.cps.all (·<128) with
 | false=>exact wpAny_pyIter_wide ha (fin _ (.inr rfl))
 | true=>exact wpAny_pyIter_ascii ha (fin _ (.inl rfl))
end
section
variable {X:Cx}
def AA:V->Option Int->Option Int->Hp->VK->Prop:=λx lo hi H Q=>∃z:Str,x=.str z/\z.length<=sizeLine/\Q (.str (Txt.slice z lo hi)) H
theorem fE:SlR X AA:=by
 intro pins s σ H x v vl vu lo hi sl Q I rx hs pl pu h;obtain⟨z,e,hz,q⟩:=h;subst e;obtain⟨t,e⟩:=rx;subst e;refine⟨"str", _,F.slot_str_getitem.lookup,typeIs_str _ _ _,?_⟩;have fin:∀(t':Tok) (k:Nat),EP X pins σ Q (.str (Txt.slice z lo hi) t') { s with toks:=k }:=λt' k=>⟨.str _,H,I.tok k,⟨t',rfl⟩,q⟩
 cases pl with
 | none =>
  cases pu with
  | none=>exact wpAny_getItem_str_slice (l:=none) (u:=none) (st:=none) hs rfl (post_val_or_str ⟨Q0 (Txt.slice_le z _ _) hz,fin⟩)
  | int j uj=>exact wpAny_getItem_str_slice (l:=none) (u:=some (j,uj)) (st:=none) hs rfl (post_val_or_str ⟨Q0 (Txt.slice_le z _ _) hz,fin⟩)
 | int i ui =>
 cases pu with
 | none=>exact wpAny_getItem_str_slice (l:=some (i,ui)) (u:=none) (st:=none) hs rfl (post_val_or_str ⟨Q0 (Txt.slice_le z _ _) hz,fin⟩)
 | int j uj=>exact wpAny_getItem_str_slice (l:=some (i,ui)) (u:=some (j,uj)) (st:=none) hs rfl (post_val_or_str ⟨Q0 (Txt.slice_le z _ _) hz,fin⟩)
theorem gi:∀{ys:List Str} {us:List Value},aY (ys.map V.str) us->StrsAre us ys
 | [],_,r=>by
  rw[List.map_nil]at r;cases r;exact .nil
 | y::ys,_,r=>by
  rw[QI]at r
  cases r with
  | cons r1 r2 =>
  obtain⟨t,e⟩:=r1;subst e;exact .cons y t (gi r2)
def AC (K:PySem.W.Frag):V->List V->Hp->VK->Prop:=λx vs H Q=>∃(z:Str) (l:Addr) (ys:List Str),x=.str z/\vs=[.ref l]/\SqL K H l (ys.map V.str)/\(ys.map (·.length)).sum+ys.length*z.length<=16777216/\Q (.str (Txt.join z ys)) H
theorem rP:MtR X "str.join" (AC X.K):=by
 intro pins s σ H x vs v us Q I rx rv h;obtain⟨z,l,ys,e1,e2,hl,hz,q⟩:=h;subst e1 e2;obtain⟨t,e⟩:=rx;subst e;obtain⟨u,e,ru⟩:=rv.one;subst e;cases ru;obtain⟨its,r,pl,_⟩:=I.list hl;exact join_list pl.isList (by simpa using gi r) hz λt' k=>⟨.str _,H,I.tok k,⟨t',rfl⟩,q⟩
theorem lR (ys:List Str):(Txt.join Str.empty ys).cps.toList=(ys.map (·.cps.toList)).flatten:=by
 unfold Txt.join;rw[PySem.StrLaws.glued_eq_join]
 induction ys with
 | nil=>rfl
 | cons y r ih =>
 cases r with
 | nil=>simp[Str.join]
 | cons y2 r2 =>
 show (y++Str.empty++Str.join Str.empty (y2::r2)).cps.toList=_;rw[QI,List.flatten_cons,<-ih];show (y.cps++Str.empty.cps++(Str.join Str.empty (y2::r2)).cps).toList=_;simp[Str.empty]
end
inductive EqD (K:PySem.W.Frag) (H:Hp):Nat->V->V->Bool->Prop
 | flat {n:Nat} {x y:V}:dw x=true->dw y=true->EqD K H n x y (eqV x y)
 | same {n:Nat} {a:Addr}:EqD K H n (.ref a) (.ref a) true
 | lists {n:Nat} {a b:Addr} {xs ys:List V} {e:Nat->Bool}:SqL K H a xs->SqL K H b ys->xs.length=ys.length->(∀(j:Nat) x y,xs[j]?=some x->ys[j]?=some y->EqD K H n x y (e j))->a≠b ->
   EqD K H (n+1) (.ref a) (.ref b) ((List.range xs.length).all e)
 | tups {n:Nat} {a b:Addr} {xs ys:List V} {e:Nat->Bool}:SqT K H a xs->SqT K H b ys->(∀(j:Nat) x y,xs[j]?=some x->ys[j]?=some y->EqD K H n x y (e j))->a≠b ->
   EqD K H (n+1) (.ref a) (.ref b) ((List.range (min xs.length ys.length)).all e&&xs.length==ys.length)
theorem EqD.at {X:Cx} {pins:List (Addr × Obj)} {σ:St} {H:Hp} {s:Shared} (I:Inv X pins σ H s) {n:Nat} {x y:V} {b:Bool} (h:EqD X.K H n x y b) :
  ∀{A:Around} {u v:Value},A.units+n<cLine->aS x u->aS y v->SeqAt.EqAt A s u v b:=by
 induction h with
 | flat fx fy=>intro A u v _ rx ry;exact v_ rx ry fx fy
 | same =>
  intro A u v _ rx ry;cases rx;cases ry;exact SeqAt.EqAt.same _
 | @lists n a c xs ys e ha hb hl hi hne ih =>
  intro A u v hu rx ry;cases rx;cases ry;obtain⟨its,r1,p1,_⟩:=I.list ha;obtain⟨its2,r2,p2,_⟩:=I.list hb;have l1:=r1.length;have l2:=r2.length;refine SeqAt.EqAt.of_refs hne ?_
  have q:=SeqAt.RcAt.lists (A:=A) (e:=e) p1.isList p2.isList (by rw[Ql,Ql];exact om7 hl l1 l2) (by exact om8 hu) λj h1 h2=>by
   rw[Ql]at h1 h2;have e1:xs[j]?=some xs[j]:=Qc (by exact om9 hl l1 l2 h1);have e2:ys[j]?=some ys[j]:=Qc (by exact El hl l1 l2 h1);obtain⟨w1,g1,rr1⟩:=r1.get e1;obtain⟨w2,g2,rr2⟩:=r2.get e2
   have g1':its.toArray[j]=w1:=by
    have:=(Qe.mp g1).2;simpa using this
   have g2':its2.toArray[j]=w2:=by
    have:=(Qe.mp g2).2;simpa using this
   rw[g1',g2'];exact ih j _ _ e1 e2 (by show A.units+1+n<cLine;exact C4 hu) rr1 rr2
  rw[Ql,<-l1]at q;exact q
 | @tups n a c xs ys e ha hb hi hne ih =>
 intro A u v hu rx ry;cases rx;cases ry;obtain⟨its,r1,p1,_⟩:=I.tuple ha;obtain⟨its2,r2,p2,_⟩:=I.tuple hb;have l1:=r1.length;have l2:=r2.length;refine SeqAt.EqAt.of_refs hne ?_
 have q:=SeqAt.RcAt.tuples (A:=A) (e:=e) (show s.heap.IsTuple a its.toArray from p1) (show s.heap.IsTuple c its2.toArray from p2) (by exact om8 hu) λj h1 h2=>by
  rw[Ql]at h1 h2;have e1:xs[j]?=some xs[j]:=Qc (by exact zO l1 h1);have e2:ys[j]?=some ys[j]:=Qc (by exact zO l2 h2);obtain⟨w1,g1,rr1⟩:=r1.get e1;obtain⟨w2,g2,rr2⟩:=r2.get e2
  have g1':its.toArray[j]=w1:=by
   have:=(Qe.mp g1).2;simpa using this
  have g2':its2.toArray[j]=w2:=by
   have:=(Qe.mp g2).2;simpa using this
  rw[g1',g2'];exact ih j _ _ e1 e2 (by show A.units+1+n<cLine;exact C4 hu) rr1 rr2
 rw[Ql,Ql,<-l1,<-l2]at q;exact q
section
variable {X:Cx}
theorem EqD.items {pins:List (Addr × Obj)} {σ:St} {H:Hp} {s:Shared} (I:Inv X pins σ H s) {n:Nat} {A:Around} (hu:A.units+1+n<cLine) {xs ys:List V} {its its2:List Value} (r1:aY xs its) (r2:aY ys its2) {e:Nat->Bool}
  (h:∀(j:Nat) x y,xs[j]?=some x->ys[j]?=some y->EqD X.K H n x y (e j)) (j:Nat) (h1:j<its.toArray.size) (h2:j<its2.toArray.size):SeqAt.EqAt A.in1 s its.toArray[j] its2.toArray[j] (e j):=by
 have l1:=r1.length;have l2:=r2.length;rw[Ql]at h1 h2;have e1:xs[j]?=some xs[j]:=Qc (by exact CM h1 l1);have e2:ys[j]?=some ys[j]:=Qc (by exact CM h2 l2);obtain⟨w1,g1,rr1⟩:=r1.get e1;obtain⟨w2,g2,rr2⟩:=r2.get e2
 have g1':its.toArray[j]=w1:=by
  have:=(Qe.mp g1).2;simpa using this
 have g2':its2.toArray[j]=w2:=by
  have:=(Qe.mp g2).2;simpa using this
 rw[g1',g2'];exact EqD.at I (h j _ _ e1 e2) (by show A.units+1+n<cLine;exact hu) rr1 rr2
def qm (K:PySem.W.Frag) (neg:Bool):R2:=λx y H Q=>∃a b xs ys e,x=.ref a/\y=.ref b/\SqL K H a xs/\SqL K H b ys/\(∀(j:Nat) x y,xs[j]?=some x->ys[j]?=some y->EqD K H 8 x y (e j)) /\
 Q (.bl (if neg then !(xs.length==ys.length&&(List.range xs.length).all e) else (xs.length==ys.length&&(List.range xs.length).all e))) H
def AF (K:PySem.W.Frag) (neg:Bool):R2:=λx y H Q=>∃a b xs ys e,x=.ref a/\y=.ref b/\SqT K H a xs/\SqT K H b ys/\(∀(j:Nat) x y,xs[j]?=some x->ys[j]?=some y->EqD K H 8 x y (e j)) /\
 Q (.bl (if neg then !((List.range (min xs.length ys.length)).all e&&xs.length==ys.length) else ((List.range (min xs.length ys.length)).all e&&xs.length==ys.length))) H
theorem jQ (hu:X.A.units+64<cLine):OpR X (compareOp .Eq) (qm X.K false):=by
 intro pins s σ H x y v u Q I rx ry h;obtain⟨a,b,xs,ys,e,e1,e2,ha,hb,hi,q⟩:=h;subst e1 e2;cases rx;cases ry;obtain⟨its,r1,p1,_⟩:=I.list ha;obtain⟨its2,r2,p2,_⟩:=I.list hb;have l1:=r1.length;have l2:=r2.length;by_cases hl:xs.length=ys.length
 ·refine SeqAt.eq_listAt (e:=e) p1.isList p2.isList (by rw[Ql,Ql];exact Cz l1 l2 hl) (by exact vg hu) (EqD.items I (by exact zN hu) r1 r2 hi) ⟨.bl _,H,I,rfl,?_⟩;rw[Ql,<-l1];have:(xs.length==ys.length)=true:=by simpa using hl
  rw[this]at q;exact q
 refine SeqAt.eq_list_lengthsAt p1.isList p2.isList (by rw[Ql,Ql,<-l1,<-l2];simpa using hl) (by exact vg hu) ⟨.bl _,H,I,rfl,?_⟩;have:(xs.length==ys.length)=false:=by simpa using hl
 rw[this]at q;exact q
theorem nj (hu:X.A.units+64<cLine):OpR X (compareOp .NotEq) (qm X.K true):=by
 intro pins s σ H x y v u Q I rx ry h;obtain⟨a,b,xs,ys,e,e1,e2,ha,hb,hi,q⟩:=h;subst e1 e2;cases rx;cases ry;obtain⟨its,r1,p1,_⟩:=I.list ha;obtain⟨its2,r2,p2,_⟩:=I.list hb;have l1:=r1.length;have l2:=r2.length;by_cases hl:xs.length=ys.length
 ·refine SeqAt.RcNeAt.lists (e:=e) p1.isList p2.isList (by rw[Ql,Ql];exact Cz l1 l2 hl) (by exact vg hu) (EqD.items I (by exact zN hu) r1 r2 hi) _ _ _ _ ⟨.bl _,H,I,rfl,?_⟩;rw[Ql,<-l1];have:(xs.length==ys.length)=true:=by simpa using hl
  rw[this]at q;exact q
 refine SeqAt.RcNeAt.lists_lengths p1.isList p2.isList (by rw[Ql,Ql,<-l1,<-l2];simpa using hl) (by exact vg hu) _ _ _ _ ⟨.bl _,H,I,rfl,?_⟩;have:(xs.length==ys.length)=false:=by simpa using hl
 rw[this]at q;exact q
theorem zu (hu:X.A.units+64<cLine):OpR X (compareOp .NotEq) (AF X.K true):=by
 intro pins s σ H x y v u Q I rx ry h;obtain⟨a,b,xs,ys,e,e1,e2,ha,hb,hi,q⟩:=h;subst e1 e2;cases rx;cases ry;obtain⟨its,r1,p1,_⟩:=I.tuple ha;obtain⟨its2,r2,p2,_⟩:=I.tuple hb;have l1:=r1.length;have l2:=r2.length;refine SeqAt.RcNeAt.tuples (e:=e) (show s.heap.IsTuple a its.toArray from p1) (show s.heap.IsTuple b its2.toArray from p2) (by exact vg hu) (EqD.items I (by exact zN hu) r1 r2 hi) _ _ _ _ ⟨.bl _,H,I,rfl,?_⟩;rw[Ql,Ql,<-l1,<-l2];exact q
end
section
variable {X:Cx}
theorem bB:eB X (.builtin "isinstance") (λxs H Q=>∃x T ty b,xs=[x,.ty T]/\TyOf X.K H x ty/\PySem.W.kitOne X.K ty (.type T)=some b/\Q (.bl b) H):=by
 intro pins s σ H xs us Q I r h;obtain⟨x,T,ty,b,e,t,k,q⟩:=h;subst e;obtain⟨u1,u2,e,r1,r2⟩:=rf r;subst e;cases r2;exact tW I r1 t k λtk=>⟨.bl b,H,I.tok tk,rfl,q⟩
theorem dh {K:PySem.W.Frag} (T:String):PySem.W.kitOne K (.type T) (.type T)=some true:=by
 unfold PySem.W.kitOne;rw[QF (by simp)]
theorem ug (bs:List Bool):(List.range bs.length).all (λi=>bs.getD i false)=bs.all id:=by
 rw[Bool.eq_iff_iff];simp only[QK,List.mem_range]
 constructor
 ·intro h x hx;obtain⟨i,hi,e⟩:=Qq.mp hx;have q:=h i hi;rw[QL,Qc hi,Option.getD_some,e]at q;exact q
 intro h i hi;rw[QL,Qc hi,Option.getD_some];exact h _ (Xq hi)
theorem fR (hc:X.calm=true):eB X (.builtin "all") (λxs H Q=>∃(l:Addr) (bs:List Bool),xs=[.ref l]/\SqL X.K H l (bs.map V.bl)/\Q (.bl (bs.all id)) H):=by
 intro pins s σ H xs us Q I r h;obtain⟨l,bs,e,hl,q⟩:=h;subst e;obtain⟨u,e,ru⟩:=eE r;subst e;cases ru;obtain⟨its,rv,pl,hz⟩:=I.list hl;have hlen:=rv.length;rw[Qa]at hlen
 have ne:l≠s.heap.objs.size:=by
  obtain⟨o,ho,_⟩:=pl.isList;exact Qz (Qm ho)
 refine call_all_walk (wpAny_pyIter_list pl.isList ?_);refine⟨s.heap.objs.size,_,_,_,_,_,(λi=>bs.getD i false),rfl,Walks.list (show X.A.in1.handled=none from I.ok.hd hc) s.heap.objs.size l ne its.toArray,⟨⟨_,Qp _ rfl,rfl,rfl⟩,pl.isList.push _⟩,?_,λh' tk hk=>?_⟩
 ·intro i v s' Q' E' hP hQ;have hP':its[i]?=some v:=by simpa using hP
  have hi:i<bs.length:=by
   have:=(Qe.mp hP').1;exact zO hlen this
  have e1:(bs.map V.bl)[i]?=some (.bl (bs.getD i false)):=by
   rw[Qh,Qc hi,QL,Qc hi];rfl
  obtain⟨u,hu,ru⟩:=rv.get e1;rw[hP']at hu;cases hu;cases ru;exact wpAny_truthy_bool hQ
 have hs:its.toArray.size=bs.length:=by rw[Ql];exact hlen.symm
 rw[hs,ug]
 exact⟨.bl _,H,I.kept λb o e=>hk b o (by
  have:=Qm e;simp only[QA]
  exact Qz this) (Qd _ e),rfl,q⟩
abbrev rl (K:PySem.W.Frag) (T:Addr) (D:List (Str × KTD.Dat)):Prop:=KTD.tabLook (KTD.datLooks λa=>K.lookup a) (λa=>K.lookup a) T D=true
theorem s_ {T:Addr} {D:List (Str × KTD.Dat)} (hT:rl X.K T D):OpR X (compareOp .In) (λx y H Q=>∃z,x=.str z/\y=.ref T/\Q (.bl (KTD.inKeys z D)) H):=by
 intro pins s σ H x y v u Q I rx ry h;obtain⟨z,e1,e2,q⟩:=h;subst e1 e2;obtain⟨t,e⟩:=rx;subst e;cases ry;exact KTD.in_text (h₀:=X.base) ⟨KTD.text_of_look (get:=λa=>X.K.lookup a) (λa o e=>I.mod.kin a o e) hT,I.bk⟩ ⟨.bl _,H,I.tok _,rfl,q⟩
theorem qr:OpR X (binaryOp .Mult) (λx y H Q=>∃z n,x=.str z/\y=.int n/\MulOk z n/\Q (.str (Txt.mul z n)) H):=by
 intro pins s σ H x y v u Q I rx ry h;obtain⟨z,n,e1,e2,hm,q⟩:=h;subst e1 e2;obtain⟨t,e⟩:=rx;subst e;obtain⟨t',e⟩:=ry;subst e;exact SB.mul hm λt' k=>⟨.str _,H,I.tok k,⟨t',rfl⟩,q⟩
theorem lr:eB X (.type "int") (λxs H Q=>∃z n,xs=[.str z]/\PySem.intText? z=some n/\z.length<=640/\Q (.int n) H):=by
 intro pins s σ H xs us Q I r h;obtain⟨z,n,e,h1,h2,q⟩:=h;subst e;obtain⟨u,e,ru⟩:=eE r;subst e;obtain⟨t,e⟩:=ru;subst e;exact PySem.W.KIN.call_text h1 h2 ⟨.int n,H,I.tok _,⟨_,rfl⟩,q⟩
end
theorem Inv.turned2 {X:Cx} {pins:List (Addr × Obj)} {σ:St} {H:Hp} {s:Shared} {h':Heap} {t':Nat} {o:HO} (I:Inv X pins σ H s) (k:∀b o,b≠e->b≠it->s.heap.get? b=some o->h'.get? b=some o)
  (f1:gF X pins H e) (f2:gF X pins H it) (hT:s.heap.objs.size<=T) (new:bt X.prog X.w (upd H T o) h' T o):Inv X pins σ (upd H T o) { s with heap:=h',toks:=t' }:=by
 have hn:H T=none:=I.hok.fresh hT;have nT:∀b u,s.heap.get? b=some u->b≠T:=λb u q=>Qz (QC (Qm q) hT);have n1:∀b u,H b=some u->b≠e:=λb u q z=>by rw[z,f1.1]at q;cases q
 have n2:∀b u,H b=some u->b≠it:=λb u q z=>by rw[z,f2.1]at q;cases q
 have kk:∀b u,b∉[e,it]->s.heap.get? b=some u->h'.get? b=some u:=λb u hc q=>k b u (λz=>hc (by simp[z])) (λz=>hc (by simp[z])) q
 refine I.step (g':=s.gens) (d':=s.drawn) (ch:=[e,it]) (λb hb=>?_) (λb u _ _ hc q _=>kk b u hc q) (λb u _ _ hc q _=>⟨u.slots,kk b u hc q⟩) (λb u _ q n=>by rw[ak (nT b u q)];exact n)
  (λb u hc q=>⟨u,kk b u hc q⟩) (λb xs q=>by rw[ak (aD q hn)];exact q) (λb u xs q=>by rw[ak (aD q hn)];exact q) (λb ps q=>⟨#[],by rw[ak (aD q hn),q];simp⟩) (λm hm=>?_) (λb u q=>?_) I.bare
 ·have z:b=e\/b=it:=by simpa using hb
  rcases z with z|z
  ·subst z;obtain⟨_,a2,_,a4,a5,a6⟩:=f1;exact⟨a4,a2,a5,a6⟩
  subst z;obtain⟨_,a2,_,a4,a5,a6⟩:=f2;exact⟨a4,a2,a5,a6⟩
 ·obtain⟨ob,es,ep,ho,r⟩:=hm;exact⟨ob,es,ep,k _ ob (XF f1.2.1) (XF f2.2.1) ho,r⟩
 by_cases hb:b=T
 ·subst hb;rw[ag]at q;cases q;exact new
 rw[ak hb]at q;refine(I.hok b u q).stay (λc v hc z=>k c v ?_ ?_ z) (λc z=>by rw[ak (aD z hn)];exact z) λc xs z=>by rw[ak (aD z hn)];exact z
 ·rcases hc with z|z
  ·rw[z];exact n1 b u q
  exact n1 c _ z
 rcases hc with z|z
 ·rw[z];exact n2 b u q
 exact n2 c _ z
noncomputable def Ite (K:PySem.W.Frag) (a:Addr):It :=
 ⟨λi H=>∃xs x,SqL K H a xs/\xs[i]?=some x,λi H x H'=>∃T v,H T=none/\x=.ref T/\H'=upd H T (.tup [.int (i:Nat),v])/\∀xs,SqL K H a xs->xs[i]?=some v,λi H=>∃xs,SqL K H a xs/\xs.length<=i⟩
theorem sL {elts:List Expr} {k:Nat} (a e it:Addr) (hne:e≠it) :
  Turn P w K (.Tuple elts k pos) (Ite K a) [e,it] e (λi h=>(∃old,IsEnum h e it (i:Nat) old)/\h.IsListIter it a i) where
 mem:=by simp
 obj:=λi h st b hb=>by
  obtain⟨⟨old,he⟩,o,ho,hc,hd⟩:=st;have z:b=e\/b=it:=by simpa using hb
  rcases z with z|z
  ·subst z
   exact⟨_,he,λv q=>by
    have q':Data.fields _=Data.cell v:=q
    cases q'⟩
  subst z;exact⟨o,ho,λv q=>by rw[hd]at q;cases q⟩
 keep:=λi h h' st kk=>by
  obtain⟨⟨old,he⟩,hl⟩:=st;exact⟨⟨old,kk e (by simp) _ he⟩,hl.at λo q=>kk it (by simp) o q⟩
 item:=by
  intro X hP hw hK hc i pins s σ H E I hf st hg;subst hP hw hK;obtain⟨xs,x,hq,hx⟩:=hg;obtain⟨its,rv,p,hz⟩:=I.list hq;obtain⟨u,hu,ru⟩:=rv.get hx;obtain⟨⟨old,he⟩,hl⟩:=st;have f1:=hf e (by simp);have f2:=hf it (by simp);refine wpAny_pyNext_enum_item he hl p.isList (x:=u) (by simpa using hu) hne λh1 a1 a2 a3 a4 a5=>⟨_,rfl,?_⟩;refine wpAny_letOwnedTupleGo_enum a1 λh2 b1 b2=>?_
  have nTe:s.heap.objs.size≠e:=λz=>by
   have q:=Qm (show s.heap.get? e=some _ from he);rw[<-z]at q;exact Nat.lt_irrefl _ q
  have keep2:∀b o,b≠e->b≠it->s.heap.get? b=some o->h2.get? b=some o:=λb o n1 n2 q=>b2.extBut b o n1 (a5 b o n1 n2 q);have tup2:h2.get? s.heap.objs.size=some { cls:=.type "tuple", data:=.seq #[.int i s.toks,u] }:=b2.extBut _ _ nTe a3
  have I2:Inv X pins σ (upd H s.heap.objs.size (.tup [.int (i:Nat),x])) { s with heap:=h2,toks:=s.toks+1 } :=
   I.turned2 keep2 f1 f2 (Qg _) ⟨(by show 2<=sizeLine;decide),[.int i s.toks,u],.cons ⟨_,rfl⟩ (.cons ru .nil),⟨_,tup2,rfl,_,rfl⟩⟩
  refine⟨.ref s.heap.objs.size,_,I2,rfl,⟨s.heap.objs.size,x,I.hok.fresh (Qg _),rfl,rfl,λys hy=>by rw[I.list_inj hy hq];exact hx⟩,⟨⟨u,?_⟩,(a2.extBut b2.extBut (XF hne))⟩,λb hb=>?_⟩
  ·have q:IsEnum h2 e it ((i:Int)+1) u:=b1;have c:(((i+1:Nat):Nat):Int)=(i:Int)+1:=by omega
   rw[c];exact q
  have z:b=e\/b=it:=by simpa using hb
  have nT:b≠s.heap.objs.size:=by
   rcases z with z|z
   ·rw[z];exact XF nTe
   rw[z];obtain⟨o,ho,_⟩:=hl;exact Qz (Qm ho)
  rw[ak nT];exact(hf b hb).1
 done:=by
  intro X hP hw hK hc i pins s σ H E I hf st hg;subst hP hw hK;obtain⟨xs,hq,hx⟩:=hg;obtain⟨its,rv,p,hz⟩:=I.list hq;obtain⟨⟨old,he⟩,hl⟩:=st;obtain⟨f0,f1,f2,f3,f4,f5⟩:=hf it (by simp);have hlen:=rv.length;exact wpAny_pyNext_enum_end (I.ok.hd hc) he hl p.isList (by simp;exact om4 hx hlen) λh' eb=>⟨rfl,I.turned (t':=s.toks) (λb o hb q=>eb b o hb q) f0 f1 f3 f4 f5⟩
 self:=λ_ _ _ _ _ st h=>by
  obtain⟨⟨old,he⟩,_⟩:=st;exact wpAny_pyIter_enum he h
section
variable {X:Cx} {elts:List Expr} {k:Nat} {tpos:Pos}
def Dh (K:PySem.W.Frag) (ta:TA):TI:=λσ H R=>ta σ H λvs H1=>∃a,vs=[.ref a]/\(∃xs,SqL K H1 a xs)/\R (Ite K a) H1
theorem rJ {a:Expr} {ta:TA} {p pos:Pos} (hg:Gl X "enumerate") (hm:X.mg "enumerate" = none) (ha:PA X [a] ta) (hs:starEach [a] X.env=[(false,eval a X.env)]:=by rfl):PI X (.Tuple elts k tpos) (.Call (.Name "enumerate" p) [a] [] pos) (Dh X.K ta):=by
 intro pins s σ H R I h;refine Call_ (dO I hg hm boot_enumerate (Xe (thn (ha pos pins s σ H _ I h) λus s1 ⟨vs,H1,I1,r1,q1⟩=>?_) hs rfl));obtain⟨l,e,⟨xs,hq⟩,q⟩:=q1;subst e
 cases r1 with
 | cons r rr =>
 cases rr;cases r;obtain⟨its,rv,pl,hz⟩:=I1.list hq;refine call_enumerate_list pl.isList λh' b1 b2 b3 b4=>?_;refine wpAny_pyIter_enum b1 ?_;have I2:Inv X pins σ H1 { s1 with heap:=h' }:=I1.kept (t':=s1.toks) b4;refine⟨s1.heap.objs.size+1,[s1.heap.objs.size+1,s1.heap.objs.size],_,_,H1,rfl,I2,sL l (s1.heap.objs.size+1) s1.heap.objs.size (by show @Ne Nat _ _;exact om5),⟨⟨_,b1⟩,b2⟩,λb hb=>?_,q⟩;have z:b=s1.heap.objs.size+1\/b=s1.heap.objs.size:=by simpa using hb
 have hle:s1.heap.objs.size<=b:=by
  rcases z with z|z
  ·rw[z];exact Nat.le_succ _
  rw[z];exact Qg _
 exact I1.fpOk hle (I1.hok.fresh hle)
end
theorem pC {xs:List V} {g:TG} {tb:TS} {D:Ends} {σ:St} {H:Hp} (Pv:Nat->St->Hp->Prop) (h0:Pv 0 σ H) (hl:∀i σ H,i<=xs.length->Pv i σ H->SqL K H a xs)
  (hs:∀i x σ H T,xs[i]?=some x->Pv i σ H->H T=none->g (.ref T) σ (upd H T (.tup [.int (i:Nat),x])) λσ2 H2=>tb { D with nx:=Pv (i+1),ct:=Pv (i+1),bk:=D.nx } σ2 H2) (hd:∀σ H,Pv xs.length σ H->D.nx σ H) :
  ∃W:Nat->Nat->St->Hp->Prop,(∃m,W 0 m σ H)/\∀i m σ H,W i m σ H ->
   ((Ite K a).stop i H/\D.nx σ H)\/((Ite K a).go i H/\∃N:St->Hp->Prop,(∀σ' H',N σ' H'->∃m',m'<m/\W (i+1) m' σ' H')/\∀x H',(Ite K a).yld i H x H'->g x σ H' λσ2 H2=>tb { D with nx:=N,ct:=N,bk:=D.nx } σ2 H2):=by
 refine⟨λi m σ H=>m=xs.length-i/\i<=xs.length/\Pv i σ H,⟨xs.length,by simp,QN _,h0⟩,?_⟩;rintro i m σ H ⟨rfl,hi,p⟩;have q:=hl i σ H hi p;by_cases hlt:i<xs.length
 ·refine .inr ⟨⟨xs,xs[i],q,by simp[hlt]⟩,Pv (i+1),λσ' H' p'=>⟨xs.length-(i+1),by exact om6 hlt,rfl,hlt,p'⟩,λx H' y=>?_⟩;obtain⟨T,v,hT,ex,eH,y⟩:=y;subst ex eH;exact hs i v σ H T (y xs q) p hT
 have e:i=xs.length:=by exact om0 hi hlt
 subst e;exact .inl ⟨⟨xs,q,Qg _⟩,hd σ H p⟩
structure Fn (P:Program) (w:World) (K:PySem.W.Frag) (mg:Str->Option Value) (base:Heap) (x:Str) (ps:List Str) (k:Nat) (sp:Sp):Prop where
 ex:∃f fd,FnOk P w K mg base CX0 k f fd ps sp/\mg x=some (.ref f)/\PySem.W.keepIn K (.ref f)=true/\hZ K fd ps []
section
variable {X:Cx}
theorem yi {x:Str} {ps:List Str} {k:Nat} {sp:Sp} {e:Expr} {es:List Expr} {t:TA} {p pos:Pos} (F:Fn X.prog X.w X.K X.mg X.base x ps k sp) (hr:Room k X.A) (hg:Gl X x) (ha:PA X (e::es) t)
  (hdb:(x==("__debug__" : Str))=false:=by decide) (he:starEach (e::es) X.env=(false,eval e X.env)::starEach es X.env:=by rfl) (hpl:(backTo pos (starEach es X.env)).any (·.1)=false:=by rfl) :
  PE X (.Call (.Name x p) (e::es) [] pos) (jl sp [] E0 t):=by
 obtain⟨f,fd,G,hm,hk,hb⟩:=F.ex;exact wV G hr hg hm hk hb .nil yj ha hdb he hpl
theorem aP {x:Str} {ps:List Str} {k j:Nat} {sp:Sp} {e:Expr} {es:List Expr} {t:TA} {p pos:Pos} (F:Fn X.prog X.w X.K X.mg X.base x ps k sp) (hr:Room j X.A) (ha:PA X (e::es) t) (hk:k<=j:=by first|decide|omega) (hg:Gl X x:=by rfl) (hdb:(x==("__debug__" : Str))=false:=by decide) (he:starEach (e::es) X.env=(false,eval e X.env)::starEach es X.env:=by rfl) (hpl:(backTo pos (starEach es X.env)).any (·.1)=false:=by rfl):PE X (.Call (.Name x p) (e::es) [] pos) (jl sp [] E0 t):=yi F (hr.mono hk) hg ha hdb he hpl
end
section
variable {σ:St} {H:Hp} {Q:VK} {K:PySem.W.Frag}
variable {v x y:V}
theorem ai {i:Nat} (h:σ[i]?=some (some v)) (q:Q v H):cX i σ H Q:=⟨v,h,q⟩
theorem i_c (q:Q v H):tC v σ H Q:=q
variable {ta tb te ti tl:TE}
theorem br {r:R2} (q:ta σ H λx H1=>tb σ H1 λy H2=>r x y H2 Q):tOp r ta tb σ H Q:=q
variable {i j:Int}
theorem i_rI0 {g:Int->Int->V} (q:Q (g i j) H):rI0 g (.int i) (.int j) H Q:=⟨i,j,rfl,rfl,q⟩
theorem i_rI {C:Int->Int->Prop} {g:Int->Int->V} (c:C i j) (q:Q (g i j) H):rI C g (.int i) (.int j) H Q:=⟨i,j,rfl,rfl,c,q⟩
theorem i_eq (h:wO x y=true) (q:Q (.bl (decide (x=y))) H):rEq x y H Q:=⟨h,q⟩
theorem i_ne (h:wO x y=true) (q:Q (.bl (!decide (x=y))) H):rNe x y H Q:=⟨h,q⟩
variable {R:Bool->Hp->Prop}
theorem bi {t:TE} (q:t σ H λx H'=>∃k,x=.bl k/\R k H'):xO t σ H R:=q
theorem i_tB {t:TE} (q:t σ H λx H'=>∃k,x=.bl k/\R k H'):tB t σ H R:=q
theorem i_and {t u:TT} (q:t σ H λc H1=>if c=true then u σ H1 R else R false H1):Ay t u σ H R:=q
theorem i_or {t u:TT} (q:t σ H λc H1=>if c=true then R true H1 else u σ H1 R):tOr t u σ H R:=q
theorem i_not {t:TT} (q:t σ H λc H1=>R (!c) H1):Ao t σ H R:=q
theorem i_andV (q:ta σ H λx H1=>∃c,x=.bl c/\if c=true then tb σ H1 Q else Q (.bl false) H1):xV ta tb σ H Q:=q
theorem i_orV (q:ta σ H λx H1=>∃c,x=.bl c/\if c=true then Q (.bl true) H1 else tb σ H1 Q):An ta tb σ H Q:=q
theorem i_notV (q:ta σ H λx H1=>∃c,x=.bl c/\Q (.bl (!c)) H1):xQ ta σ H Q:=q
theorem i_ifE {t:TT} (q:t σ H λc H1=>if c=true then ta σ H1 Q else tb σ H1 Q):tIf t ta tb σ H Q:=q
theorem aI {R:List V->Hp->Prop} (q:R [] H):ig σ H R:=q
variable {tr t:TA}
theorem aq {R:List V->Hp->Prop} (q:te σ H λx H1=>tr σ H1 λxs H2=>R (x::xs) H2):bY te tr σ H R:=q
theorem i_call {sp:Sp} {E:XK} (q:t σ H λvs H1=>sp vs H1 Q E):jl sp [] E t σ H Q:=by
 show t σ H λvs H1=>sp (vs++[]) H1 Q E;simpa only[XJ] using q
theorem dL {r:List V->Hp->VK->Prop} (q:t σ H λvs H1=>r vs H1 Q):tCB r t σ H Q:=q
theorem i_tup (q:t σ H λxs H1=>xs.length<=sizeLine/\∀p,H1 p=none->Q (.ref p) (upd H1 p (.tup xs))):wH t σ H Q:=q
theorem i_lst (q:t σ H λxs H1=>xs.length<=sizeLine/\∀p,H1 p=none->Q (.ref p) (upd H1 p (.lst xs))):wJ t σ H Q:=q
theorem i_bm {T:String} {r:V->List V->Hp->VK->Prop} {to:TE} (q:to σ H λx H1=>tyV K T x H1/\t σ H1 λxs H2=>r x xs H2 Q):tBM K T r to t σ H Q:=q
theorem i_sl {r:V->Option Int->Option Int->Hp->VK->Prop} {tl th:TO} (q:te σ H λx H1=>tl σ H1 λl H2=>th σ H2 λu H3=>r x l u H3 Q):tSl r te tl th σ H Q:=q
theorem i_nopart {R:Option Int->Hp->Prop} (q:R none H):rm σ H R:=q
theorem i_part {t:TE} {R:Option Int->Hp->Prop} (q:t σ H λx H1=>∃i,x=.int i/\R (some i) H1):xP t σ H R:=q
variable {xs:List V}
theorem a_ {p:Addr} {v:V} (h:SqL K H p xs) (e:atI xs i=some v) (q:Q v H):wP K (.ref p) (.int i) H Q:=⟨p,xs,i,v,rfl,rfl,h,e,q⟩
theorem i_ixT {p:Addr} (h:H p=some (.tup xs)) (e:atI xs i=some v) (q:Q v H):oN K (.ref p) (.int i) H Q:=⟨p,xs,i,v,rfl,rfl,SqT.of h,e,q⟩
theorem gd {z:Str} {c:Nat} (hz:z.length<=sizeLine) (e:atI z.cps.toList i=some c) (q:Q (.str ⟨#[c]⟩) H):AE (.str z) (.int i) H Q:=⟨z,i,c,rfl,rfl,hz,e,q⟩
variable {D:Ends}
theorem s_seq {t u:TS} (q:t { D with nx:=u D } σ H):wI t u D σ H:=q
theorem ce {g:TG} (q:te σ H λx H1=>g x σ H1 D.nx):sO te g D σ H:=q
theorem az {i:Nat} {R:St->Hp->Prop} (q:R (σ.set i (some v)) H):fz i v σ H R:=q
theorem s_drop (q:te σ H λ_ H1=>D.nx σ H1):xT te D σ H:=q
theorem ca {te:TE} (q:te σ H D.rt):Am te D σ H:=q
theorem s_next (q:D.nx σ H):xR D σ H:=q
theorem s_if {c:TT} {t u:TS} (q:c σ H λb H1=>if b=true then t D σ H1 else u D σ H1):Aq c t u D σ H:=q
theorem s_sub {to:TE} {t:xJ} {R:St->Hp->Prop} (q:to σ H λo H1=>ti σ H1 λi H2=>t o i v H2 λH3=>R σ H3):Di to ti t v σ H R:=q
theorem s_setL {p:Addr} {k:Int} {j:Nat} {R:Hp->Prop} (h:H p=some (.lst xs)) (e:ixN xs.length k=some j) (q:R (upd H p (.lst (xs.set j v)))):yb (.ref p) (.int k) v H R:=⟨p,xs,k,j,rfl,rfl,h,e,q⟩
theorem s_for {wi:TI} {g:TG} {tb:TS} (q:wi σ H λJ H1=>∃W:Nat->Nat->St->Hp->Prop,(∃m,W 0 m σ H1)/\∀i m σ H,W i m σ H ->
 (J.stop i H/\D.nx σ H)\/(J.go i H/\∃N:St->Hp->Prop,(∀σ' H',N σ' H'->∃m',m'<m/\W (i+1) m' σ' H')/\∀x H',J.yld i H x H'->g x σ H' λσ2 H2=>tb { D with nx:=N,ct:=N,bk:=D.nx } σ2 H2)):As wi g tb D σ H:=q
theorem s_rng1 {ta:TA} {R:It->Hp->Prop} (q:ta σ H λvs H1=>∃j:Int,vs=[.int j]/\-(2 ^ 62)<=j/\j<2 ^ 62/\R (Itr 0 j.toNat) H1):yP ta σ H R:=q
theorem s_list {R:It->Hp->Prop} (q:tl σ H λx H1=>∃a,x=.ref a/\(∃xs,SqL K H1 a xs)/\R (Itl K a) H1):pB K tl σ H R:=q
theorem s_str {R:It->Hp->Prop} (q:tl σ H λv H1=>∃z:Str,v=.str z/\R (Itf z.cps.size (fv z)) H1):Df tl σ H R:=q
theorem bS {wi:TI} {g:TG} {tt:TT} {f:St->St} (q:wi σ H λJ H1=>∀D,H1 D=none->∃W:Nat->Nat->Hp->List V->Prop,(∃m,W 0 m (upd H1 D (.lst [])) []) /\
 ∀i m H ys,W i m H ys->H D=some (.lst ys)/\((J.stop i H/\Q (.ref D) H)\/(J.go i H/\∀x H',J.yld i H x H'->g x (f σ) H' λσ2 H2=>wk (f σ) σ2/\tt σ2 H2 λb H3 =>
  if b=true then te σ2 H3 λv H4=>H4 D=some (.lst ys)/\ys.length<sizeLine/\∃m',m'<m/\W (i+1) m' (upd H4 D (.lst (ys++[v]))) (ys++[v])
  else ∃m',m'<m/\W (i+1) m' H3 ys))):lF wi g tt te f σ H Q:=q
end
def bV (Pv:Nat->Hp->List V->Prop) (n:Nat) (D:Addr) (i:Nat) (ys:List V):VK:=λv H4=>H4 D=some (.lst ys)/\ys.length<sizeLine/\∃m',m'<n-i/\(m'=n-(i+1)/\i+1<=n/\Pv (i+1) (upd H4 D (.lst (ys++[v]))) (ys++[v]))
theorem bV.mk {Pv:Nat->Hp->List V->Prop} {D:Addr} {ys:List V} {v:V} {H4:Hp} (hd:H4 D=some (.lst ys)) (hi:i<n) (hl:ys.length<sizeLine) (p:Pv (i+1) (upd H4 D (.lst (ys++[v]))) (ys++[v])):bV Pv n D i ys v H4 :=
 ⟨hd,hl,n-(i+1),by exact om6 hi,rfl,hi,p⟩
section
variable {K:PySem.W.Frag} {g:TG} {te:TE} {σ0:St} {QD:Hp->Prop} {H1:Hp} {D:Addr}
theorem gy {lo:Int} {n:Nat} (Pv:Nat->Hp->List V->Prop) (h0:Pv 0 (upd H1 D (.lst [])) []) (hD:∀i H ys,Pv i H ys->H D=some (.lst ys))
  (hs:∀i H ys,i<n->Pv i H ys->g (.int (lo+i)) σ0 H λσ2 H2=>wk σ0 σ2/\ie σ2 H2 λb H3=>if b=true then te σ2 H3 (bV Pv n D i ys) else ∃m',m'<n-i/\(m'=n-(i+1)/\i+1<=n/\Pv (i+1) H3 ys)) (hd:∀H ys,Pv n H ys->QD H) :
  ∃W:Nat->Nat->Hp->List V->Prop,(∃m,W 0 m (upd H1 D (.lst [])) [])/\∀i m H ys,W i m H ys->H D=some (.lst ys)/\(((Itr lo n).stop i H/\QD H)\/((Itr lo n).go i H/\∀x H',(Itr lo n).yld i H x H'->g x σ0 H' λσ2 H2=>wk σ0 σ2/\ie σ2 H2 λb H3 =>
   if b=true then te σ2 H3 λv H4=>H4 D=some (.lst ys)/\ys.length<sizeLine/\∃m',m'<m/\W (i+1) m' (upd H4 D (.lst (ys++[v]))) (ys++[v]) else ∃m',m'<m/\W (i+1) m' H3 ys)):=by
 refine⟨λi m H ys=>m=n-i/\i<=n/\Pv i H ys,⟨n,by simp,QN _,h0⟩,?_⟩;rintro i m H ys ⟨rfl,hi,p⟩;refine⟨hD i H ys p,?_⟩;by_cases hlt:i<n
 ·refine .inr ⟨hlt,λx H' y=>?_⟩;obtain⟨e,y⟩:=y;subst e y;exact hs i _ ys hlt p
 have e:i=n:=by exact om0 hi hlt
 subst e;exact .inl ⟨Qg _,hd H ys p⟩
theorem bU {a:Addr} {xs:List V} (Pv:Nat->Hp->List V->Prop) (h0:Pv 0 (upd H1 D (.lst [])) []) (hD:∀i H ys,Pv i H ys->H D=some (.lst ys)/\SqL K H a xs)
  (hs:∀i x H ys,xs[i]?=some x->Pv i H ys->g x σ0 H λσ2 H2=>wk σ0 σ2/\ie σ2 H2 λb H3=>if b=true then te σ2 H3 (bV Pv xs.length D i ys) else ∃m',m'<xs.length-i/\(m'=xs.length-(i+1)/\i+1<=xs.length/\Pv (i+1) H3 ys)) (hd:∀H ys,Pv xs.length H ys->QD H) :
  ∃W:Nat->Nat->Hp->List V->Prop,(∃m,W 0 m (upd H1 D (.lst [])) [])/\∀i m H ys,W i m H ys->H D=some (.lst ys)/\(((Itl K a).stop i H/\QD H)\/((Itl K a).go i H/\∀x H',(Itl K a).yld i H x H'->g x σ0 H' λσ2 H2=>wk σ0 σ2/\ie σ2 H2 λb H3 =>
   if b=true then te σ2 H3 λv H4=>H4 D=some (.lst ys)/\ys.length<sizeLine/\∃m',m'<m/\W (i+1) m' (upd H4 D (.lst (ys++[v]))) (ys++[v]) else ∃m',m'<m/\W (i+1) m' H3 ys)):=by
 refine⟨λi m H ys=>m=xs.length-i/\i<=xs.length/\Pv i H ys,⟨xs.length,by simp,QN _,h0⟩,?_⟩;rintro i m H ys ⟨rfl,hi,p⟩;obtain⟨d1,d2⟩:=hD i H ys p;refine⟨d1,?_⟩;by_cases hlt:i<xs.length
 ·refine .inr ⟨⟨xs,xs[i],d2,by simp[hlt]⟩,λx H' y=>?_⟩;obtain⟨e,y⟩:=y;subst e;exact hs i x _ ys (y xs d2) p
 have e:i=xs.length:=by exact om0 hi hlt
 subst e;exact .inl ⟨⟨xs,d2,Qg _⟩,hd H ys p⟩
theorem wj {n:Nat} {f:Nat->V} (Pv:Nat->Hp->List V->Prop) (h0:Pv 0 (upd H1 D (.lst [])) []) (hD:∀i H ys,Pv i H ys->H D=some (.lst ys))
  (hs:∀i H ys,i<n->Pv i H ys->g (f i) σ0 H λσ2 H2=>wk σ0 σ2/\ie σ2 H2 λb H3=>if b=true then te σ2 H3 (bV Pv n D i ys) else ∃m',m'<n-i/\(m'=n-(i+1)/\i+1<=n/\Pv (i+1) H3 ys)) (hd:∀H ys,Pv n H ys->QD H) :
  ∃W:Nat->Nat->Hp->List V->Prop,(∃m,W 0 m (upd H1 D (.lst [])) [])/\∀i m H ys,W i m H ys->H D=some (.lst ys)/\(((Itf n f).stop i H/\QD H)\/((Itf n f).go i H/\∀x H',(Itf n f).yld i H x H'->g x σ0 H' λσ2 H2=>wk σ0 σ2/\ie σ2 H2 λb H3 =>
   if b=true then te σ2 H3 λv H4=>H4 D=some (.lst ys)/\ys.length<sizeLine/\∃m',m'<m/\W (i+1) m' (upd H4 D (.lst (ys++[v]))) (ys++[v]) else ∃m',m'<m/\W (i+1) m' H3 ys)):=by
 refine⟨λi m H ys=>m=n-i/\i<=n/\Pv i H ys,⟨n,by simp,QN _,h0⟩,?_⟩;rintro i m H ys ⟨rfl,hi,p⟩;refine⟨hD i H ys p,?_⟩;by_cases hlt:i<n
 ·refine .inr ⟨hlt,λx H' y=>?_⟩;obtain⟨e,y⟩:=y;subst e y;exact hs i _ ys hlt p
 have e:i=n:=by exact om0 hi hlt
 subst e;exact .inl ⟨rfl,hd H ys p⟩
end
section
variable {H:Hp} {Q:VK} {K:PySem.W.Frag}
theorem iP {z:Str} {lo hi:Option Int} (h:z.length<=sizeLine) (q:Q (.str (Txt.slice z lo hi)) H):AA (.str z) lo hi H Q:=⟨z,rfl,h,q⟩
variable {xs zs:List V} {a p l b:Addr}
theorem lQ {lo hi:Option Int} (h:SqL K H a xs) (q:∀p,H p=none->Q (.ref p) (upd H p (.lst (fQ xs lo hi)))):AB K (.ref a) lo hi H Q:=⟨a,xs,rfl,h,q⟩
theorem Er {x:V} (h:SqL K H p xs) (fx:dw x=true) (fs:xs.all dw=true) (q:Q (.bl (inV x xs)) H):rIn K false x (.ref p) H Q:=⟨p,xs,rfl,.inl h,fx,fs,q⟩
theorem pA (h1:H l=some (.lst xs)) (h2:H b=some (.lst zs)) (hz:xs.length+zs.length<=sizeLine) (q:∀p,H p=none->Q (.ref p) (upd H p (.lst (xs++zs)))):zg (.ref l) (.ref b) H Q:=⟨l,b,xs,zs,rfl,rfl,h1,h2,hz,q⟩
theorem fw {y:V} (h:H l=some (.lst xs)) (hz:xs.length<sizeLine) (q:Q .non (upd H l (.lst (xs++[y])))):mY (.ref l) [y] H Q:=⟨l,xs,y,rfl,rfl,h,hz,q⟩
theorem i_tyL (h:H p=some (.lst xs)):tyV K "list" (.ref p) H:=.inl ⟨rfl,xs,SqL.of h⟩
theorem Dd {z:Str}:tyV K "str" (.str z) H:=rfl
end
theorem aj {H:Hp} {o:HO} (hp:H p=none):am H (upd H p o):=λb u e=>by rw[ak (aD e hp)];exact e
end L2
namespace L2
open PySem
section
variable {σ:St} {H:Hp} {D:Ends}
theorem s_seqT {t u:TS} (q:let D':Ends:={ D with nx:=u D };t D' σ H):wI t u D σ H:=q
theorem s_nameT {i:Nat} {v:V} {R:St->Hp->Prop} (q:let σ':St:=σ.set i (some v);R σ' H):fz i v σ H R:=q
end
variable {H:Hp}
theorem i_yes {σ:St} {R:Bool->Hp->Prop} (q:R true H):ie σ H R:=q
theorem i_dget {td ty:TE} {σ:St} {Q:VK} (q:td σ H λx H1=>ty σ H1 λy H2=>∃a v,x=.ref a/\cL H2 a y (some v)/\Q v H2):xU td ty σ H Q:=q
theorem i_un {r:V->Hp->VK->Prop} {ta:TE} {σ:St} {Q:VK} (q:ta σ H λx H1=>r x H1 Q):tUn r ta σ H Q:=q
theorem i_rU {g:Int->V} {i:Int} {Q:VK} (q:Q (g i) H):rU g (.int i) H Q:=⟨i,rfl,q⟩
end L2
namespace L2
open PySem PySem.Spec PyProof.Rows
def dQ (H:Hp) (c:Addr):Hp:=λb=>if b=c then none else H b
variable {c b f cell fa a T:Addr} {H:Hp}
theorem dD:dQ H c c=none:=QF rfl
theorem bE (h:b≠c):dQ H c b=H b:=QB h
theorem t_ {o:HO} (h:dQ H c b=some o):b≠c/\H b=some o:=by
 by_cases e:b=c
 ·subst e;rw[dD]at h;cases h
 rw[bE e]at h;exact⟨e,h⟩
def dN (o:Obj):HO:=.frz o (.ext λ_=>True)
section
variable {P:Program} {w:World} {H H1:Hp} {h h1:Heap} {c:Addr} {o:Obj} {fs ex:List Addr}
theorem sE {H:Hp} (e:h.get? c=some o):bt P w H h c (dN o):=⟨e,trivial,⟨o,e⟩,λ_ _ _ _=>trivial⟩
theorem HOk.drop (x:HOk P w H h) (hc:H c=some (dN o)):HOk P w (dQ H c) h:=λb u e=>by
 obtain⟨_,e⟩:=t_ e;refine(x b u e).stay (λ_ _ _ q=>q) (λd q=>?_) λd xs q=>?_
 ·rw[bE];exact q;intro z;subst z;rw[hc]at q;cases q
 rw[bE];exact q;intro z;subst z;rw[hc]at q;cases q
theorem HOk.take (x:HOk P w H h) (hc:H c=none) (e:h.get? c=some o):HOk P w (upd H c (dN o)) h:=λb u q=>by
 by_cases hb:b=c
 ·subst hb;rw[ag]at q;cases q;exact sE e
 rw[ak hb]at q;refine(x b u q).stay (λ_ _ _ r=>r) (λd r=>?_) λd xs r=>?_
 ·rw[ak (aD r hc)];exact r
 rw[ak (aD r hc)];exact r
theorem Un.back (u:Un fs ex (dQ H c) H1 h h1) (hc:H c=some (dN o)) (e:h.get? c=some o) (nf:c∉fs) (nx:c∉ex):Un fs ex H (upd H1 c (dN o)) h h1/\H1 c=none/\h1.get? c=some o:=by
 have h1c:=u.free c o e dD nx;have e1:=u.keep c o e dD nf nx;have ne:∀{b v},H b=some v->v≠dN o->b≠c:=λq n z=>by subst z;rw[hc]at q;cases q;exact n rfl
 have nn:∀{b},H b=none->b≠c:=λq z=>by subst z;rw[hc]at q;cases q
 refine⟨⟨λb ob q n hb hx=>?_,λb ob q n hb hx=>?_,λb ob q n hx=>?_,λb ob q hx=>u.there b ob q hx,λb xs q=>?_,λb ob v q=>?_,λb ps q=>?_⟩,h1c,e1⟩
 ·exact u.keep b ob q (by rw[bE (nn n)];exact n) hb hx
 ·exact u.slot b ob q (by rw[bE (nn n)];exact n) hb hx
 ·rw[ak (nn n)];exact u.free b ob q (by rw[bE (nn n)];exact n) hx
 ·have nb:=ne q (λz=>by cases z);rw[ak nb];exact u.tups b xs (by rw[bE nb];exact q)
 ·by_cases nb:b=c
  ·subst nb;rw[hc]at q;cases q;exact ag
  rw[ak nb];exact u.frzs b ob v (by rw[bE nb];exact q)
 have nb:=ne q (λz=>by cases z);rw[ak nb];exact u.tbls b ps (by rw[bE nb];exact q)
theorem Un.out (u:Un fs ex (upd H c (dN o)) H1 h h1) (k1:HOk P w H1 h1) (hc:H c=none) (e:h.get? c=some o) (nf:c∉fs):Un fs ex H (dQ H1 c) h h1/\HOk P w (dQ H1 c) h1/\H1 c=some (dN o):=by
 have h1c:=u.frzs c o _ ag;have e1:=(k1 c _ h1c).1;refine⟨⟨λb ob q n hb hx=>?_,λb ob q n hb hx=>?_,λb ob q n hx=>?_,λb ob q hx=>u.there b ob q hx,λb xs q=>?_,λb ob v q=>?_,λb ps q=>?_⟩,k1.drop h1c,h1c⟩
 ·by_cases nb:b=c
  ·subst nb;rw[e]at q;cases q;exact e1
  exact u.keep b ob q (by rw[ak nb];exact n) hb hx
 ·have nb:b≠c:=λz=>by subst z;exact nf hb
  exact u.slot b ob q (by rw[ak nb];exact n) hb hx
 ·by_cases nb:b=c
  ·subst nb;exact dD
  rw[bE nb];exact u.free b ob q (by rw[ak nb];exact n) hx
 ·have nb:=aD q hc;rw[bE nb];exact u.tups b xs (by rw[ak nb];exact q)
 ·have nb:=aD q hc;rw[bE nb];exact u.frzs b ob v (by rw[ak nb];exact q)
 have nb:=aD q hc;rw[bE nb];exact u.tbls b ps (by rw[ak nb];exact q)
end
structure Lm where
 qual:Str
 params:Arguments
 body:Expr
 scope:Scope
 pos:Pos
def iW (c:Addr) (qual:Str):HO:=.ext λh=>h.CodeRec (.ref c) qual
def iI (f:Addr) (l:Lm) (cl:List (Str × Addr)) (c:Addr):HO:=.ext λh=>∃pm ctv,h.get? f=some (PySem.W.kla_obj "<lambda>" l.qual l.params l.body l.scope cl pm c ctv)
variable {qual y z x n:Str} {h h1 base:Heap} {w:World} {P p q:Program}
theorem wo (r:h.CodeRec (.ref c) qual):bt P w H h c (iW c qual):=by
 obtain⟨d,oc,vs,t,e1,e2,r2⟩:=id r;cases e1;refine⟨r,⟨oc,e2⟩,λh1 h2 p k=>?_⟩;obtain⟨d,oc,vs,t,e1,e2,r2⟩:=p;cases e1;exact⟨_,oc,vs,t,rfl,k _ e2,r2⟩
variable {pm ctv u uy:Value} {cl:List (Str × Addr)}
theorem rW {l:Lm} (e:h.get? f=some (PySem.W.kla_obj "<lambda>" l.qual l.params l.body l.scope cl pm c ctv)):bt P w H h f (iI f l cl c) :=
 ⟨⟨pm,ctv,e⟩,⟨_,e⟩,λ_ _ ⟨pm,ctv,q⟩ k=>⟨pm,ctv,k _ q⟩⟩
def e_ (l:Lm) (c:Addr):Array Value:=#[rawInt l.pos.line,rawInt l.pos.col,.ref c]
def gE (T:Addr) (l:Lm) (H:Hp):Prop:=H T=some (.tbl #[])\/∃c,H T=some (.tbl (e_ l c))/\H c=some (iW c l.qual)
structure Made (T:Addr) (l:Lm) (cl:List (Str × Addr)) (H:Hp) (f c:Addr) (H':Hp):Prop where
 new:H f=none
 fn:H' f=some (iI f l cl c)
 code:H' c=some (iW c l.qual)
 tab:H' T=some (.tbl (e_ l c))
 old:∀b o,H b=some o->b≠T->H' b=some o
def gg (base:Heap) (mg:Str->Option Value):Prop:=∃bm ob,mg "__builtins__" = some (.ref bm)/\bm≠builtinsNs/\bm≠mainGlobals/\base.get? bm=some ob/\ob.cls=.type "module" /\ ob.dict=some builtinsNs/\ob.data=.plain
def Ap (T:Addr) (l:Lm) (cl:List (Str × Addr)):TE:=λ_ H Q=>gE T l H/\∀f c H',Made T l cl H f c H'->Q (.ref f) H'
section
variable {X:Cx}
theorem zk {params:Arguments} {body:Expr} {scope:Scope} {pos:Pos} {cc T:Addr} {cl:List (Str × Addr)} (hcode:X.env.code=.ref cc) (C:PySem.W.CodeHd X.base cc T) (B:gg X.base X.mg) (hcl:closureFor scope X.env=pure cl) (hdef:defaultsOf params X.env=([],[]):=by rfl) :
  PE X (.Lambda params body scope pos) (Ap T ⟨X.env.qual ++ "<lambda>", params,body,scope,pos⟩ cl):=by
 intro pins s σ H Q I h;obtain⟨tb,q⟩:=h;refine PySem.W.kla_eval hdef ?_;have hg:s.heap.Ns mainGlobals X.mg:=I.mod.glob.keeps I.bk;have hT:∃ps,H T=some (.tbl ps):=by rcases tb with e|⟨c,e,_⟩ <;> exact⟨_,e⟩
 obtain⟨ps0,hps0⟩:=hT
 have bne:∀{b ob},X.base.get? b=some ob->b≠T:=λe z=>by
  subst z;rw[(I.bs _ _ e).2]at hps0;cases hps0
 have hgP:mainGlobals≠T:=by
  obtain⟨o,es,ep,e,_⟩:=I.mod.glob;exact bne e
 obtain⟨bm,ob,b1,b2,b3,b4,b5,b6,b7⟩:=B;have hB:s.heap.BuiltinsAt X.mg T:=⟨bm,ob,b1,b2,b3,bne b4,I.bk _ _ b4,b5,b6,b7⟩;have CH:=C.keeps I.bk;rcases tb with e|⟨c,e,hc⟩
 ·have hP:s.heap.get? T=some (PySem.W.tabObj #[]):=I.hok T _ e;refine PySem.W.kla_makeFunction (mg:=X.mg) hcl I.ok.glob hg hcode CH hP trivial rfl hgP hB λc' ctv h' tk hx hge hlt hrec htb=>?_;have hsz:s.heap.objs.size<=h'.objs.size:=Xv (XA hge hlt);have nT:T<s.heap.objs.size:=Qm hP;let f:Addr:=h'.objs.size;have Hf:H f=none:=I.hok.fresh hsz;have Hc:H c'=none:=I.hok.fresh hge;have nfc:c'≠f:=Qz hlt;have nTf:T≠f:=Qz (QC nT hsz);have nTc:T≠c':=Qz (QC nT hge);let H':Hp:=upd (upd (upd H T (.tbl (e_ ⟨X.env.qual ++ "<lambda>", params,body,scope,pos⟩ c'))) c' (iW c' (X.env.qual ++ "<lambda>"))) f (iI f ⟨X.env.qual ++ "<lambda>", params,body,scope,pos⟩ cl c')
  have hH:∀b o,H b=some o->b≠T->H' b=some o:=λb o e n=>by
   show upd (upd (upd H T _) c' _) f _ b=_;rw[ak (aD e Hf),ak (aD e Hc),ak n];exact e
  have hHT:H' T=some (.tbl (e_ ⟨X.env.qual ++ "<lambda>", params,body,scope,pos⟩ c')):=by
   show upd (upd (upd H T _) c' _) f _ T=_;rw[ak nTf,ak nTc,ag]
  have hHc:H' c'=some (iW c' (X.env.qual ++ "<lambda>")):=by
   show upd (upd (upd H T _) c' _) f _ c'=_;rw[ak nfc,ag]
  have kx:∀b o,b≠T->s.heap.get? b=some o->(h'.push (PySem.W.kla_obj "<lambda>" (X.env.qual ++ "<lambda>") params body scope cl ((X.mg "__name__").getD .none) c' ctv)).get? b=some o:=λb o n e=>Qd _ (hx b o n e);have htb':h'.get? T=some (PySem.W.tabObj (e_ ⟨X.env.qual ++ "<lambda>", params,body,scope,pos⟩ c')):=by simpa[e_] using htb
  have ntb:∀{b u},H b=some u->(∀ps,u≠.tbl ps)->b≠T:=λr n z=>by
   subst z;rw[e]at r;cases r;exact n _ rfl
  have un:Un X.fs [] H H' s.heap (h'.push (PySem.W.kla_obj "<lambda>" (X.env.qual ++ "<lambda>") params body scope cl ((X.mg "__name__").getD .none) c' ctv)):=by
   have nn:∀{b},H b=none->b≠T:=λn z=>by subst z;rw[e]at n;cases n
   refine⟨λb o r n _ _=>kx b o (nn n) r,λb o r n _ _=>⟨o.slots,kx b o (nn n) r⟩,λb o r n _=>?_,λb o r _=>?_,λb xs r=>hH b _ r (ntb r λ_ z=>nomatch z),λb o v r=>hH b _ r (ntb r λ_ z=>nomatch z),λb ps r=>?_⟩
   ·have lb:b<s.heap.objs.size:=Qm r;show upd (upd (upd H T _) c' _) f _ b=none;rw[ak (Qz (QC lb hsz)),ak (Qz (QC lb hge)),ak (nn n)];exact n
   ·by_cases z:b=T
    ·subst z;exact⟨_,Qd _ htb'⟩
    exact⟨o,kx b o z r⟩
   by_cases z:b=T
   ·subst z;rw[e]at r;cases r;exact⟨e_ ⟨X.env.qual ++ "<lambda>", params,body,scope,pos⟩ c',by rw[hHT,Array.empty_append]⟩
   exact⟨#[],by rw[hH b _ r z];simp⟩
  have hok:HOk X.prog X.w H' (h'.push (PySem.W.kla_obj "<lambda>" (X.env.qual ++ "<lambda>") params body scope cl ((X.mg "__name__").getD .none) c' ctv)):=λb u qb=>by
   have qb:upd (upd (upd H T (.tbl (e_ ⟨X.env.qual ++ "<lambda>", params,body,scope,pos⟩ c'))) c' (iW c' (X.env.qual ++ "<lambda>"))) f (iI f ⟨X.env.qual ++ "<lambda>", params,body,scope,pos⟩ cl c') b=some u:=qb;by_cases z1:b=f
   ·subst z1;rw[ag]at qb;cases qb;exact rW (Qp _ rfl)
   rw[ak z1]at qb;by_cases z2:b=c'
   ·subst z2;rw[ag]at qb;cases qb;obtain⟨d,oc,vs,t,e1,e2,r2⟩:=hrec;exact wo ⟨d,oc,vs,t,e1,Qd _ e2,r2⟩
   rw[ak z2]at qb;by_cases z3:b=T
   ·subst z3;rw[ag]at qb;cases qb;exact Qd _ htb'
   rw[ak z3]at qb;refine(I.hok b u qb).stay (λd v hd r=>kx d v ?_ r) (λd r=>hH d _ r (ntb r λ_ z=>nomatch z)) λd xs r=>hH d _ r (ntb r λ_ z=>nomatch z);rcases hd with z|z
   ·rw[z];exact z3
   intro y;subst y;rw[e]at z;cases z
  refine⟨.ref f,H',I.un (t':=tk) un hok,rfl,q f c' H' ⟨Hf,ag,hHc,hHT,hH⟩⟩
 have hP:s.heap.get? T=some (PySem.W.tabObj (e_ ⟨X.env.qual ++ "<lambda>", params,body,scope,pos⟩ c)):=I.hok T _ e;refine PySem.W.kla_makeFunctionHit (mg:=X.mg) (cv:=.ref c) hcl I.ok.glob hg hcode CH hP trivial (by simp[e_,codeAmong,rawInt]) hB λctv h' tk hk hsz=>?_;let f:Addr:=h'.objs.size;have Hf:H f=none:=I.hok.fresh hsz;refine⟨.ref f,_,I.laid (t':=tk) (a:=f) (o:=iI f ⟨X.env.qual ++ "<lambda>", params,body,scope,pos⟩ cl c) (λb o e=>Qd _ (hk b o e)) hsz (rW (Qp _ rfl)),rfl,q f c _ ⟨Hf,ag,?_,?_,λb o e _=>?_⟩⟩
 ·rw[ak (aD hc Hf)];exact hc
 ·rw[ak (aD e Hf)];exact e
 rw[ak (aD e Hf)];exact e
end
structure LmScope (x y:Str) (sc:Scope):Prop where
 kind:sc.kind=.function
 co:sc.isCoroutine=false
 gen:sc.isGenerator=false
 par:sc.names.lookup x=some .local
 fre:sc.names.lookup y=some .free
 ne:x≠y
 nocell:∀z∈sc.names,z.2≠.cell
 only:∀z,sc.names.lookup z=some .free->z=y
noncomputable def sq (P:Program) (w:World) (K:PySem.W.Frag) (mg:Str->Option Value) (base:Heap) (x y:Str) (l:Lm) (f c cell:Addr) (A:Around) (outer:List Env) (s:Shared) (H:Hp) (E:XK):Cx where
 prog:=P
 w:=w
 K:=K
 mg:=mg
 base:=base
 A:=A.deeper (PySem.W.envX l.qual l.scope s.heap.objs.size f (.ref c) [(y,cell)])
 N:=[x,y]
 s₀:=s
 H₀:=H
 env:=PySem.W.envX l.qual l.scope s.heap.objs.size f (.ref c) [(y,cell)]
 outer:=outer
 stack:=PySem.W.envX l.qual l.scope s.heap.objs.size f (.ref c) [(y,cell)]::outer
 ex:=[]
 calm:=true
 fn:=λ_=>false
 pn:=[]
 xe:=λe s'=>wpAny (model P w) (A.deeper (PySem.W.envX l.qual l.scope s.heap.objs.size f (.ref c) [(y,cell)])) (leaving (PySem.W.envX l.qual l.scope s.heap.objs.size f (.ref c) [(y,cell)]) e) (λ_ s''=>CX0 outer H s E e s'') (λe' s''=>CX0 outer H s E e' s'') s'
theorem lk1 (h:[(y,cell)].lookup z=some c):z=y/\c=cell:=by
 rw[Q8]at h;by_cases e:(z==y)=true
 ·rw[e]at h;cases h;exact⟨eq_of_beq e,rfl⟩
 have e:(z==y)=false:=by simpa using e
 rw[e]at h;cases h
theorem pd:[(y,cell)].lookup y=some cell:=by
 rw[Q8,beq_self_eq_true]
variable {s s₁:Shared} {mg mb:Str->Option Value} {K:PySem.W.Frag}
theorem xu {l:Lm} {f c:Addr} {A:Around} {outer:List Env} {E:XK} {vx vy:V} {tk:Nat}
  (S:LmScope x y l.scope) (hd:A.handled=none) (e0:Env0 P w K mg base A outer s H) (rx:aS vx u) (ry:aS vy uy) (hc:s.heap.IsCell cell (some uy)) (hH:H cell=none)
  (hns:h1.Ns s.heap.objs.size (λz=>[(x,u)].reverse.lookup z)) (hk:∀b o,s.heap.get? b=some o->h1.get? b=some o) :
  Inv (sq P w K mg base x y l f c cell A outer s H E) [] [some vx,some vy] H { s with heap:=h1,toks:=tk }:=by
 have noA:∀b:Addr,b∉(sq P w K mg base x y l f c cell A outer s H E).ex:=λb z=>absurd (show b∈([]:List Addr) from z) (by simp);have hc1:h1.IsCell cell (some uy):=by obtain⟨o,e1,e2⟩:=hc;exact⟨o,hk _ _ e1,e2⟩
 refine⟨⟨e0.mod,S.kind,rfl,rfl,Qg _,λy' z c h1 h2=>(lk1 h1).1.trans (lk1 h2).1.symm,λz hz=>?_,(λy c h _=>nomatch h),λ_=>hd,Around.frames_deeper e0.frames,.inr ⟨rfl,rfl⟩,λb z=>absurd z (noA b),e0.bs,e0.bsz,λb _ _=>noA b,λb z=>absurd z (noA b),e0.funs,e0.frf⟩,
  rfl,e0.bare,Un.kept hk,⟨_,hns,λi z v h1 h2 h3=>?_⟩,λz c h=>?_,e0.hok.fresh (Qg _),λz c h=>?_,λp hp=>absurd (show p∈([]:List (Addr × Obj)) from hp) (by simp),e0.hok.kept hk,rfl⟩
 ·have hz:l.scope.names.lookup z=some .cell\/l.scope.names.lookup z=some .free:=hz;rcases hz with hz|hz
  ·exact absurd rfl (S.nocell _ (PySem.mem_of_lookup hz))
  rw[S.only z hz];exact⟨cell,pd⟩
 ·match i with
  | 0 =>
   cases h1;cases h2;refine⟨u,rx,.inl ⟨S.par,?_⟩⟩;show [(x,u)].reverse.lookup x=some u;simp[List.lookup]
  | 1 =>
   cases h1;cases h2;exact⟨uy,ry,.inr ⟨.inr S.fre,cell,pd,hc1⟩⟩
  | i+2 =>
   exact absurd h1 (by show ([x,y]:List Str)[i+2]?≠some z;simp)
 ·rw[(lk1 h).2];exact⟨_,hc1⟩
 rw[(lk1 h).2];exact hH
theorem xq {l:Lm} {A:Around} {outer:List Env} {Q:VK} {E:XK} {vx vy:V} {k:Nat} {t:TE} {args:Args}
  (S:LmScope x y l.scope) (hr:Room (k+1) A) (e0:Env0 P w K mg base A outer s H) (rx:aS vx u) (ry:aS vy uy) (hc:s.heap.IsCell cell (some uy)) (hH:H cell=none)
  (hf:s.heap.get? f=some (PySem.W.kla_obj "<lambda>" l.qual l.params l.body l.scope [(y,cell)] pm c ctv)) (hcd:s.heap.CodeRec (.ref c) l.qual) (hb:bindArgs (PySem.W.kla_fn "<lambda>" l.qual l.params l.body l.scope [(y,cell)] pm (.ref c) ctv) args=pure [(x,u)])
  (body:Room k (A.deeper (PySem.W.envX l.qual l.scope s.heap.objs.size f (.ref c) [(y,cell)]))->PE (sq P w K mg base x y l f c cell A outer s H E) l.body t) (q:t [some vx,some vy] H Q):codeAny (model P w) A (.call (.ref f) args) (CR CX0 outer P w H s Q E) s:=by
 have lim:s.heap.NoLimit:=e0.mod.nolimit.keeps λb o e=>(e0.bs b o e).1;refine PySem.W.kla_callFunE hr.depth hf rfl S.co S.gen rfl hcd ?_;rw[hb];refine Qf (wpAny_newFunctionEnv S.nocell (λz hz=>by rw[QA.mp hz];exact S.par) (λh1 hns hsb=>?_) S.kind);have hk1:∀b o,s.heap.get? b=some o->h1.get? b=some o:=λb o e=>hsb.extBut b o (Qz (Qm e)) (Qd _ e);refine⟨lim.keeps hk1,?_⟩;show codeAny _ _ (.expr l.body (PySem.W.envX l.qual l.scope s.heap.objs.size f (.ref c) [(y,cell)])) _ _;have I:=xu (f:=f) (c:=c) (E:=E) (tk:=s.toks+[(x,u)].length) S hr.hd e0 rx ry hc hH hns hk1;refine PySem.W.kla_codeExpr (Xm (body (hr.deeper _) [] _ _ H Q I q) (λv s' hs=>?_) λe s' hs=>hs);obtain⟨v',H',J,rv,qv⟩:=hs;exact⟨v',H',J.os,J.bare,J.base,J.hok,rv,qv⟩
def Calls (P:Program) (w:World) (K:PySem.W.Frag) (mg:Str->Option Value) (base:Heap) (k:Nat) (f:Addr) (r:V->Hp->VK->Prop):Prop :=
 ∀(X:Cx),X.prog=P->X.w=w->X.K=K->X.mg=mg->X.base=base->kR CX0 X E0->Room k X.A->∀pins s σ H vx u (Q:VK),Inv X pins σ H s->aS vx u->r vx H Q->wpAny (model X.prog X.w) X.A (call (.ref f) [u]) (EP X pins σ Q) X.xe s
def uw (P:Program) (w:World) (K:PySem.W.Frag) (mg:Str->Option Value) (base:Heap) (k i:Nat) (te:TE):TE:=λσ H Q=>∃f l cl c r,σ[i]?=some (some (.ref f))/\Calls P w K mg base k f r/\H f=some (iI f l cl c)/\te σ H λv H1=>H1 f=some (iI f l cl c)/\r v H1 Q
variable {pins:List (Addr × Obj)} {X:Cx}
theorem pD {σ:St} {l:Lm} (I:Inv X pins σ H s) (h:H f=some (iI f l cl c)):PySem.W.FnAt f s.heap:=by
 obtain⟨pm,ctv,e⟩:=(I.hok f _ h).1;exact⟨_,_,_,_,e⟩
theorem uW {k i:Nat} {e:Expr} {te:TE} {p pos:Pos} (hr:Room k X.A) (hx:kR CX0 X E0) (hn:PE X (.Name n p) (cX i)) (he:PE X e te) (hs:starEach [e] X.env=[(false,eval e X.env)]:=by rfl) (hs0:starEach ([]:List Expr) X.env=[]:=by rfl) (hpl:(backTo pos (starEach [] X.env)).any (·.1)=false:=by rfl) :
  PE X (.Call (.Name n p) [e] [] pos) (uw X.prog X.w X.K X.mg X.base k i te):=by
 intro pins s σ H Q I h;obtain⟨f,l,cl,c,r,hi,C,hf,h⟩:=h;refine wpAny_Call_Name_kw (thn (hn pins s σ H (λv H1=>v=.ref f/\H1=H) I ⟨_,hi,rfl,rfl⟩) λu s1 ⟨v,H1,I1,ru,ev,eh⟩=>?_);subst ev eh;obtain rfl:u=Value.ref f:=ru;refine PySem.W.callWith_F (pD I1 hf) ?_ (by rw[hs,hs0]) hpl;rw[hs];refine Calls.spliced_cons (thn (he pins s1 σ H1 _ I1 h) λiv s2 ⟨v,H2,I2,rv,hf2,q⟩=>?_);refine Calls.spliced_nil ⟨pD I2 hf2,?_⟩;exact C X rfl rfl rfl rfl rfl hx hr pins s2 σ H2 v iv Q I2 rv q
theorem Inv.cellAt {σ:St} {i:Nat} {vy:V} (I:Inv X pins σ H s) (hN:X.N[i]?=some y) (hi:σ[i]?=some (some vy)) (hk:X.env.kindOf y=some .cell) (hv:Vis X.env.scope y) (hl:X.env.cells.lookup y=some cell) :
  ∃o uy,s.heap.get? cell=some o/\o.data=.cell (some uy)/\aS vy uy/\H cell=none:=by
 obtain⟨m,_,loc⟩:=I.loc;obtain⟨u,ru,lk⟩:=loc i y vy hN hi hv;rcases lk with⟨k,_⟩|⟨_,c,e,o,e1,e2⟩
 ·rw[hk]at k;cases k
 rw[hl]at e;cases e;exact⟨o,u,e1,e2,ru,I.freeC y cell hl⟩
theorem Inv.cellOut {σ:St} (I:Inv X pins σ H s) (hf:X.fn y=true) (hl:X.env.cells.lookup y=some cell):cell∉frs X.stack:=λz=>by
 have ab:=I.ok.cab y cell hf hl
 have no:cell∉frs X.outer:=λz=>by
  obtain⟨_,o,ho,_⟩:=I.ok.funs.mem z;exact absurd (Qm ho) (Nat.not_lt.mpr ab)
 rcases I.ok.stk with e|⟨e,fr⟩
 ·rw[e]at z;exact no z
 rw[e]at z;unfold frs at z;rw[List.filterMap_cons,fr]at z;rcases QV.mp z with z|z
 ·exact I.cne y cell hl z
 exact no z
def yY (sp:Sp) (i:Nat) (cell:Addr) (t:TA):TE:=λσ H Q=>t σ H λvs H1=>∃vy,σ[i]?=some (some vy)/\∀o uy,o.data=.cell (some uy)->aS vy uy->H1 cell=none->sp vs (upd H1 cell (dN o)) (λv H2=>Q v (dQ H2 cell)) E0
variable {ps loose:List Str}
theorem zm {k i:Nat} {sp:Sp} {e:Expr} {es:List Expr} {t:TA} {p pos:Pos} (F:Fn X.prog X.w X.K X.mg X.base x ps k sp) (hr:Room k X.A) (hg:Gl X x) (ha:PA X (e::es) t)
  (hN:X.N[i]?=some y) (hky:X.env.kindOf y=some .cell) (hv:Vis X.env.scope y) (hl:X.env.cells.lookup y=some cell) (hfn:X.fn y=true)
  (hdb:(x==("__debug__" : Str))=false:=by decide) (he:starEach (e::es) X.env=(false,eval e X.env)::starEach es X.env:=by rfl) (hpl:(backTo pos (starEach es X.env)).any (·.1)=false:=by rfl) :
  PE X (.Call (.Name x p) (e::es) [] pos) (yY sp i cell t):=by
 obtain⟨f,fd,G,hm,hk,hb⟩:=F.ex;intro pins s σ H Q I h;refine wpAny_Call_Name_kw (nv I hg hm ?_ hdb);refine PySem.W.callWith_K (h₀:=X.base) I.ok.mod.kin hk (thn (ha pos pins s σ H _ I h) λus s1 ⟨vs,H1,I1,r,q⟩=>⟨I1.kIn,?_⟩) he hpl;obtain⟨vy,hi,q⟩:=q;obtain⟨o,uy,e1,e2,ry,hn⟩:=I1.cellAt hN hi hky hv hl;have nf:=I1.cellOut hfn hl;have ab:=I1.ok.cab y cell hfn hl;have e0:=I1.env0
 have e0':Env0 X.prog X.w X.K X.mg X.base X.A X.stack s1 (upd H1 cell (dN o)):=⟨e0.frames,e0.mod,λb ob e=>⟨(e0.bs b ob e).1,by
  rw[ak]
  ·exact(e0.bs b ob e).2
  ·intro z;have:=Qm (I1.ok.bs b ob e).1;rw[z]at this
   exact absurd this (Nat.not_lt.mpr ab)⟩,e0.bsz,e0.funs,λb hb=>by
  rw[ak]
  ·exact e0.frf b hb
  intro z;rw[z]at hb;exact nf hb,e0.hok.take hn e1,e0.bare⟩
 have hl2:us.length=ps.length:=by rw[<-r.length];exact G.len _ _ _ _ (q o uy e2 ry hn)
 refine wpAny_call (codeAny_mono (G.run X.A X.stack s1 _ ⟨us,[]⟩ us vs _ E0 hr e0' (by have:=hb s1 us I1.kIn (by rw[XJ];exact hl2);rwa [XJ]at this) r (q o uy e2 ry hn)) λrr s' hq=>?_)
 cases rr with
 | error e=>exact False.elim hq
 | ok fl =>
 cases fl with
 | ret u =>
  obtain⟨v,H',os,bare,un,hok,rv,qv⟩:=hq;obtain⟨un',hok',_⟩:=un.out hok hn e1 nf;exact I1.after ⟨v,_,os,bare,un',hok',rv,qv⟩
 | next=>exact False.elim hq
 | brk=>exact False.elim hq
 | cont=>exact False.elim hq
structure FunC (K:PySem.W.Frag) (x qual:Str) (st:Stmt) (f:Addr) (fd:FuncData) (c:Addr):Prop where
 ex:∃oc od kV doc pm an ct osl,fd=PySem.W.fnOf x qual (dR st) (cQ st) (aA st) .none kV doc pm an (.ref c) ct/\K.lookup f=some ⟨oc,od,.func (PySem.W.fnOf x qual (dR st) (cQ st) (aA st) .none kV doc pm an (.ref c) ct),osl⟩/\PySem.W.codeIn K (.ref c) qual=true
section
variable {P:Program} {w:World} {K:PySem.W.Frag} {mg:Str->Option Value} {base:Heap}
theorem FunC.ok {x qual:Str} {st:Stmt} {f c:Addr} {fd:FuncData} {N ps:List Str} {k:Nat} {sp:Sp} (F:FunC K x qual st f fd c) (S:FnScope N ps (aA st)) (len:∀vs H Q E,sp vs H Q E->vs.length=ps.length)
  (hbody:∀(A:Around) (outer:List Env) (s:Shared) (H:Hp) (vs:List V) (Q:VK) (E:XK),Room k (A.deeper (envOfC qual (aA st) s.heap.objs.size f (.ref c)))->sp vs H Q E ->
   ∃t,PSs (cxOf CX0 P w K mg base N qual (aA st) f (.ref c) A outer s H E).nox (cQ st) t/\t { nx:=λ_ H'=>Q .non H',rt:=Q } (start N vs) H):FnOk P w K mg base CX0 (k+1) f fd ps sp:=by
 obtain⟨oc,od,kV,doc,pm,an,ct,osl,rfl,lk,hcd⟩:=F.ex;refine yQ lk hcd S len λA outer s H vs Q E hr hsp=>?_;obtain⟨t,h,q⟩:=hbody A outer s H vs Q E hr hsp;exact⟨t,h.nox,q⟩
end
structure OnlyT (tabs:List (Addr × Addr)) (H:Hp):Prop where
 tab:∀q∈tabs,H q.2=some (.tbl #[])
 other:∀b,b∉tabs.map (·.2)->H b=none\/∃o xs,H b=some (.frz o (.lst xs))
theorem tP {CX:CXT} {k:Nat} {fd:FuncData} {sp:Sp} {vs:List Value} {ns:List Int} {tabs:List (Addr × Addr)}
  (KX:K.In s₁.heap) (hns:s₁.heap.Ns mainGlobals mg) (hb:s₁.heap.Ns builtinsNs mb) (hbb:∀x:Str,x ≠ "__name__" -> mb x=bootBuiltins x) (hlim:s₁.heap.NoLimit) (hg:s₁.gens=#[])
  (hbm:gg s₁.heap mg) (hT:PySem.W.TabsAt tabs s₁.heap) (hTK:∀q∈tabs,K.lookup q.2=none)
  (ha:s₁.heap.get? a=some { cls:=.type "list", data:=.seq vs.toArray }) (hi:IntsAre vs ns) (hl:ns.length<=sizeLine) (hr:Room k callerA)
  (F:∀base:Heap,K.In base->base.Ns mainGlobals mg->gg base mg->FnOk P w K mg base CX k fa fd [x] sp) (hbind:∀(s:Shared) (u:Value),BindsTo s fd ⟨[u],[]⟩ [(x,u)])
  (hsp:∀H:Hp,OnlyT tabs H->SqL K H a (ns.map V.int)->sp [.ref a] H (λv _=>v=.bl true) λ_ _ _=>False)
  (hCX:∀H e s',CX [] H s₁ (λ_ _ _=>False) e s'->False) :
  codeAny (model P w) callerA (.call (.ref fa) ⟨[.ref a],[]⟩) (λr s'=>r=.ok (.ret (.bool true))/\OldK s₁.heap s'.heap/\s'.os=s₁.os/\AllBare s'.gens) s₁:=by
 have rv:=lD hi;have lenV:=hi.length
 have naT:a∉tabs.map (·.2):=λq=>by
  obtain⟨r,hr,e⟩:=Qk.mp q;have e2:=(hT r hr).2;rw[e,ha]at e2;cases e2
 have core:∀H:Hp,OnlyT tabs H->SqL K H a (ns.map V.int)->HOk P w H s₁.heap->(∀b,H b≠none->b=a\/b∈tabs.map (·.2))->(H a≠none->K.lookup a=none) ->
   codeAny (model P w) callerA (.call (.ref fa) ⟨[.ref a],[]⟩) (λr s'=>r=.ok (.ret (.bool true))/\OldK s₁.heap s'.heap/\s'.os=s₁.os/\AllBare s'.gens) s₁:=by
  intro H hO hS hok hA hK;have base_of:∀{b:Addr} {o:Obj},s₁.heap.get? b=some o->H b=none->(lh s₁.heap H).get? b=some o:=λe n=>vV e n
  have noA:∀{b:Addr} {o:Obj},s₁.heap.get? b=some o->(∀ps n,o.data≠.seq ps n)->(∀ps,o.data≠.fields ps)->H b=none:=λ{b o} e d1 d2=>by
   cases q:H b with
   | none=>rfl
   | some u =>
   rcases hA b (by rw[q];simp) with e'|e'
   ·subst e';rw[ha]at e;cases e;exact absurd rfl (d1 _ _)
   obtain⟨r,hr,er⟩:=Qk.mp e';have e2:=(hT r hr).2;rw[er,e]at e2;cases e2;exact absurd rfl (d2 _)
  have nsK:∀{b:Addr} {m:Str->Option Value},s₁.heap.Ns b m->(lh s₁.heap H).Ns b m:=λ{b m} ⟨o,es,ep,e,d,r⟩=>⟨o,es,ep,base_of e (noA e (λ_ _ z=>by rw[d]at z;cases z) (λ_ z=>by rw[d]at z;cases z)),d,r⟩
  have hKb:K.In (lh s₁.heap H):=λb o e=>base_of (KX b o e) (by
   cases q:H b with
   | none=>rfl
   | some u =>
   rcases hA b (by rw[q];simp) with e'|e'
   ·subst e';rw[hK (by rw[q];simp)]at e;cases e
   obtain⟨r,hr,er⟩:=Qk.mp e';have e2:=hTK r hr;rw[er,e]at e2
   cases e2)
  have hM:Mod K mg (lh s₁.heap H):=⟨hKb,nsK hns,⟨mb,nsK hb,hbb⟩,let ⟨mc,h1,h2⟩:=hlim;⟨mc,nsK h1,h2⟩⟩
  have hB:gg (lh s₁.heap H) mg:=by
   obtain⟨bm,ob,b1,b2,b3,b4,b5,b6,b7⟩:=hbm;exact⟨bm,ob,b1,b2,b3,base_of b4 (noA b4 (λ_ _ z=>by rw[b7]at z;cases z) (λ_ z=>by rw[b7]at z;cases z)),b5,b6,b7⟩
  have e0:Env0 P w K mg (lh s₁.heap H) callerA [] s₁ H:=⟨rfl,hM,λb o e=>xn e,Nat.le_of_eq (tZ _ _),trivial,λb hb=>absurd (show b∈([]:List Addr) from hb) (by simp),hok,.of_eq hg⟩;refine codeAny_mono ((F _ hKb (nsK hns) hB).run callerA [] s₁ H ⟨[.ref a],[]⟩ [.ref a] [.ref a] _ _ hr e0 (hbind s₁ (.ref a)) (.cons rfl .nil) (hsp H hO hS)) λr s' h=>?_
  cases r with
  | error e=>exact(hCX H e s' h).elim
  | ok fl =>
  cases fl with
  | next=>exact False.elim h
  | brk=>exact False.elim h
  | cont=>exact False.elim h
  | ret u =>
  obtain⟨v,H',os,bare,un,hok',r',q⟩:=h;have q':v=.bl true:=q;subst q';obtain rfl:u=Value.bool true:=r';refine⟨rfl,⟨λb o e=>?_,λb o e=>un.there b o e (by simp)⟩,os,bare⟩
  cases q:H b with
  | none=>exact .inl (un.keep b o e q (by intro z;exact absurd (show b∈([]:List Addr) from z) (by simp)) (by simp))
  | some u =>
  by_cases hb:b∈tabs.map (·.2)
  ·obtain⟨r,hr,er⟩:=Qk.mp hb;have t1:=hO.tab r hr;have e2:=(hT r hr).2;have ict:=((hT r hr).1.tab (hT r hr).2).isCodeTable;rw[er]at t1 e2 ict;rw[e]at e2;cases e2;obtain⟨more,t2⟩:=un.tbls b _ t1;have t3:s'.heap.get? b=some { cls:=.none,data:=.fields (#[]++more) }:=hok' b _ t2;exact .inr (.inl ⟨ict,rfl,#[],more,rfl,t3⟩)
  rcases hO.other b hb with z|⟨ob,xs,z⟩
  ·rw[q]at z;cases z
  have z2:=un.frzs b ob _ z;obtain⟨e1,_⟩:=hok b _ z;obtain⟨e2,_⟩:=hok' b _ z2;rw[e]at e1;cases e1;exact .inl e2
 let HT:Hp:=λb=>if b∈tabs.map (·.2) then some (.tbl #[]) else none
 have htab:∀b,b∈tabs.map (·.2)->s₁.heap.get? b=some (PySem.W.tabObj #[]):=λb hb=>by
  obtain⟨r,hr,er⟩:=Qk.mp hb;rw[<-er];exact(hT r hr).2
 cases hk:K.lookup a with
 | some o =>
  have e:=KX a o hk;rw[ha]at e;cases e;refine core HT ⟨λq hq=>QF (Qk.mpr ⟨q,hq,rfl⟩),λb hb=>.inl (QB hb)⟩ (.inr ⟨_,vs.toArray,_,hk,rfl,rfl,rfl,by rw[Ql,lenV];exact hl,by simpa using rv⟩) (λb u z=>?_) (λb z=>?_) λz=>absurd (QB naT) z
  ·by_cases hb:b∈tabs.map (·.2)
   ·have z':=(QF hb).symm.trans z;cases z';exact htab b hb
   have z':=(QB hb).symm.trans z;cases z'
  by_cases hb:b∈tabs.map (·.2)
  ·exact .inr hb
  exact absurd (QB hb) z
 | none =>
 let HA:Hp:=λb=>if b=a then some (.frz { cls:=.type "list", data:=.seq vs.toArray } (.lst (ns.map V.int))) else HT b;have hA1:HA a=some (.frz { cls:=.type "list", data:=.seq vs.toArray } (.lst (ns.map V.int))):=QF rfl;have hA2:∀b,b≠a->HA b=HT b:=λb h=>QB h;refine core HA ⟨λq hq=>?_,λb hb=>?_⟩ (.inl (.inr ⟨{ cls:=.type "list", data:=.seq vs.toArray },hA1⟩)) (λb u z=>?_) (λb z=>?_) λ_=>hk
 ·rw[hA2 _ λz=>naT (Qk.mpr ⟨q,hq,z⟩)];exact QF (Qk.mpr ⟨q,hq,rfl⟩)
 ·by_cases hba:b=a
  ·subst hba;exact .inr ⟨_,_,hA1⟩
  rw[hA2 b hba];exact .inl (QB hb)
 ·by_cases hba:b=a
  ·subst hba;rw[hA1]at z;cases z;exact⟨ha,by rw[Qa];exact hl,vs,_,rv,ha⟩
  rw[hA2 b hba]at z;by_cases hb:b∈tabs.map (·.2)
  ·have z':=(QF hb).symm.trans z;cases z';exact htab b hb
  have z':=(QB hb).symm.trans z;cases z'
 by_cases hba:b=a
 ·exact .inl hba
 rw[hA2 b hba]at z;by_cases hb:b∈tabs.map (·.2)
 ·exact .inr hb
 exact absurd (QB hb) z
theorem ww {mean:ExcName->Option Value} (T:Top p loose mean mg mb h):gg h mg:=by
 obtain⟨bm,ob,b1,b2,b3,b4,b5,b6⟩:=T.bmain;refine⟨bm,ob,b1,b2,λq=>?_,b3,b4,b5,b6⟩;obtain⟨o,es,ep,e,hd,_⟩:=T.g;rw[q,e]at b3;cases b3;rw[hd]at b6;cases b6
variable {XP:(Str->Option Value)->Heap->Prop} {l:PySem.W.OpenLaw}
theorem uk {n k:Nat} {YP:World->Heap->Prop} {d:DefRec} {K:Params->PySem.W.Frag} {CX:World->CXT} {sp:World->Sp} (tabs:World->List (Addr × Addr))
  (hn:l.most=some n) (hn2:n<=sizeLine) (hdf:d.params.defaults=[]) (hr:Room k callerA)
  (hY:∀(w:World) (h:Heap),YP w h->(K w.params).In h) (hY2:∀(w:World) (h:Heap),YP w h->PySem.W.TabsAt (tabs w) h) (hTK:∀(w:World),∀q∈tabs w,(K w.params).lookup q.2=none)
  (F:∀(w:World) (mg:Str->Option Value) (fa:Addr) (h:Heap),(K w.params).In h->h.Ns mainGlobals mg->mg d.name=some (.ref fa) ->
   ∃fd:FuncData,(∀(s:Shared) (u:Value),BindsTo s fd ⟨[u],[]⟩ [(x,u)]) /\
    ∀base:Heap,(K w.params).In base->base.Ns mainGlobals mg->gg base mg->FnOk l.prog w (K w.params) mg base (CX w) k fa fd [x] (sp w))
  (hsp:∀(w:World) (H:Hp) (a:Addr) (ns:List Int),ns.length<=n->OnlyT (tabs w) H->SqL (K w.params) H a (ns.map V.int)->sp w [.ref a] H (λv _=>v=.bl true) λ_ _ _=>False)
  (hCX:∀(w:World) (H:Hp) (s:Shared) (e:Value) (s':Shared),CX w [] H s (λ_ _ _=>False) e s'->False) :
  PySem.W.WalkO q loose XP YP l.row.toRowW d [] (λf vs=>PySem.call f vs):=by
 refine Att.pL hn hdf λw s₀ s₁ mg mb fa o pm cd doc a vs ns G Y ho hd hcd hmg hobj hints hlen hg=>?_;have KX:=hY w _ Y;obtain⟨fd,hb,hF⟩:=F w mg fa _ KX G.T.g hmg;exact tP KX G.T.g G.T.b G.T.builtins G.T.nolimit hg (ww G.T) (hY2 w _ Y) (hTK w) hobj hints (Q0 hlen hn2) hr hF hb (λH hO hS=>hsp w H a ns hlen hO hS) λH e s'=>hCX w H s₁ e s'
def qK (K:PySem.W.Frag) (ts:List Addr):List (Addr × Addr):=ts.flatMap λT=>(K.filter λp=>PySem.W.codeHdIn K p.1 T).map λp=>(p.1,T)
def gS (K:PySem.W.Frag) (ts:List Addr):Bool:=ts.all λT=>(K.any λp=>PySem.W.codeHdIn K p.1 T)&&(K.lookup T).isNone
variable {ts as:List Addr}
theorem jY {q:Addr × Addr} (h:q∈qK K ts):q.2∈ts/\PySem.W.codeHdIn K q.1 q.2=true:=by
 obtain⟨T,hT,h⟩:=List.mem_flatMap.mp h;obtain⟨p,hp,rfl⟩:=Qk.mp h;exact⟨hT,(List.mem_filter.mp hp).2⟩
theorem qJ (ok:gS K ts=true) (hT:T∈ts):∃c,(c,T)∈qK K ts:=by
 have h:=QK.mp ok T hT;rw[Xl]at h;obtain⟨p,hp,e⟩:=List.any_eq_true.mp h.1;exact⟨p.1,List.mem_flatMap.mpr ⟨T,hT,Qk.mpr ⟨p,List.mem_filter.mpr ⟨hp,e⟩,rfl⟩⟩⟩
theorem qI (ok:gS K ts=true) (hT:T∈ts):K.lookup T=none:=by
 have h:=QK.mp ok T hT;rw[Xl]at h;exact Option.isNone_iff_eq_none.mp h.2
theorem um {n k:Nat} {d:DefRec} {K:Params->PySem.W.Frag} {e:∀P,as=(K P).map (·.1)} {CX:World->CXT} {sp:World->Sp}
  (hn:l.most=some n) (hn2:n<=sizeLine) (hdf:d.params.defaults=[]) (hr:Room k callerA) (ok:∀w:World,gS (K w.params) ts=true)
  (F:∀(w:World) (mg:Str->Option Value) (fa:Addr) (h:Heap),(K w.params).In h->h.Ns mainGlobals mg->mg d.name=some (.ref fa) ->
   ∃fd:FuncData,(∀(s:Shared) (u:Value),BindsTo s fd ⟨[u],[]⟩ [(x,u)]) /\
    ∀base:Heap,(K w.params).In base->base.Ns mainGlobals mg->gg base mg->FnOk l.prog w (K w.params) mg base (CX w) k fa fd [x] (sp w))
  (hsp:∀(w:World) (H:Hp) (a:Addr) (ns:List Int),ns.length<=n->(∀T∈ts,H T=some (.tbl #[]))->SqL (K w.params) H a (ns.map V.int)->sp w [.ref a] H (λv _=>v=.bl true) λ_ _ _=>False)
  (hCX:∀(w:World) (H:Hp) (s:Shared) (e:Value) (s':Shared),CX w [] H s (λ_ _ _=>False) e s'->False) :
  PySem.W.WalkO q loose XP (PySem.W.kmHook K as e ts).says l.row.toRowW d [] (λf vs=>PySem.call f vs):=by
 refine uk (λw=>qK (K w.params) ts) hn hn2 hdf hr (λw h Y=>PySem.W.km_in_of Y) (λw h Y q hq=>?_) (λw q hq=>qI (ok w) (jY hq).1) F (λw H a ns h1 hO hS=>hsp w H a ns h1 (λT hT=>?_) hS) hCX
 ·obtain⟨h1,h2⟩:=jY hq;exact⟨PySem.W.codeHd_of_K (PySem.W.km_in_of Y) h2,PySem.W.km_tabs_of Y _ h1⟩
 obtain⟨c,hc⟩:=qJ (ok w) hT;exact hO.tab _ hc
end L2
set_option maxHeartbeats 1000000
namespace Tm
open PySem PyProof.Rows
def nA:Bool->Keyed->Array Keyed->Nat->Nat->Nat->StateT SortSt Sem (Option Nat):=sortPriv% PySem.Builtin.gallop
def pb:Array Keyed->Array Keyed->StateT SortSt Sem (Array Keyed):=sortPriv% PySem.Builtin.mergeLo
def pc:Array Keyed->Array Keyed->StateT SortSt Sem (Array Keyed):=sortPriv% PySem.Builtin.mergeHi
def iH (κ:KeyKind) (kd:SortKind) (prog:Program) (w:World) (A:Around) (s:Shared):Prop :=
 ∀(E:Value->Shared->Prop) (x y:Value) (a b:κ.α) (Q:Bool->Shared->Prop),κ.keyOf x=some a->κ.keyOf y=some b->Q (κ.blt a b) s->wpAny (model prog w) A (keyLt' kd x y) Q E s
def kv (κ:KeyKind) (p:Keyed):κ.α:=(κ.keyOf p.1).getD κ.dflt
def Hk (κ:KeyKind) (p:Keyed):Prop:=∃a,κ.keyOf p.1=some a
variable {prog:Program} {w:World} {A:Around} {E:Value->Shared->Prop} {s:Shared} {κ:KeyKind} {kd:SortKind}
section
theorem aR {σ α:Type} {M:Model} {Q:α->σ->Prop} {st:σ} {c:Prop} [Decidable c] {t e:StateT σ Sem α} (h:c) (q:wpS M A E s t Q st):wpS M A E s (if c then t else e) Q st:=by rw[QF h];exact q
theorem aO {σ α:Type} {M:Model} {Q:α->σ->Prop} {st:σ} {c:Prop} [Decidable c] {t e:StateT σ Sem α} (h:¬c) (q:wpS M A E s e Q st):wpS M A E s (if c then t else e) Q st:=by rw[QB h];exact q
variable {i j base n hint:Nat}
theorem bT (h:i=j):(i==j)=true:=by simp[h]
theorem bF (h:¬i=j):¬(i==j)=true:=by simpa using h
variable {Q:Option Bool->SortSt->Prop} {x y p key:Keyed} {st:SortSt}
theorem jj (hL:iH κ kd prog w A s) (hk:kindOf st=kd) (hx:Hk κ x) (hy:Hk κ y) (h:Q (some (κ.blt (kv κ x) (kv κ y))) st):wpS (model prog w) A E s (lt' x y) Q st:=by
 obtain⟨a,ha⟩:=hx;obtain⟨b,hb⟩:=hy;rw[lt'_eq];refine Qu (wpS_get ?_);rw[hk];refine Qu (wpS_lift (wpAny_attempt (hL _ _ _ _ _ _ ha hb ⟨rfl,?_⟩)));unfold kv at h;rw[ha,hb]at h;exact Qx h
variable {arr:Array Keyed}
theorem a9 {Q:Keyed->SortSt->Prop} (h:arr[i]?=some p) (q:Q p st):wpS (model prog w) A E s (elem' arr i) Q st:=by
 rw[elem'_eq,h];exact Qx q
def bey (κ:KeyKind) (left:Bool) (key p:Keyed):Bool:=if left then κ.blt (kv κ p) (kv κ key) else !κ.blt (kv κ key) (kv κ p)
theorem d7 (hL:iH κ kd prog w A s) {left:Bool} {b:Bool} (hk:kindOf st=kd) (hkey:Hk κ key)
  (hP:∃p,arr[j]?=some p/\Hk κ p/\bey κ left key p=b) (h:Q (some b) st) :
  wpS (model prog w) A E s (elem' arr j >>= λx=>if left=true then lt' x key else lt' key x >>= λr=>pure (Option.map (λz=>!z) r)) Q st:=by
 obtain⟨p,hp,hkp,rfl⟩:=hP;refine Qu (a9 hp ?_);unfold bey at h
 cases left with
 | true=>exact jj hL hk hkp hkey h
 | false=>exact Qu (jj hL hk hkey hkp (Qx h))
theorem pO (hL:iH κ kd prog w A s) {left:Bool} {Q:Option Nat->SortSt->Prop} (P:Nat->Bool) (hk:kindOf st=kd) (hkey:Hk κ key)
  (hP:∀i,i<n->∃p,arr[base+i]?=some p/\Hk κ p/\bey κ left key p=P i) (mono:∀i j,i<=j->j<n->P j=true->P i=true) (hh:hint<n)
  (h:∀k,k<=n->(∀i,i<k->P i=true)->(∀i,k<=i->i<n->P i=false)->Q (some k) st):wpS (model prog w) A E s (nA left key arr base n hint) Q st:=by
 have monoF:∀i j,i<=j->j<n->P i=false->P j=false:=λi j h1 h2 h3=>by
  cases e:P j with
  | false=>rfl
  | true=>rw[mono i j h1 h2 e]at h3;cases h3
 unfold nA;refine Qu (d7 hL hk hkey (hP hint hh) ?_)
 have fin:∀(lo hi:Nat) (F:(Option (Option Nat) × Nat × Nat)->StateT SortSt Sem (Option Nat)) (body:Nat->(Option (Option Nat) × Nat × Nat)->StateT SortSt Sem (ForInStep (Option (Option Nat) × Nat × Nat))),lo<=hi->hi<=n->(∀i,i<lo->P i=true)->(∀i,hi<=i->i<n->P i=false) ->
   (∀l k,F (none,l,k)=pure (some k))->(∀x l k (R:ForInStep (Option (Option Nat) × Nat × Nat)->SortSt->Prop),l<=k->k<=n->(l=k->R (.done (none,l,k)) st)->(l<k->P (l+(k-l) / 2)=true->R (.yield (none,l+(k-l) / 2+1,k)) st)->(l<k->P (l+(k-l) / 2)=false->R (.yield (none,l,l+(k-l) / 2)) st)->wpS (model prog w) A E s (body x (none,l,k)) R st) ->
   wpS (model prog w) A E s (forIn [0:n] (none,lo,hi) body >>= F) Q st:=λlo hi F body h1 h2 h3 h4 hF hb=>by
  refine Qu (wpS_mono (Xs (I:=λx c st'=>st'=st/\∃l k,c=(none,l,k)/\l<=k/\k<=n/\k-l<=n-x/\(∀i,i<l->P i=true)/\(∀i,k<=i->i<n->P i=false))
   (Q:=λc st'=>st'=st/\∃k,c=(none,k,k)/\k<=n/\(∀i,i<k->P i=true)/\(∀i,k<=i->i<n->P i=false)) ?_ ?_ ⟨rfl,lo,hi,rfl,h1,h2,by exact Ek h1 h2,h3,h4⟩) ?_)
  ·rintro x c st' _ hx ⟨rfl,l,k,rfl,a1,a2,a3,a4,a5⟩;refine hb x l k _ a1 a2 (λe=>?_) (λe p=>?_) (λe p=>?_)
   ·subst e;exact⟨rfl,l,rfl,a2,a4,a5⟩
   ·exact⟨rfl,_,k,rfl,by exact Ej e,a2,AX a3,λi hi=>mono i _ (by exact Ei hi) (by exact Eh a2 e) p,a5⟩
   exact⟨rfl,l,_,rfl,by exact Eg,by exact Ef a2 e,AV a3 e,a4,λi h1 h2=>monoF _ i h1 h2 p⟩
  ·rintro c st' ⟨rfl,l,k,rfl,a1,a2,a3,a4,a5⟩;have:l=k:=by exact Bl a1 a3
   subst this;exact⟨rfl,l,rfl,a2,a4,a5⟩
  rintro c st' ⟨rfl,k,rfl,a2,a4,a5⟩;rw[hF];exact Qx (h k a2 a4 a5)
 dsimp only
 cases hp:P hint with
 | true =>
  refine aR rfl ?_
  refine Qu (wpS_mono (Xs (I:=λx c st'=>st'=st/\∃l o,c=(none,l,o)/\l<o/\x+1<=o/\hint+l<n/\P (hint+l)=true)
   (Q:=λc st'=>st'=st/\∃l o,c=(none,l,o)/\l<o/\hint+l<n/\P (hint+l)=true/\(o<n-hint->P (hint+o)=false)) ?_ ?_ ⟨rfl,0,1,rfl,by omega,by omega,by exact Ee hh,hp⟩) ?_)
  ·rintro x c st' _ hx ⟨rfl,l,o,rfl,a1,a2,a3,a4⟩;dsimp only;by_cases c1:o>=n-hint
   ·refine aR c1 ?_;exact Qx ⟨rfl,l,o,rfl,a1,a3,a4,λz=>by omega⟩
   refine aO c1 ?_;refine Qu (d7 hL hk hkey (hP (hint+o) (by exact Bi hh c1)) ?_);dsimp only
   cases e:P (hint+o) with
   | true =>
    refine aO Qn ?_;exact Qx ⟨rfl,o,2*o+1,rfl,by exact Bc,by omega,by exact Bi hh c1,e⟩
   | false =>
   refine aR rfl ?_;exact Qx ⟨rfl,l,o,rfl,a1,a3,a4,λ_=>e⟩
  ·rintro c st' ⟨rfl,l,o,rfl,a1,a2,a3,a4⟩;exact⟨rfl,l,o,rfl,a1,a3,a4,λz=>by omega⟩
  rintro c st' ⟨rfl,l,o,rfl,a1,a3,a4,a5⟩;dsimp only;refine fin _ _ _ _ (by exact Ed hh a1 a3) (by exact Ec hh) (λi hi=>mono i (hint+l) (by exact Eb hi) a3 a4) (λi h1 h2=>?_) (λl k=>rfl) ?_
  ·by_cases z:o<n-hint
   ·exact monoF (hint+o) i (by exact Ea hh h1 z) h2 (a5 z)
   omega
  intro x l k R h1 h2 q1 q2 q3;dsimp only;by_cases c:l>=k
  ·refine aR c ?_;exact Qx (q1 (by exact zK h1 c))
  refine aO c ?_;refine Qu (d7 hL hk hkey (hP _ (by exact Bb h2 c)) ?_);dsimp only
  cases e:P (l+(k-l) / 2) with
  | true=>refine aR rfl ?_;exact Qx (q2 (by exact w6 c) e)
  | false=>refine aO Qn ?_;exact Qx (q3 (by exact w6 c) e)
 | false =>
 refine aO Qn ?_
 refine Qu (wpS_mono (Xs (I:=λx c st'=>st'=st/\∃l o,c=(none,l,o)/\l<o/\x+1<=o/\l<=hint/\P (hint-l)=false)
  (Q:=λc st'=>st'=st/\∃l o,c=(none,l,o)/\l<o/\l<=hint/\P (hint-l)=false/\(o<hint+1->P (hint-o)=true)) ?_ ?_ ⟨rfl,0,1,rfl,by omega,by omega,by exact zJ,hp⟩) ?_)
 ·rintro x c st' _ hx ⟨rfl,l,o,rfl,a1,a2,a3,a4⟩;dsimp only;by_cases c1:o>=hint+1
  ·refine aR c1 ?_;exact Qx ⟨rfl,l,o,rfl,a1,a3,a4,λz=>by omega⟩
  refine aO c1 ?_;refine Qu (d7 hL hk hkey (hP (hint-o) (by exact D_ hh a1 c1)) ?_);dsimp only
  cases e:P (hint-o) with
  | true =>
   refine aR rfl ?_;exact Qx ⟨rfl,l,o,rfl,a1,a3,a4,λ_=>e⟩
  | false =>
  refine aO Qn ?_;exact Qx ⟨rfl,o,2*o+1,rfl,by exact Bc,by omega,by exact D9 c1,e⟩
 ·rintro c st' ⟨rfl,l,o,rfl,a1,a2,a3,a4⟩;exact⟨rfl,l,o,rfl,a1,a3,a4,λz=>by omega⟩
 rintro c st' ⟨rfl,l,o,rfl,a1,a3,a4,a5⟩;dsimp only;refine fin _ _ _ _ (by exact D8 a1 a3) (by exact D7 hh a3) (λi hi=>?_) (λi h1 h2=>monoF (hint-l) i h1 h2 a4) (λl k=>rfl) ?_
 ·by_cases z:o<hint+1
  ·exact mono i (hint-o) (by exact D6 hi z) (by exact D5 hh a1 z) (a5 z)
  omega
 intro x l k R h1 h2 q1 q2 q3;dsimp only;by_cases c:l>=k
 ·refine aR c ?_;exact Qx (q1 (by exact zK h1 c))
 refine aO c ?_;refine Qu (d7 hL hk hkey (hP _ (by exact Bb h2 c)) ?_);dsimp only
 cases e:P (l+(k-l) / 2) with
 | true=>refine aR rfl ?_;exact Qx (q2 (by exact w6 c) e)
 | false=>refine aO Qn ?_;exact Qx (q3 (by exact w6 c) e)
end
section
variable {κ:KeyKind}
def le (κ:KeyKind) (p q:Keyed):Prop:=κ.kle (kv κ p) (kv κ q)
structure MI (κ:KeyKind) (L o x y:List Keyed):Prop where
 perm:(o++(x++y)).Perm L
 so:o.Pairwise (le κ)
 sx:x.Pairwise (le κ)
 sy:y.Pairwise (le κ)
 ox:∀p∈o,∀q∈x,le κ p q
 oy:∀p∈o,∀q∈y,le κ p q
 last:∀q∈y,∀l,x.getLast?=some l->le κ q l
variable {L o x2 y x y2:List Keyed}
theorem MI.takeXs {x1:List Keyed} (h:MI κ L o (x1++x2) y) (hq:∀p∈x1,∀q∈y,le κ p q):MI κ L (o++x1) x2 y:=by
 have sx:=Xg.mp h.sx;refine⟨?_,Xg.mpr ⟨h.so,sx.1,λp hp q hq=>h.ox p hp q (Qv.mpr (.inl hq))⟩,sx.2.1,h.sy,λp hp q hq'=>?_,λp hp q hq'=>?_,λq hq' l hl=>?_⟩
 ·have:=h.perm;rwa [Xb,<-Xb o]at this
 ·rcases Qv.mp hp with a|a
  ·exact h.ox p a q (Qv.mpr (.inr hq'))
  exact sx.2.2 p a q hq'
 ·rcases Qv.mp hp with a|a
  ·exact h.oy p a q hq'
  exact hq p a q hq'
 refine h.last q hq' l ?_;rw[List.getLast?_append,hl];rfl
theorem MI.takeYs {y1:List Keyed} (h:MI κ L o x (y1++y2)) (hq:∀q∈y1,∀p∈x,le κ q p):MI κ L (o++y1) x y2:=by
 have sy:=Xg.mp h.sy;refine⟨?_,Xg.mpr ⟨h.so,sy.1,λp hp q hq=>h.oy p hp q (Qv.mpr (.inl hq))⟩,h.sx,sy.2.1,λp hp q hq'=>?_,λp hp q hq'=>?_,λq hq' l hl=>?_⟩
 ·refine List.Perm.trans ?_ h.perm;rw[Xb];refine List.Perm.append_left _ ?_;rw[<-Xb,<-Xb];exact List.Perm.append_right _ List.perm_append_comm
 ·rcases Qv.mp hp with a|a
  ·exact h.ox p a q hq'
  exact hq p a q hq'
 ·rcases Qv.mp hp with a|a
  ·exact h.oy p a q (Qv.mpr (.inr hq'))
  exact sy.2.2 p a q hq'
 exact h.last q (Qv.mpr (.inr hq')) l hl
variable {p q r l:Keyed}
theorem le_trans (a:le κ p q) (b:le κ q r):le κ p r:=KeyOrd.kle_trans a b
theorem f8 (s:(p::x).Pairwise (le κ)) (h:le κ q p) (hr:r∈p::x):le κ q r:=by
 rcases QV.mp hr with e|e
 ·rw[e];exact h
 exact le_trans h ((List.pairwise_cons.mp s).1 r e)
theorem MI.takeY (h:MI κ L o (p::x) (q::y)) (c:le κ q p):MI κ L (o++[q]) (p::x) y :=
 MI.takeYs (y1:=[q]) h λr hr s hs=>by
  have e:r=q:=by simpa using hr
  subst e;exact f8 h.sx c hs
theorem MI.takeX (h:MI κ L o (p::x) (q::y)) (c:le κ p q):MI κ L (o++[p]) x (q::y) :=
 MI.takeXs (x1:=[p]) h λr hr s hs=>by
  have e:r=p:=by simpa using hr
  subst e;exact f8 h.sy c hs
def Srt (κ:KeyKind) (L r:List Keyed):Prop:=r.Perm L/\r.Pairwise (le κ)
theorem MI.endY (h:MI κ L o x []):Srt κ L (o++x):=⟨by simpa using h.perm,Xg.mpr ⟨h.so,h.sx,h.ox⟩⟩
theorem MI.endX (h:MI κ L o [] y):Srt κ L (o++y):=⟨by simpa using h.perm,Xg.mpr ⟨h.so,h.sy,h.oy⟩⟩
theorem MI.lastX (h:MI κ L o [l] y):Srt κ L (o++y++[l]):=by
 refine⟨List.Perm.trans ?_ h.perm,Xg.mpr ⟨Xg.mpr ⟨h.so,h.sy,h.oy⟩,by simp,λp hp q hq=>?_⟩⟩
 ·rw[Xb];exact List.Perm.append_left _ List.perm_append_comm
 have e:q=l:=by simpa using hq
 subst e;rcases Qv.mp hp with a|a
 ·exact h.ox p a q (by simp)
 exact h.last p a q rfl
end
section
structure Gs (st st':SortSt):Prop where
 kind:kindOf st'=kindOf st
 arr:arrOf st'=arrOf st
 pend:pendingOf st'=pendingOf st
 fail:failedOf st'=failedOf st
theorem Gs.refl (st:SortSt):Gs st st:=⟨rfl,rfl,rfl,rfl⟩
theorem Gs.trans {a b c:SortSt} (x:Gs a b) (y:Gs b c):Gs a c:=⟨y.kind.trans x.kind,y.arr.trans x.arr,y.pend.trans x.pend,y.fail.trans x.fail⟩
def rC:Nat->StateT SortSt Sem Unit:=sortPriv% PySem.Builtin.setMinGallop
variable {g ia ib n m i j:Nat}
theorem ff {st:SortSt} {Q:Unit->SortSt->Prop} (h:∀st',Gs st st'->Q () st'):wpS (model prog w) A E s (rC g) Q st:=by
 unfold rC;exact wpS_modify (h _ ⟨rfl,rfl,rfl,rfl⟩)
theorem iD (a:Array Keyed) (i:Nat):(a.extract i a.size).toList=a.toList.drop i:=by
 have:(a.toList.drop i).length<=a.size-i:=by simp
 simpa using Qt this
theorem jf (a:Array Keyed) (i k:Nat):(a.extract i (i+k)).toList=(a.toList.drop i).take k:=by
 simp
theorem aW {a:Array Keyed} {i:Nat} (h:i<a.size):∃p,a[i]?=some p/\a.toList.drop i=p::a.toList.drop (i+1)/\p∈a.toList :=
 ⟨a[i],Q6 h,by rw[List.drop_eq_getElem_cons (by simpa using h)];simp,by simp⟩
structure LJ (κ:KeyKind) (a b:Array Keyed) (n:Nat) (out:Array Keyed) (ia ib:Nat):Prop where
 mi:MI κ (a.toList++b.toList) out.toList (a.toList.drop ia) (b.toList.drop ib)
 la:ia<=a.size
 lb:ib<=b.size
 lo:out.size=ia+ib
 n:n<=out.size
variable {a b:Array Keyed}
theorem LJ.less {out:Array Keyed} (h:LJ κ a b n out ia ib) (hm:m<=n):LJ κ a b m out ia ib:=⟨h.mi,h.la,h.lb,h.lo,Q0 hm h.n⟩
theorem LJ.doneB {out:Array Keyed} (h:LJ κ a b n out ia ib) (e:ib=b.size):Srt κ (a.toList++b.toList) (out++a.extract ia a.size++b.extract ib b.size).toList:=by
 have m:=h.mi;have d:b.toList.drop ib=[]:=by rw[e];simp
 rw[d]at m;rw[QJ,QJ,iD,iD,d,XJ];exact m.endY
theorem LJ.doneA {out:Array Keyed} (h:LJ κ a b n out ia ib) (e:ia=a.size):Srt κ (a.toList++b.toList) (out++a.extract ia a.size++b.extract ib b.size).toList:=by
 have m:=h.mi;have d:a.toList.drop ia=[]:=by rw[e];simp
 rw[d]at m;rw[QJ,QJ,iD,iD,d,XJ];exact m.endX
theorem LJ.lastA {out:Array Keyed} (h:LJ κ a b n out ia ib) (e:ia+1=a.size):Srt κ (a.toList++b.toList) (out++b.extract ib b.size++a.extract ia a.size).toList:=by
 have m:=h.mi;obtain⟨p,_,d,_⟩:=aW (a:=a) (i:=ia) (by exact D4 e);have d2:a.toList.drop (ia+1)=[]:=by rw[e];simp
 rw[d2]at d;rw[d]at m;rw[QJ,QJ,iD,iD,d];exact m.lastX
variable {p q key:Keyed}
theorem LJ.pushB {out:Array Keyed} (h:LJ κ a b n out ia ib) (ha:a[ia]?=some p) (hb:b[ib]?=some q) (c:le κ q p):LJ κ a b (n+1) (out.push q) ia (ib+1):=by
 have lb:=(Q9.mp hb).1;have la:=(Q9.mp ha).1;obtain⟨p',e1,d1,_⟩:=aW la;obtain⟨q',e2,d2,_⟩:=aW lb;rw[ha]at e1;rw[hb]at e2;cases e1;cases e2;have m:=h.mi;rw[d1,d2]at m;have m:=m.takeY c;rw[<-d1]at m;refine⟨by rw[Array.toList_push];exact m,h.la,lb,by rw[Array.size_push,h.lo];exact D3,by rw[Array.size_push];have:=h.n;exact tq this⟩
theorem LJ.pushA {out:Array Keyed} (h:LJ κ a b n out ia ib) (ha:a[ia]?=some p) (hb:b[ib]?=some q) (c:le κ p q):LJ κ a b (n+1) (out.push p) (ia+1) ib:=by
 have lb:=(Q9.mp hb).1;have la:=(Q9.mp ha).1;obtain⟨p',e1,d1,_⟩:=aW la;obtain⟨q',e2,d2,_⟩:=aW lb;rw[ha]at e1;rw[hb]at e2;cases e1;cases e2;have m:=h.mi;rw[d1,d2]at m;have m:=m.takeX c;rw[<-d2]at m;refine⟨by rw[Array.toList_push];exact m,la,h.lb,by rw[Array.size_push,h.lo];exact D2,by rw[Array.size_push];have:=h.n;exact tq this⟩
theorem LJ.runA {out:Array Keyed} {k:Nat} (h:LJ κ a b n out ia ib) (hb:b[ib]?=some q) (hk:ia+k<=a.size) (c:∀i,i<k->∀p,a[ia+i]?=some p->le κ p q):LJ κ a b n (out++a.extract ia (ia+k)) (ia+k) ib:=by
 have lb:=(Q9.mp hb).1;obtain⟨q',e2,d2,_⟩:=aW lb;rw[hb]at e2;cases e2;have m:=h.mi;have sy:=m.sy;rw[<-QZ k (a.toList.drop ia)]at m
 have m:=m.takeXs λp hp r hr=>by
  obtain⟨i,hi,e⟩:=Qq.mp hp;rw[Qs]at hi;have e3:=Qc (l:=(a.toList.drop ia).take k) (i:=i) (by rw[Qs];exact Ba hi);rw[e,List.getElem?_take,QF (by exact w4 hi),XN,Qy]at e3;rw[d2]at hr sy;exact f8 sy (c i (by exact w4 hi) p e3) hr
 rw[List.drop_drop]at m;have sz:(a.extract ia (ia+k)).size=k:=by rw[Array.size_extract];exact A_ hk
 refine⟨by rw[QJ,jf];exact m,hk,h.lb,by rw[Xx,sz,h.lo];exact D1,by rw[Xx];have:=h.n;exact A9 sz this⟩
theorem LJ.runB {out:Array Keyed} {k:Nat} (h:LJ κ a b n out ia ib) (ha:a[ia]?=some p) (hk:ib+k<=b.size) (c:∀i,i<k->∀q,b[ib+i]?=some q->le κ q p):LJ κ a b n (out++b.extract ib (ib+k)) ia (ib+k):=by
 have la:=(Q9.mp ha).1;obtain⟨p',e2,d2,_⟩:=aW la;rw[ha]at e2;cases e2;have m:=h.mi;have sx:=m.sx;rw[<-QZ k (b.toList.drop ib)]at m
 have m:=m.takeYs λq hq r hr=>by
  obtain⟨i,hi,e⟩:=Qq.mp hq;rw[Qs]at hi;have e3:=Qc (l:=(b.toList.drop ib).take k) (i:=i) (by rw[Qs];exact Ba hi);rw[e,List.getElem?_take,QF (by exact w4 hi),XN,Qy]at e3;rw[d2]at hr sx;exact f8 sx (c i (by exact w4 hi) q e3) hr
 rw[List.drop_drop]at m;have sz:(b.extract ib (ib+k)).size=k:=by rw[Array.size_extract];exact A_ hk
 refine⟨by rw[QJ,jf];exact m,h.la,hk,by rw[Xx,sz,h.lo];exact D0,by rw[Xx];have:=h.n;exact A9 sz this⟩
theorem rV (s:a.toList.Pairwise (le κ)) (h:i<=j) (hi:a[i]?=some p) (hj:a[j]?=some q):le κ p q:=by
 by_cases e:i=j
 ·subst e;rw[hi]at hj;cases hj;exact XM _
 have li:=(Q9.mp hi).1;have lj:=(Q9.mp hj).1;have:=(List.pairwise_iff_getElem.mp s) i j (by simpa using li) (by simpa using lj) (by exact A8 h e);rw[Q6 li]at hi;rw[Q6 lj]at hj;cases hi;cases hj;simpa using this
theorem fW (hL:iH κ kd prog w A s) {st:SortSt} {left:Bool} {a:Array Keyed} {base n hint:Nat} {Q:Option Nat->SortSt->Prop} (hk:kindOf st=kd) (hkey:Hk κ key) (ha:∀p∈a.toList,Hk κ p) (hn:base+n<=a.size)
  (sa:∀i j p q,base<=i->i<=j->j<base+n->a[i]?=some p->a[j]?=some q->le κ p q) (hh:hint<n)
  (h:∀k,k<=n->(∀i,i<k->∀p,a[base+i]?=some p->bey κ left key p=true)->(∀i,k<=i->i<n->∀p,a[base+i]?=some p->bey κ left key p=false)->Q (some k) st):wpS (model prog w) A E s (nA left key a base n hint) Q st:=by
 refine pO hL (λi=>match a[base+i]? with|some p=>bey κ left key p|none=>false) hk hkey (λi hi=>?_) (λi j h1 h2 h3=>?_) hh (λk h1 h2 h3=>h k h1 (λi hi p e=>?_) (λi hi hj p e=>?_))
 ·have:base+i<a.size:=by exact A7 hn hi
  obtain⟨p,e,_,m⟩:=aW this;exact⟨p,e,ha p m,by rw[e]⟩
 ·obtain⟨p,e,_⟩:=aW (a:=a) (i:=base+i) (by exact DZ hn h1 h2);obtain⟨q,e2,_⟩:=aW (a:=a) (i:=base+j) (by exact A7 hn h2);have l:=sa _ _ p q (by exact vf) (show base+i<=base+j by exact DY h1) (by exact DX h2) e e2;rw[e2]at h3;rw[e];dsimp only at h3 ⊢;unfold bey at h3 ⊢
  cases left with
  | true =>
   rw[QF rfl]at h3 ⊢;exact KeyOrd.klt_of_kle_of_klt l h3
  | false =>
  rw[QB (by simp)]at h3 ⊢;have h3:κ.kle (kv κ q) (kv κ key):=by simpa[KeyOrd.kle] using h3
  have:=KeyOrd.kle_trans l h3;simpa[KeyOrd.kle] using this
 ·have:=h2 i hi;rwa [e]at this
 have:=h3 i hi hj;rwa [e]at this
theorem nJ (h:bey κ false key p=true):le κ p key:=by
 unfold bey at h;rw[QB (by simp)]at h;simpa[le,KeyOrd.kle] using h
theorem nH (h:bey κ true key p=true):le κ p key:=by
 unfold bey at h;rw[QF rfl]at h;exact KeyOrd.kle_of_klt h
theorem nK (h:bey κ false key p=false):le κ key p:=by
 unfold bey at h;rw[QB (by simp)]at h;exact KeyOrd.kle_of_klt (show κ.blt (kv κ key) (kv κ p)=true by simpa using h)
theorem nM (h:bey κ true key p=false):le κ key p:=by
 unfold bey at h;rw[QF rfl]at h;exact h
end
section
theorem ic {σ α β:Type} {M:Model} {Q:α->σ->Prop} {st:σ} {m:StateT σ Sem α} (f:β->StateT σ Sem α) (I:β->Prop) (J:∀z,I z->wpS M A E s (f z) Q st) (h:(∀z,I z->wpS M A E s (f z) Q st)->wpS M A E s m Q st):wpS M A E s m Q st:=h J
@[reducible] def EA (κ:KeyKind) (a b:Array Keyed) (st:SortSt) (x:Nat) (c:Option (Array Keyed) × Array Keyed × Nat × Nat × Nat) (st':SortSt):Prop:=Gs st st'/\∃out ia ib mg,c=(none,out,ia,ib,mg)/\LJ κ a b (x+1) out ia ib/\ia+1<a.size/\ib<b.size
@[reducible] def Ez (κ:KeyKind) (a b:Array Keyed) (st:SortSt)  (c:Option (Array Keyed) × Array Keyed × Nat × Nat × Nat) (st':SortSt):Prop:=Gs st st'/\∃r rest,c=(some r,rest)/\Srt κ (a.toList++b.toList) r.toList
@[reducible] def Ey (κ:KeyKind) (a b:Array Keyed) (st:SortSt) (x x':Nat) (c:Option (Array Keyed) × Array Keyed × Nat × Nat × Nat × Nat) (st':SortSt):Prop:=st'=st/\∃out ia ib ac bc,c=(none,out,ia,ib,ac,bc)/\LJ κ a b (x+1+x') out ia ib/\ia+1<a.size/\ib<b.size
@[reducible] def Ex (κ:KeyKind) (a b:Array Keyed) (st:SortSt) (x:Nat) (c:Option (Array Keyed) × Array Keyed × Nat × Nat × Nat × Nat) (st':SortSt):Prop:=st'=st/\((∃r rest,c=(some r,rest)/\Srt κ (a.toList++b.toList) r.toList)\/∃out ia ib ac bc,c=(none,out,ia,ib,ac,bc)/\LJ κ a b (x+1) out ia ib/\ia+1<a.size/\ib<b.size)
@[reducible] def Ew (κ:KeyKind) (a b:Array Keyed) (st:SortSt) (x x':Nat) (c:Option (Array Keyed) × Array Keyed × Nat × Nat × Nat × Nat × Nat) (st':SortSt):Prop:=Gs st st'/\∃out ia ib mg ac bc,c=(none,out,ia,ib,mg,ac,bc)/\LJ κ a b (x+1+x') out ia ib/\ia+1<a.size/\ib<b.size
@[reducible] def Ev (κ:KeyKind) (a b:Array Keyed) (st:SortSt) (x:Nat) (c:Option (Array Keyed) × Array Keyed × Nat × Nat × Nat × Nat × Nat) (st':SortSt):Prop:=Gs st st'/\((∃r rest,c=(some r,rest)/\Srt κ (a.toList++b.toList) r.toList)\/∃out ia ib mg ac bc,c=(none,out,ia,ib,mg,ac,bc)/\LJ κ a b (x+2) out ia ib/\ia+1<a.size/\ib<b.size)
theorem n9 (hL:iH κ kd prog w A s) {st:SortSt} {a b:Array Keyed} {Q:Array Keyed->SortSt->Prop} (hk:kindOf st=kd) (ha:∀p∈a.toList,Hk κ p) (hb:∀p∈b.toList,Hk κ p)
  (na:1<=a.size) (nb:1<=b.size) (mi:MI κ (a.toList++b.toList) [] a.toList b.toList) (first:∀p∈a.toList,∀q,b[0]?=some q->le κ q p)
  (h:∀r st',Gs st st'->Srt κ (a.toList++b.toList) r.toList->Q r st'):wpS (model prog w) A E s (pb a b) Q st:=by
 have sa:=mi.sx;have sb:=mi.sy;unfold pb;refine Qu (wpS_lift (XO ⟨rfl,?_⟩));obtain⟨q0,hq0,_⟩:=aW (a:=b) (i:=0) (by exact ve nb);obtain⟨p0,hp0,_,mp0⟩:=aW (a:=a) (i:=0) (by exact ve na);have j0:LJ κ a b 0 #[] 0 0:=⟨by simpa using mi,by exact A6 na,by exact A6 nb,rfl,QN _⟩;have j1:=j0.pushB hp0 hq0 (first p0 mp0 q0 hq0);have j1:LJ κ a b 1 #[q0] 0 1:=j1;refine Qu (a9 hq0 ?_);refine wpS_mono (Q:=λr st'=>Gs st st'/\Srt κ (a.toList++b.toList) r.toList) ?_ (λr st' z=>h r st' z.1 z.2);clear h
 extract_lets out0
 by_cases c1:1=b.size
 ·refine aR (bT c1) ?_;exact Qx ⟨.refl _,j1.doneB c1⟩
 refine aO (bF c1) ?_;by_cases c2:0+1=a.size
 ·refine aR (bT c2) ?_;exact Qx ⟨.refl _,j1.lastA c2⟩
 refine aO (bF c2) ?_;refine Qu (wpS_get ?_)
 extract_lets mg0
 refine Qu (wpS_mono (Xs (I:=EA κ a b st)
  (Q:=Ez κ a b st) ?step ?fin ⟨.refl _,out0,0,1,mg0,rfl,j1,by exact DW na c2,by exact DV na nb c1 c2⟩) ?post)
 case post =>
  rintro c st' ⟨g,r,rest,rfl,hr⟩;exact Qx ⟨g,hr⟩
 case fin =>
  rintro c st' ⟨g,out,ia,ib,mg,rfl,j,l1,l2⟩;have:=j.n;have:=j.lo;omega
 case step =>
  rintro x c st1 _ hx ⟨g,out,ia,ib,mg,rfl,j,l1,l2⟩
  refine Qu (wpS_mono (Xs (I:=Ey κ a b st1 x)
   (Q:=Ex κ a b st1 x) ?step1 ?fin1 ⟨rfl,out,ia,ib,0,0,rfl,j,l1,l2⟩) ?post1)
  case fin1 =>
   rintro c st' ⟨rfl,out,ia,ib,ac,bc,rfl,j,l1,l2⟩;have:=j.n;have:=j.lo;omega
  case step1 =>
   clear j l1 l2;rintro x' c st' _ hx' ⟨rfl,out,ia,ib,ac,bc,rfl,j,l1,l2⟩;obtain⟨p,hp,_,mp⟩:=aW (a:=a) (i:=ia) (by exact zI l1);obtain⟨q,hq,_,mq⟩:=aW (a:=b) (i:=ib) l2;refine Qu (a9 hq (Qu (a9 hp (Qu (jj hL (by rw[g.kind];exact hk) (hb q mq) (ha p mp) ?_)))));dsimp only
   cases e:κ.blt (kv κ q) (kv κ p) with
   | true =>
    refine aR rfl ?_;refine Qu (a9 hq ?_);have j2:=j.pushB hp hq (KeyOrd.kle_of_klt e);by_cases d1:ib+1=b.size
    ·refine aR (bT d1) ?_;exact Qx ⟨rfl,.inl ⟨_,_,rfl,j2.doneB d1⟩⟩
    refine aO (bF d1) ?_;by_cases d2:bc+1>=mg
    ·refine aR d2 ?_;exact Qx ⟨rfl,.inr ⟨_,_,_,_,_,rfl,j2.less (by omega),l1,by exact zH l2 d1⟩⟩
    refine aO d2 ?_;exact Qx ⟨rfl,_,_,_,_,_,rfl,j2.less (by exact wZ),l1,by exact zH l2 d1⟩
   | false =>
   refine aO Qn ?_;refine Qu (a9 hp ?_);have j2:=j.pushA hp hq e;by_cases d1:ia+1+1=a.size
   ·refine aR (bT d1) ?_;exact Qx ⟨rfl,.inl ⟨_,_,rfl,j2.lastA d1⟩⟩
   refine aO (bF d1) ?_;by_cases d2:ac+1>=mg
   ·refine aR d2 ?_;exact Qx ⟨rfl,.inr ⟨_,_,_,_,_,rfl,j2.less (by omega),by exact A5 l1 d1,l2⟩⟩
   refine aO d2 ?_;exact Qx ⟨rfl,_,_,_,_,_,rfl,j2.less (by exact wZ),by exact A5 l1 d1,l2⟩
  case post1 =>
   clear j l1 l2;rintro c st' ⟨rfl,⟨r,rest,rfl,hr⟩|⟨out,ia,ib,ac,bc,rfl,j,l1,l2⟩⟩
   ·exact Qx ⟨g,r,_,rfl,hr⟩
   refine Qu (wpS_lift (XO ⟨rfl,?_⟩))
   refine Qu (wpS_mono (Xs (I:=Ew κ a b st x)
    (Q:=Ev κ a b st x) ?step2 ?fin2 ⟨g,out,ia,ib,_,ac,bc,rfl,j,l1,l2⟩) ?post2)
   case fin2 =>
    rintro c st' ⟨g,out,ia,ib,mg,ac,bc,rfl,j,l1,l2⟩;have:=j.n;have:=j.lo;omega
   case post2 =>
    rintro c st' ⟨g,⟨r,rest,rfl,hr⟩|⟨out,ia,ib,mg,ac,bc,rfl,j,l1,l2⟩⟩
    ·exact Qx ⟨g,r,_,rfl,hr⟩
    refine Qu (ff λst2 g2=>?_);exact Qx ⟨g.trans g2,_,_,_,_,rfl,j,l1,l2⟩
   case step2 =>
    clear j l1 l2 g;rintro x' c st2 _ hx' ⟨g,out,ia,ib,mg,ac,bc,rfl,j,l1,l2⟩;obtain⟨p,hp,_,mp⟩:=aW (a:=a) (i:=ia) (by exact zI l1);obtain⟨q,hq,_,mq⟩:=aW (a:=b) (i:=ib) l2
    extract_lets s1 o1 s2 x1 s3 y1 s4 m1 s5 ac1 bc1 ib2 jp mgm
    refine ic (λm=>jp () m) (λ_=>True) (λm _=>?_) (λJ=>?_)
    ·refine Qu (ff λst3 g3=>?_);have g4:=g.trans g3;have hk3:kindOf st3=kd:=by rw[g4.kind];exact hk
     refine Qu (a9 hq ?_);refine Qu (fW (a:=a) (base:=ia) (n:=a.size-ia) hL hk3 (hb q mq) ha (by exact DU l1) (λi j p q _ h _ e1 e2=>rV sa h e1 e2) (by exact DT l1) λk k1 k2 k3=>?_);dsimp -zeta only
     extract_lets ac2 jp2 o2 x2
     refine ic (λz:Array Keyed × Nat=>jp2 () z.1 z.2) (λz=>LJ κ a b (x+1+x') z.1 z.2 ib/\z.2+1<a.size/\∀p,a[z.2]?=some p->le κ q p) (λz hz=>?_) (λJ2=>?_)
     ·obtain⟨o3,x3⟩:=z;obtain⟨j3,l3,f3⟩:=hz;dsimp only at j3 l3 f3;obtain⟨p3,hp3,_,mp3⟩:=aW (a:=a) (i:=x3) (by exact zI l3);refine Qu (a9 hq ?_);have j4:=j3.pushB hp3 hq (f3 p3 hp3);by_cases d1:ib+1=b.size
      ·refine aR (bT d1) ?_;exact Qx ⟨g4,.inl ⟨_,_,rfl,j4.doneB d1⟩⟩
      refine aO (bF d1) ?_;refine Qu (a9 hp3 ?_);refine Qu (fW (a:=b) (base:=ib+1) (n:=b.size-(ib+1)) hL hk3 (ha p3 mp3) hb (by exact DS l2) (λi j p q _ h _ e1 e2=>rV sb h e1 e2) (by exact DR l2 d1) λk' k1' k2' k3'=>?_);dsimp -zeta only
      extract_lets bc2 ia2 jp3 o4 y4
      refine ic (λz:Array Keyed × Nat=>jp3 () z.1 z.2) (λz=>LJ κ a b (x+1+x'+1) z.1 x3 z.2/\z.2<b.size/\∀q,b[z.2]?=some q->le κ p3 q) (λz hz=>?_) (λJ3=>?_)
      ·obtain⟨o5,y5⟩:=z;obtain⟨j5,l5,f5⟩:=hz;dsimp only at j5 l5 f5;obtain⟨q5,hq5,_,mq5⟩:=aW (a:=b) (i:=y5) l5;refine Qu (a9 hp3 ?_);have j6:=j5.pushA hp3 hq5 (f5 q5 hq5);by_cases d2:x3+1+1=a.size
       ·refine aR (bT d2) ?_;exact Qx ⟨g4,.inl ⟨_,_,rfl,j6.lastA d2⟩⟩
       refine aO (bF d2) ?_;by_cases d3:(decide (ac2<7)&&decide (bc2<7))=true
       ·refine aR d3 ?_;exact Qx ⟨g4,.inr ⟨_,_,_,_,_,_,rfl,j6.less (by omega),by omega,l5⟩⟩
       refine aO d3 ?_;exact Qx ⟨g4,_,_,_,_,_,_,rfl,j6.less (by exact A4),by omega,l5⟩
      by_cases d2:k'>0
      ·refine aR d2 ?_;have j5:LJ κ a b (x+1+x'+1) o4 x3 y4:=j4.runB hp3 (by exact DQ l2 k1') λi hi p e=>nH (k2' i hi p e);have e2:y4=ib+1+k':=rfl;by_cases d3:y4=b.size
       ·refine aR (bT d3) ?_;exact Qx ⟨g4,.inl ⟨_,_,rfl,j5.doneB d3⟩⟩
       refine aO (bF d3) ?_;exact J3 (o4,y4) ⟨j5,by dsimp only;omega,λp e=>nM (k3' k' (Qg _) (by omega) p e)⟩
      refine aO d2 ?_;have:k'=0:=by exact A3 d2
      subst this;exact J3 (_,ib+1) ⟨j4,by dsimp only;exact zH l2 d1,λp e=>nM (k3' 0 (Qg _) (by exact DP l2 d1 k1') p e)⟩
     by_cases d1:k>0
     ·refine aR d1 ?_;have j3:LJ κ a b (x+1+x') o2 x2 ib:=j.runA hq (by exact DO l1 k1) λi hi p e=>nJ (k2 i hi p e);have e2:x2=ia+k:=rfl;by_cases d2:x2+1=a.size
      ·refine aR (bT d2) ?_;exact Qx ⟨g4,.inl ⟨_,_,rfl,j3.lastA d2⟩⟩
      refine aO (bF d2) ?_;by_cases d3:x2=a.size
      ·refine aR (bT d3) ?_;exact Qx ⟨g4,.inl ⟨_,_,rfl,j3.doneA d3⟩⟩
      refine aO (bF d3) ?_;exact J2 (o2,x2) ⟨j3,by dsimp only;omega,λp e=>nK (k3 k (Qg _) (by omega) p e)⟩
     refine aO d1 ?_;have:k=0:=by exact A3 d1
     subst this;exact J2 (o1,x1) ⟨j,l1,λp e=>nK (k3 0 (Qg _) (by exact DN l1 k1) p e)⟩
    by_cases d:m1>1
    ·refine aR d ?_;exact J _ trivial
    refine aO d ?_;exact J _ trivial
end
noncomputable def Ad (κ:KeyKind):KeyKind where
 α:=κ.α
 blt a b:=κ.blt b a
 irrefl a:=κ.irrefl a
 trans a b c h1 h2:=κ.trans c b a h2 h1
 negTrans a b c h:=(κ.negTrans c b a h).symm
 total a b h1 h2:=(κ.total a b h2 h1)
 keyOf:=κ.keyOf
 dflt:=κ.dflt
section
variable {κ:KeyKind}
theorem uI {l:List Keyed} (h:l.Pairwise (le κ)):l.reverse.Pairwise (le (Ad κ)):=List.pairwise_reverse.mpr h
theorem mx {L r:List Keyed} (h:Srt (Ad κ) L r):Srt κ L r.reverse:=⟨(List.reverse_perm r).trans h.1,List.pairwise_reverse.mpr h.2⟩
variable {p q:Keyed}
theorem c6 {a:Array Keyed} {i:Nat} (hi:1<=i) (h:a[i-1]?=some p):(a.toList.take i).reverse=p::(a.toList.take (i-1)).reverse:=by
 obtain⟨j,rfl⟩:∃j,i=j+1:=⟨i-1,by exact DM hi⟩;rw[Nat.add_sub_cancel]at h ⊢;rw[QP,Qy,h,List.reverse_append];rfl
structure HJ (κ:KeyKind) (a b:Array Keyed) (n:Nat) (out:Array Keyed) (na nb:Nat):Prop where
 mi:MI (Ad κ) (a.toList++b.toList) out.toList (b.toList.take nb).reverse (a.toList.take na).reverse
 la:na<=a.size
 lb:nb<=b.size
 lo:out.size+na+nb=a.size+b.size
 n:n<=out.size
variable {na nb n m i j:Nat} {a b:Array Keyed}
theorem HJ.less {out:Array Keyed} (h:HJ κ a b n out na nb) (hm:m<=n):HJ κ a b m out na nb:=⟨h.mi,h.la,h.lb,h.lo,Q0 hm h.n⟩
theorem eY (a:Array Keyed) (i:Nat):(a.extract 0 i).toList=a.toList.take i:=by simp
theorem HJ.doneA {out:Array Keyed} (h:HJ κ a b n out na nb) (e:na=0):Srt κ (a.toList++b.toList) (a.extract 0 na++b.extract 0 nb++out.reverse).toList:=by
 subst e;have:=mx (MI.endY (by simpa using h.mi));rw[QJ,QJ,eY,eY,Array.toList_reverse];simpa using this
theorem HJ.doneB {out:Array Keyed} (h:HJ κ a b n out na nb) (e:nb=0):Srt κ (a.toList++b.toList) (a.extract 0 na++b.extract 0 nb++out.reverse).toList:=by
 subst e;have:=mx (MI.endX (by simpa using h.mi));rw[QJ,QJ,eY,eY,Array.toList_reverse];simpa using this
theorem HJ.firstB {out:Array Keyed} (h:HJ κ a b n out na nb) (e:nb=1):Srt κ (a.toList++b.toList) (b.extract 0 nb++a.extract 0 na++out.reverse).toList:=by
 subst e;obtain⟨q,hq,_⟩:=aW (a:=b) (i:=0) (by have:=h.lb;exact ve this);have m:=h.mi;have tr:=c6 (a:=b) (i:=1) (Qg _) hq;rw[Nat.sub_self,List.take_zero,List.reverse_nil]at tr;rw[tr]at m;have:=mx m.lastX
 have t1:b.toList.take 1=[q]:=by
  have:=congrArg List.reverse tr;simpa using this
 rw[QJ,QJ,eY,eY,Array.toList_reverse,t1];simpa using this
theorem HJ.pushA {out:Array Keyed} (h:HJ κ a b n out na nb) (n1:1<=na) (n2:1<=nb) (ha:a[na-1]?=some p) (hb:b[nb-1]?=some q) (c:le κ q p):HJ κ a b (n+1) (out.push p) (na-1) nb:=by
 have m:=h.mi;rw[c6 n1 ha,c6 n2 hb]at m;have m:=m.takeY c;rw[<-c6 n2 hb]at m;refine⟨by rw[Array.toList_push];exact m,by have:=h.la;exact A2 n1 this,h.lb,by rw[Array.size_push];have:=h.lo;exact DL n1 this,by rw[Array.size_push];have:=h.n;exact tq this⟩
theorem HJ.pushB {out:Array Keyed} (h:HJ κ a b n out na nb) (n1:1<=na) (n2:1<=nb) (ha:a[na-1]?=some p) (hb:b[nb-1]?=some q) (c:le κ p q):HJ κ a b (n+1) (out.push q) na (nb-1):=by
 have m:=h.mi;rw[c6 n1 ha,c6 n2 hb]at m;have m:=m.takeX c;rw[<-c6 n1 ha]at m;refine⟨by rw[Array.toList_push];exact m,h.la,by have:=h.lb;exact A2 n2 this,by rw[Array.size_push];have:=h.lo;exact DK n2 this,by rw[Array.size_push];have:=h.n;exact tq this⟩
theorem oj (l:List Keyed) (h:i<=j):(l.take j).reverse=((l.take j).drop i).reverse++(l.take i).reverse:=by
 rw[<-List.reverse_append];congr 1;have:=QZ i (l.take j);rw[List.take_take,Nat.min_eq_left h]at this;exact this.symm
theorem r_ (a:Array Keyed) (h:i<=j):(a.extract i j).reverse.toList=((a.toList.take j).drop i).reverse:=by
 simp[List.drop_take]
theorem rQ (h:p∈((a.toList.take j).drop i).reverse):∃k,i<=k/\k<j/\a[k]?=some p:=by
 rw[List.mem_reverse]at h;obtain⟨m,hm,e⟩:=Qq.mp h;rw[Q4,Qs]at hm;have e3:=Qc (l:=(a.toList.take j).drop i) (i:=m) (by rw[Q4,Qs];exact DJ hm);rw[e,XN,List.getElem?_take,QF (by exact A1 hm),Qy]at e3;exact⟨i+m,by exact vf,by exact A1 hm,e3⟩
theorem HJ.runA {out:Array Keyed} {k:Nat} (h:HJ κ a b n out na nb) (n2:1<=nb) (hb:b[nb-1]?=some q) (hk:k<=na) (c:∀i,k<=i->i<na->∀p,a[i]?=some p->le κ q p):HJ κ a b n (out++(a.extract k na).reverse) k nb:=by
 have m:=h.mi;have sx:=m.sx;rw[oj _ hk]at m
 have m:=m.takeYs λp hp r hr=>by
  obtain⟨i,h1,h2,e⟩:=rQ hp;rw[c6 n2 hb]at hr sx;exact f8 sx (c i h1 h2 p e) hr
 have sz:(a.extract k na).reverse.size=na-k:=by rw[Array.size_reverse,Array.size_extract];have:=h.la;exact A0 hk this
 refine⟨by rw[QJ,r_ _ hk];exact m,by have:=h.la;exact AZ hk this,h.lb,by rw[Xx,sz];have:=h.lo;omega,by rw[Xx];have:=h.n;exact AY sz this⟩
theorem HJ.runB {out:Array Keyed} {k:Nat} (h:HJ κ a b n out na nb) (n1:1<=na) (ha:a[na-1]?=some p) (hk:k<=nb) (c:∀i,k<=i->i<nb->∀q,b[i]?=some q->le κ p q):HJ κ a b n (out++(b.extract k nb).reverse) na k:=by
 have m:=h.mi;have sy:=m.sy;rw[oj _ hk]at m
 have m:=m.takeXs λq hq r hr=>by
  obtain⟨i,h1,h2,e⟩:=rQ hq;rw[c6 n1 ha]at hr sy;exact f8 sy (c i h1 h2 q e) hr
 have sz:(b.extract k nb).reverse.size=nb-k:=by rw[Array.size_reverse,Array.size_extract];have:=h.lb;exact A0 hk this
 refine⟨by rw[QJ,r_ _ hk];exact m,h.la,by have:=h.lb;exact AZ hk this,by rw[Xx,sz];have:=h.lo;omega,by rw[Xx];have:=h.n;exact AY sz this⟩
end
section
@[reducible] def EG (κ:KeyKind) (a b:Array Keyed) (st:SortSt) (x:Nat) (c:Option (Array Keyed) × Nat × Nat × Array Keyed × Nat) (st':SortSt):Prop:=Gs st st'/\∃na nb out mg,c=(none,na,nb,out,mg)/\HJ κ a b (x+1) out na nb/\1<=na/\2<=nb
@[reducible] def EF (κ:KeyKind) (a b:Array Keyed) (st:SortSt)  (c:Option (Array Keyed) × Nat × Nat × Array Keyed × Nat) (st':SortSt):Prop:=Gs st st'/\∃r rest,c=(some r,rest)/\Srt κ (a.toList++b.toList) r.toList
@[reducible] def EE (κ:KeyKind) (a b:Array Keyed) (st:SortSt) (x x':Nat) (c:Option (Array Keyed) × Nat × Nat × Array Keyed × Nat × Nat) (st':SortSt):Prop:=st'=st/\∃na nb out ac bc,c=(none,na,nb,out,ac,bc)/\HJ κ a b (x+1+x') out na nb/\1<=na/\2<=nb
@[reducible] def ED (κ:KeyKind) (a b:Array Keyed) (st:SortSt) (x:Nat) (c:Option (Array Keyed) × Nat × Nat × Array Keyed × Nat × Nat) (st':SortSt):Prop:=st'=st/\((∃r rest,c=(some r,rest)/\Srt κ (a.toList++b.toList) r.toList)\/∃na nb out ac bc,c=(none,na,nb,out,ac,bc)/\HJ κ a b (x+1) out na nb/\1<=na/\2<=nb)
@[reducible] def EC (κ:KeyKind) (a b:Array Keyed) (st:SortSt) (x x':Nat) (c:Option (Array Keyed) × Nat × Nat × Array Keyed × Nat × Nat × Nat) (st':SortSt):Prop:=Gs st st'/\∃na nb out mg ac bc,c=(none,na,nb,out,mg,ac,bc)/\HJ κ a b (x+1+x') out na nb/\1<=na/\2<=nb
@[reducible] def EB (κ:KeyKind) (a b:Array Keyed) (st:SortSt) (x:Nat) (c:Option (Array Keyed) × Nat × Nat × Array Keyed × Nat × Nat × Nat) (st':SortSt):Prop:=Gs st st'/\((∃r rest,c=(some r,rest)/\Srt κ (a.toList++b.toList) r.toList)\/∃na nb out mg ac bc,c=(none,na,nb,out,mg,ac,bc)/\HJ κ a b (x+2) out na nb/\1<=na/\2<=nb)
theorem n_ (hL:iH κ kd prog w A s) {st:SortSt} {a b:Array Keyed} {Q:Array Keyed->SortSt->Prop} (hk:kindOf st=kd) (ha:∀p∈a.toList,Hk κ p) (hb:∀p∈b.toList,Hk κ p)
  (na:1<=a.size) (nb:1<=b.size) (sa:a.toList.Pairwise (le κ)) (sb:b.toList.Pairwise (le κ)) (first:∀p∈a.toList,∀q,b[0]?=some q->le κ q p) (last:∀q∈b.toList,∀p,a[a.size-1]?=some p->le κ q p)
  (h:∀r st',Gs st st'->Srt κ (a.toList++b.toList) r.toList->Q r st'):wpS (model prog w) A E s (pc a b) Q st:=by
 unfold pc;refine Qu (wpS_lift (XO ⟨rfl,?_⟩));obtain⟨q0,hq0,_,mq0⟩:=aW (a:=b) (i:=b.size-1) (by exact tm nb);obtain⟨qf,hqf,_,mqf⟩:=aW (a:=b) (i:=0) (by exact ve nb);obtain⟨p0,hp0,_,mp0⟩:=aW (a:=a) (i:=a.size-1) (by exact tm na)
 have j0:HJ κ a b 0 #[] a.size b.size:=by
  have e1:a.toList.take a.size=a.toList:=Qt (by simp);have e2:b.toList.take b.size=b.toList:=Qt (by simp);refine⟨⟨?_,List.Pairwise.nil,by rw[e2];exact uI sb,by rw[e1];exact uI sa,λp hp=>(nomatch hp),λp hp=>(nomatch hp),λq hq l hl=>?_⟩,Qg _,Qg _,by simp,QN _⟩
  ·rw[e1,e2];show ([]++(b.toList.reverse++a.toList.reverse)).Perm _;rw[List.nil_append,<-List.reverse_append];exact List.reverse_perm _
  rw[e1,List.mem_reverse]at hq;rw[e2,List.getLast?_reverse]at hl;refine first q hq l ?_;rw[<-Qy,<-List.head?_eq_getElem?];exact hl
 have j1:=j0.pushA na nb hp0 hq0 (last q0 mq0 p0 hp0);have j1:HJ κ a b 1 #[p0] (a.size-1) b.size:=j1
 extract_lets tot dn fb na0 nb0 z0
 refine Qu (a9 hp0 ?_);refine wpS_mono (Q:=λr st'=>Gs st st'/\Srt κ (a.toList++b.toList) r.toList) ?_ (λr st' z=>h r st' z.1 z.2);clear h
 extract_lets out0
 by_cases c1:na0=0
 ·refine aR (bT c1) ?_;exact Qx ⟨.refl _,j1.doneA c1⟩
 refine aO (bF c1) ?_;by_cases c2:b.size=1
 ·refine aR (bT c2) ?_;exact Qx ⟨.refl _,j1.firstB c2⟩
 refine aO (bF c2) ?_;refine Qu (wpS_get ?_)
 extract_lets mg0
 have e0:na0=a.size-1:=rfl
 refine Qu (wpS_mono (Xs (I:=EG κ a b st)
  (Q:=EF κ a b st) ?step ?fin ⟨.refl _,na0,nb0,out0,mg0,rfl,j1,by exact DI na nb c1 c2,by omega⟩) ?post)
 case post =>
  rintro c st' ⟨g,r,rest,rfl,hr⟩;exact Qx ⟨g,hr⟩
 case fin =>
  rintro c st' ⟨g,na,nb,out,mg,rfl,j,l1,l2⟩;have:=j.n;have:=j.lo;omega
 case step =>
  rintro x c st1 _ hx ⟨g,na,nb,out,mg,rfl,j,l1,l2⟩
  refine Qu (wpS_mono (Xs (I:=EE κ a b st1 x)
   (Q:=ED κ a b st1 x) ?step1 ?fin1 ⟨rfl,na,nb,out,0,0,rfl,j,l1,l2⟩) ?post1)
  case fin1 =>
   rintro c st' ⟨rfl,na,nb,out,ac,bc,rfl,j,l1,l2⟩;have:=j.n;have:=j.lo;omega
  case step1 =>
   clear j l1 l2;rintro x' c st' _ hx' ⟨rfl,na,nb,out,ac,bc,rfl,j,l1,l2⟩;have la:=j.la;have lb:=j.lb;obtain⟨p,hp,_,mp⟩:=aW (a:=a) (i:=na-1) (by exact zF l1 la);obtain⟨q,hq,_,mq⟩:=aW (a:=b) (i:=nb-1) (by exact zE l2 lb);refine Qu (a9 hq (Qu (a9 hp (Qu (jj hL (by rw[g.kind];exact hk) (hb q mq) (ha p mp) ?_)))));dsimp -zeta only
   cases e:κ.blt (kv κ q) (kv κ p) with
   | true =>
    refine aR rfl ?_;refine Qu (a9 hp ?_);have j2:=j.pushA l1 (by exact vd l2) hp hq (KeyOrd.kle_of_klt e);by_cases d1:na-1=0
    ·refine aR (bT d1) ?_;exact Qx ⟨rfl,.inl ⟨_,_,rfl,j2.doneA d1⟩⟩
    refine aO (bF d1) ?_;by_cases d2:ac+1>=mg
    ·refine aR d2 ?_;exact Qx ⟨rfl,.inr ⟨_,_,_,_,_,rfl,j2.less (by omega),by exact AM l1 d1,l2⟩⟩
    refine aO d2 ?_;exact Qx ⟨rfl,_,_,_,_,_,rfl,j2.less (by exact wZ),by exact AM l1 d1,l2⟩
   | false =>
   refine aO Qn ?_;refine Qu (a9 hq ?_);have j2:=j.pushB l1 (by exact vd l2) hp hq e;by_cases d1:nb-1=1
   ·refine aR (bT d1) ?_;exact Qx ⟨rfl,.inl ⟨_,_,rfl,j2.firstB d1⟩⟩
   refine aO (bF d1) ?_;by_cases d2:bc+1>=mg
   ·refine aR d2 ?_;exact Qx ⟨rfl,.inr ⟨_,_,_,_,_,rfl,j2.less (by omega),l1,by exact AK l2 d1⟩⟩
   refine aO d2 ?_;exact Qx ⟨rfl,_,_,_,_,_,rfl,j2.less (by exact wZ),l1,by exact AK l2 d1⟩
  case post1 =>
   clear j l1 l2;rintro c st' ⟨rfl,⟨r,rest,rfl,hr⟩|⟨na,nb,out,ac,bc,rfl,j,l1,l2⟩⟩
   ·exact Qx ⟨g,r,_,rfl,hr⟩
   refine Qu (wpS_lift (XO ⟨rfl,?_⟩))
   refine Qu (wpS_mono (Xs (I:=EC κ a b st x)
    (Q:=EB κ a b st x) ?step2 ?fin2 ⟨g,na,nb,out,_,ac,bc,rfl,j,l1,l2⟩) ?post2)
   case fin2 =>
    rintro c st' ⟨g,na,nb,out,mg,ac,bc,rfl,j,l1,l2⟩;have:=j.n;have:=j.lo;omega
   case post2 =>
    rintro c st' ⟨g,⟨r,rest,rfl,hr⟩|⟨na,nb,out,mg,ac,bc,rfl,j,l1,l2⟩⟩
    ·exact Qx ⟨g,r,_,rfl,hr⟩
    refine Qu (ff λst2 g2=>?_);exact Qx ⟨g.trans g2,_,_,_,_,rfl,j,l1,l2⟩
   case step2 =>
    clear j l1 l2 g;rintro x' c st2 _ hx' ⟨g,na,nb,out,mg,ac,bc,rfl,j,l1,l2⟩;have la:=j.la;have lb:=j.lb;obtain⟨p,hp,_,mp⟩:=aW (a:=a) (i:=na-1) (by exact zF l1 la);obtain⟨q,hq,_,mq⟩:=aW (a:=b) (i:=nb-1) (by exact zE l2 lb)
    extract_lets s1 x1 s2 y1 s3 o1 s4 m1 s5 ac1 bc1 nb2 jp mgm
    refine ic (λm=>jp () m) (λ_=>True) (λm _=>?_) (λJ=>?_)
    ·refine Qu (ff λst3 g3=>?_);have g4:=g.trans g3;have hk3:kindOf st3=kd:=by rw[g4.kind];exact hk
     refine Qu (a9 hq ?_);refine Qu (fW (a:=a) (base:=0) (n:=na) (hint:=na-1) hL hk3 (hb q mq) ha (by exact DH la) (λi j p q _ h _ e1 e2=>rV sa h e1 e2) (by exact tm l1) λk k1 k2 k3=>?_);simp only[Nat.zero_add]at k2 k3;dsimp -zeta only
     extract_lets kk ac2 jp2 o2 x2
     refine ic (λz:Nat × Array Keyed=>jp2 () z.1 z.2) (λz=>HJ κ a b (x+1+x') z.2 z.1 nb/\1<=z.1/\∀p,a[z.1-1]?=some p->le κ p q) (λz hz=>?_) (λJ2=>?_)
     ·obtain⟨x3,o3⟩:=z;obtain⟨j3,l3,f3⟩:=hz;dsimp only at j3 l3 f3;have la3:=j3.la;obtain⟨p3,hp3,_,mp3⟩:=aW (a:=a) (i:=x3-1) (by exact zF l3 la3);refine Qu (a9 hq ?_);have j4:=j3.pushB l3 (by exact vd l2) hp3 hq (f3 p3 hp3);by_cases d1:nb-1=1
      ·refine aR (bT d1) ?_;exact Qx ⟨g4,.inl ⟨_,_,rfl,j4.firstB d1⟩⟩
      refine aO (bF d1) ?_;refine Qu (a9 hp3 ?_);refine Qu (fW (a:=b) (base:=0) (n:=nb-1) (hint:=nb-1-1) hL hk3 (ha p3 mp3) hb (by exact DG l2 lb) (λi j p q _ h _ e1 e2=>rV sb h e1 e2) (by exact DF l2) λk' k1' k2' k3'=>?_);simp only[Nat.zero_add]at k2' k3';dsimp -zeta only
      extract_lets kk' bc2 na4 jp3 o4 y4
      refine ic (λz:Nat × Array Keyed=>jp3 () z.1 z.2) (λz=>HJ κ a b (x+1+x'+1) z.2 x3 z.1/\2<=z.1/\∀q,b[z.1-1]?=some q->le κ q p3) (λz hz=>?_) (λJ3=>?_)
      ·obtain⟨y5,o5⟩:=z;obtain⟨j5,l5,f5⟩:=hz;dsimp only at j5 l5 f5;have lb5:=j5.lb;obtain⟨q5,hq5,_,mq5⟩:=aW (a:=b) (i:=y5-1) (by exact zE l5 lb5);refine Qu (a9 hp3 ?_);have j6:=j5.pushA l3 (by exact vd l5) hp3 hq5 (f5 q5 hq5);by_cases d2:x3-1=0
       ·refine aR (bT d2) ?_;exact Qx ⟨g4,.inl ⟨_,_,rfl,j6.doneA d2⟩⟩
       refine aO (bF d2) ?_;by_cases d3:(decide (ac2<7)&&decide (bc2<7))=true
       ·refine aR d3 ?_;exact Qx ⟨g4,.inr ⟨_,_,_,_,_,_,rfl,j6.less (by omega),by omega,l5⟩⟩
       refine aO d3 ?_;exact Qx ⟨g4,_,_,_,_,_,_,rfl,j6.less (by exact A4),by omega,l5⟩
      have ek':kk'=nb-1-k':=rfl;by_cases d2:kk'>0
      ·refine aR d2 ?_;have j5:HJ κ a b (x+1+x'+1) o4 x3 y4:=j4.runB l3 hp3 (by exact DE k1') λi h1 h2 p e=>nM (k3' i h1 h2 p e);have e2:y4=k':=rfl;by_cases d3:y4=1
       ·refine aR (bT d3) ?_;exact Qx ⟨g4,.inl ⟨_,_,rfl,j5.firstB d3⟩⟩
       refine aO (bF d3) ?_;by_cases d4:y4=0
       ·refine aR (bT d4) ?_;exact Qx ⟨g4,.inl ⟨_,_,rfl,j5.doneB d4⟩⟩
       refine aO (bF d4) ?_;exact J3 (y4,o4) ⟨j5,by dsimp only;exact DC d3 d4,λq e=>nH (k2' (y4-1) (by omega) q e)⟩
      refine aO d2 ?_;exact J3 (nb-1,_) ⟨j4,AQ l2 d1,λq e=>nH (k2' (nb-1-1) (by exact DB l2 ek' d2) q e)⟩
     have ek:kk=na-k:=rfl;by_cases d1:kk>0
     ·refine aR d1 ?_;have j3:HJ κ a b (x+1+x') o2 x2 nb:=j.runA (by exact vd l2) hq (by exact zD k1) λi h1 h2 p e=>nK (k3 i h1 h2 p e);have e2:x2=k:=rfl;by_cases d2:x2=0
      ·refine aR (bT d2) ?_;exact Qx ⟨g4,.inl ⟨_,_,rfl,j3.doneA d2⟩⟩
      refine aO (bF d2) ?_;exact J2 (x2,o2) ⟨j3,by dsimp only;exact C9 d2,λp e=>nJ (k2 (x2-1) (by omega) p e)⟩
     refine aO d1 ?_;exact J2 (na,out) ⟨j,l1,λp e=>nJ (k2 (na-1) (by exact C8 l1 ek d1) p e)⟩
    by_cases d:m1>1
    ·refine aR d ?_;exact J _ trivial
    refine aO d ?_;exact J _ trivial
end
section
structure Sg (lo:Nat) (st st':SortSt):Prop where
 kind:kindOf st'=kindOf st
 pend:pendingOf st'=pendingOf st
 fail:failedOf st'=failedOf st
 head:∀i,i<lo->(arrOf st')[i]?=(arrOf st)[i]?
 perm:(arrOf st').Perm (arrOf st)
theorem Sg.refl (lo:Nat) (st:SortSt):Sg lo st st:=⟨rfl,rfl,rfl,λ_ _=>rfl,Array.Perm.refl _⟩
variable {a b c st:SortSt} {lo i n nrem:Nat}
theorem Sg.trans (x:Sg lo a b) (y:Sg lo b c):Sg lo a c:=⟨y.kind.trans x.kind,y.pend.trans x.pend,y.fail.trans x.fail,λi h=>(y.head i h).trans (x.head i h),y.perm.trans x.perm⟩
theorem Sg.size (x:Sg lo a b):(arrOf b).size=(arrOf a).size:=x.perm.size_eq
theorem Sg.keys (x:Sg lo a b) (h:∀p∈(arrOf a).toList,Hk κ p):∀p∈(arrOf b).toList,Hk κ p:=λp hp=>h p ((Array.perm_iff_toList_perm.mp x.perm).mem_iff.mp hp)
variable {xs:Array Keyed}
theorem vJ {p:Keyed} (h:xs[i]?=some p):KK κ xs i=kv κ p:=by unfold KK kv;rw[h]
theorem fV (hL:iH κ kd prog w A s) {i j:Nat} {Q:Option Bool->SortSt->Prop} (hk:kindOf st=kd) (ha:∀p∈(arrOf st).toList,Hk κ p) (hi:i<(arrOf st).size) (hj:j<(arrOf st).size)
  (h:Q (some (κ.blt (KK κ (arrOf st) i) (KK κ (arrOf st) j))) st):wpS (model prog w) A E s (ltAt' i j) Q st:=by
 obtain⟨p,hp,_,mp⟩:=aW hi;obtain⟨q,hq,_,mq⟩:=aW hj;rw[vJ hp,vJ hq]at h;rw[ltAt'_eq];exact Qu (wpS_get (Qu (a9 hp (Qu (a9 hq (jj hL hk (ha p mp) (ha q mq) h))))))
def Up (κ:KeyKind) (xs:Array Keyed) (lo n:Nat):Prop:=∀i j,i<=j->j<n->κ.kle (KK κ xs (lo+i)) (KK κ xs (lo+j))
def nZ (κ:KeyKind) (xs:Array Keyed) (lo n:Nat):Prop:=∀i j,i<=j->j<n->κ.kle (KK κ xs (lo+j)) (KK κ xs (lo+i))
theorem Up.one:Up κ xs lo 1:=λi j h1 h2=>by
 have:i=j:=by exact C7 h1 h2
 subst this;exact XM _
theorem Up.more (h:Up κ xs lo n) (h1:1<=n) (c:κ.kle (KK κ xs (lo+(n-1))) (KK κ xs (lo+n))):Up κ xs lo (n+1):=λi j hij hj=>by
 by_cases e:j<n
 ·exact h i j hij e
 have:j=n:=by exact yI hj e
 subst this;by_cases e2:i=j
 ·subst e2;exact XM _
 exact KeyOrd.kle_trans (h i (j-1) (by exact yH hij h1 e2) (by exact tm h1)) c
theorem nZ.more (h:nZ κ xs lo n) (h1:1<=n) (c:κ.kle (KK κ xs (lo+n)) (KK κ xs (lo+(n-1)))):nZ κ xs lo (n+1):=λi j hij hj=>by
 by_cases e:j<n
 ·exact h i j hij e
 have:j=n:=by exact yI hj e
 subst this;by_cases e2:i=j
 ·subst e2;exact XM _
 exact KeyOrd.kle_trans c (h i (j-1) (by exact yH hij h1 e2) (by exact tm h1))
theorem re {lo a:Nat} {f:Nat->Option (Option Nat) × Nat->StateT SortSt Sem (ForInStep (Option (Option Nat) × Nat))} {Q:Option (Option Nat) × Nat->SortSt->Prop} (h1:1<=a) (h2:a<=nrem) (up:Up κ (arrOf st) lo a)
  (hf:∀x n (R:ForInStep (Option (Option Nat) × Nat)->SortSt->Prop),1<=n->n<nrem->(κ.klt (KK κ (arrOf st) (lo+n)) (KK κ (arrOf st) (lo+(n-1)))->R (.done (none,n)) st)->(κ.kle (KK κ (arrOf st) (lo+(n-1))) (KK κ (arrOf st) (lo+n))->R (.yield (none,n+1)) st)->wpS (model prog w) A E s (f x (none,n)) R st)
  (h:∀n,a<=n->n<=nrem->Up κ (arrOf st) lo n->(n=nrem\/κ.klt (KK κ (arrOf st) (lo+n)) (KK κ (arrOf st) (lo+(n-1))))->Q (none,n) st):wpS (model prog w) A E s (forIn [a:nrem] (none,a) f) Q st:=by
 refine Xs (I:=λx c st'=>st'=st/\c=(none,x)/\Up κ (arrOf st) lo x) ?_ ?_ ⟨rfl,rfl,up⟩
 ·rintro x c st' hax hx ⟨rfl,rfl,u⟩;exact hf x x _ (by exact yG h1 hax) hx (λe=>h x hax (by exact vi hx) u (.inr e)) λe=>⟨rfl,rfl,u.more (by exact yG h1 hax) e⟩
 rintro c st' ⟨rfl,rfl,u⟩;rw[show max a nrem=nrem by exact C6 h2]at u ⊢;exact h nrem h2 (Qg _) u (.inl rfl)
theorem i7 {lo i j:Nat} {Q:Unit->SortSt->Prop} (hi:lo<=i) (hj:j<=(arrOf st).size) (h:∀st',Sg lo st st'->(∀k,KK κ (arrOf st') k=if i<=k/\k<j then KK κ (arrOf st) (i+j-1-k) else KK κ (arrOf st) k)->Q () st'):wpS (model prog w) A E s (reverseSlice' i j) Q st:=by
 rw[reverseSlice'_eq];refine wpS_modify (h _ ⟨rfl,rfl,rfl,λk hk=>?_,mirror_perm _ _ _ _⟩ λk=>KK_mirror hj k);show (mirror (arrOf st) i j ((j-i) / 2))[k]?=_;rw[getElem?_mirror_all hj,QB (by exact C5 hi hk)]
theorem gG {σ α β:Type} {M:Model} {Q:α->σ->Prop} {st:σ} {m:StateT σ Sem α} (f:β->StateT σ Sem α) (I:β->σ->Prop) (J:∀z st',I z st'->wpS M A E s (f z) Q st') (h:(∀z st',I z st'->wpS M A E s (f z) Q st')->wpS M A E s m Q st):wpS M A E s m Q st:=h J
def lZ:Nat->Nat->StateT SortSt Sem (Option Nat):=sortPriv% PySem.Builtin.countRun
theorem sI (hL:iH κ kd prog w A s) {lo nrem:Nat} {Q:Option Nat->SortSt->Prop} (hk:kindOf st=kd) (ha:∀p∈(arrOf st).toList,Hk κ p) (h1:1<=nrem) (hn:lo+nrem<=(arrOf st).size)
  (h:∀m st',Sg lo st st'->1<=m->m<=nrem->Up κ (arrOf st') lo m->Q (some m) st'):wpS (model prog w) A E s (lZ lo nrem) Q st:=by
 unfold lZ;refine Qu (re (κ:=κ) (lo:=lo) (Qg 1) h1 Up.one (λx n R a1 a2 r1 r2=>?_) λn a1 a2 up stop=>?_)
 ·extract_lets
  refine Qu (fV hL hk ha (by omega) (by omega) ?_);rw[show lo+n-1=lo+(n-1) by exact yF a1];dsimp -zeta only
  cases e:κ.blt (KK κ (arrOf st) (lo+n)) (KK κ (arrOf st) (lo+(n-1))) with
  | true=>refine aR rfl ?_;exact Qx (r1 e)
  | false=>refine aO Qn ?_;exact Qx (r2 e)
 show wpS _ _ _ _ (if (n==nrem)=true then pure (some n) else _) _ _;by_cases hnn:n=nrem
 ·refine aR (bT hnn) ?_;exact Qx (h n st (.refl _ _) a1 a2 up)
 refine aO (bF hnn) ?_;have lt0:=stop.resolve_left hnn
 extract_lets jn jq jp
 refine gG (λ_:Unit=>jp ()) (λ_ st'=>Sg lo st st'/\nZ κ (arrOf st') lo (n+1)) (λ_ st1 hz=>?_) (λJ=>?_)
 ·obtain⟨g1,dn⟩:=hz;refine Qu (wpS_lift (XO ⟨rfl,?_⟩))
  refine Qu (wpS_mono (Xs (I:=λx c st'=>∃neq,c=(none,x,neq)/\Sg lo st st'/\nZ κ (arrOf st') lo x/\neq+1<=x/\∀i,x-(neq+1)<=i->i<x->KK κ (arrOf st') (lo+i)=KK κ (arrOf st') (lo+(x-1)))
   (Q:=λc st'=>∃x neq,c=(none,x,neq)/\Sg lo st st'/\x<=nrem/\nZ κ (arrOf st') lo x/\neq+1<=x/\∀i,x-(neq+1)<=i->i<x->KK κ (arrOf st') (lo+i)=KK κ (arrOf st') (lo+(x-1))) ?step ?fin ⟨0,rfl,g1,dn,by omega,λi i1 i2=>by rw[show i=n+1-1 by omega]⟩) ?post)
  case fin =>
   rintro c st' ⟨neq,rfl,b1,b2,b3,b4⟩;rw[show max (n+1) nrem=nrem by exact C3 a2 hnn]at b2 b3 b4 ⊢;exact⟨nrem,neq,rfl,b1,Qg _,b2,b3,b4⟩
  case step =>
   rintro x c st' hax hx ⟨neq,rfl,b1,b2,b3,b4⟩;have sz:=b1.size;have hk':kindOf st'=kd:=b1.kind.trans hk;have ha':=b1.keys ha;refine Qu (fV (i:=lo+x) (j:=lo+x-1) hL hk' ha' (by exact rO hn hx sz) (by omega) ?_);rw[show lo+x-1=lo+(x-1) by exact C2 b3];dsimp -zeta only
   extract_lets
   cases e:κ.blt (KK κ (arrOf st') (lo+x)) (KK κ (arrOf st') (lo+(x-1))) with
   | true =>
    refine aR rfl ?_;have d1:=b2.more (by exact vh b3) (KeyOrd.kle_of_klt e);by_cases c:neq>0
    ·refine aR c ?_;refine Qu (i7 (κ:=κ) (lo:=lo) (by exact yE b3) (by exact C1 hn hx sz) λst2 g2 kk=>?_)
     have kk:∀i,KK κ (arrOf st2) (lo+i)=KK κ (arrOf st') (lo+i):=λi=>by
      rw[kk]
      split
      ·rename_i q
       obtain⟨e1,e2,e3,e4,e5⟩:=ym b3 q;rw[e1,b4 _ e2 e3,b4 i e4 e5]
      rfl
     exact Qx ⟨0,rfl,b1.trans g2,λi j h1 h2=>by rw[kk,kk];exact d1 i j h1 h2,by exact yD,λi i1 i2=>by rw[show i=x+1-1 by exact C0 i1 i2]⟩
    refine aO c ?_;exact Qx ⟨0,rfl,b1,d1,by exact yD,λi i1 i2=>by rw[show i=x+1-1 by omega]⟩
   | false =>
   refine aO Qn ?_;refine Qu (fV (i:=lo+(x-1)) (j:=lo+x) hL hk' ha' (by omega) (by exact rO hn hx sz) ?_);dsimp -zeta only
   cases e2:κ.blt (KK κ (arrOf st') (lo+(x-1))) (KK κ (arrOf st') (lo+x)) with
   | true =>
    refine aR rfl ?_;exact Qx ⟨x,neq,rfl,b1,by exact vi hx,b2,b3,b4⟩
   | false =>
   refine aO Qn ?_;have eq:KK κ (arrOf st') (lo+x)=KK κ (arrOf st') (lo+(x-1)):=KeyOrd.kle_antisymm e2 e;refine Qx ⟨neq+1,rfl,b1,b2.more (by exact vh b3) (by rw[eq];exact XM _),by exact CZ b3,λi i1 i2=>?_⟩;rw[show x+1-1=x by exact CY];by_cases ix:i=x
   ·rw[ix]
   rw[b4 i (by omega) (by exact CW i2 ix),eq]
  case post =>
   rintro c st2 ⟨x,neq,rfl,b1,b2,b3,b4,b5⟩
   extract_lets r2 s2 n2 q2 jp2
   have sz:=b1.size;refine gG (λ_:Unit=>jp2 ()) (λ_ st'=>Sg lo st st'/\nZ κ (arrOf st') lo x) (λ_ st3 hz=>?_) (λJ2=>?_)
   ·obtain⟨g3,dn3⟩:=hz;have sz3:=g3.size;refine Qu (i7 (κ:=κ) (lo:=lo) (Qg _) (show lo+x<=_ by exact CV hn b2 sz sz3) λst4 g4 kk=>?_);have g5:=g3.trans g4;have sz5:=g5.size;refine Qu (re (κ:=κ) (lo:=lo) (show 1<=x by exact vh b4) b2 (λi j h1 h2=>?_) (λy n R a1 a2 r1 r2=>?_) λn a1 a2 up stop=>?_)
    ·have h2:j<x:=h2;rw[kk,kk,QF (by exact CU h1 h2),QF (by exact CS h2),show lo+(lo+x)-1-(lo+i)=lo+(x-1-i) by exact vb (XA h1 h2),show lo+(lo+x)-1-(lo+j)=lo+(x-1-j) by exact vb h2];exact dn3 _ _ (by exact CQ h1 h2) (by exact CP h1 h2)
    ·refine Qu (fV hL (g5.kind.trans hk) (g5.keys ha) (by omega) (by omega) ?_);rw[show lo+n-1=lo+(n-1) by exact yF a1];dsimp -zeta only
     cases e:κ.blt (KK κ (arrOf st4) (lo+n)) (KK κ (arrOf st4) (lo+(n-1))) with
     | true=>refine aR rfl ?_;exact Qx (r1 e)
     | false=>refine aO Qn ?_;exact Qx (r2 e)
    have a1:x<=n:=a1;exact Qx (h n st4 g5 (by exact CO b4 a1) a2 up)
   by_cases c:neq>0
   ·show wpS _ _ _ _ (if neq>0 then _ else _) _ _;refine aR c ?_;refine Qu (i7 (κ:=κ) (lo:=lo) (i:=lo+x-(neq+1)) (j:=lo+x) (show lo<=lo+x-(neq+1) by exact yE b4) (show lo+x<=_ by exact CN hn b2 sz) λst3 g3 kk=>?_)
    have kk:∀i,KK κ (arrOf st3) (lo+i)=KK κ (arrOf st2) (lo+i):=λi=>by
     rw[kk]
     split
     ·rename_i q
      obtain⟨e1,e2,e3,e4,e5⟩:=ym b4 q;rw[e1,b5 _ e2 e3,b5 i e4 e5]
     rfl
    exact J2 () st3 ⟨b1.trans g3,λi j h1 h2=>by rw[kk,kk];exact b3 i j h1 h2⟩
   show wpS _ _ _ _ (if neq>0 then _ else _) _ _;refine aO c ?_;exact J2 () st2 ⟨b1,b3⟩
 by_cases c:n>1
 ·refine aR c ?_;refine Qu (fV hL hk ha (by exact CL h1 hn) (by omega) ?_);rw[show lo+n-1=lo+(n-1) by exact CK c];dsimp -zeta only
  cases e:κ.blt (KK κ (arrOf st) lo) (KK κ (arrOf st) (lo+(n-1))) with
  | true =>
   refine aR rfl ?_;exact Qx (h n st (.refl _ _) a1 a2 up)
  | false =>
  refine aO Qn ?_
  have all:∀i,i<n->KK κ (arrOf st) (lo+i)=KK κ (arrOf st) (lo+(n-1)):=λi hi =>
   KeyOrd.kle_antisymm (up i (n-1) (by exact CJ c hi) (by exact CI c)) (KeyOrd.kle_trans e (by have:=up 0 i (by exact zJ) hi;rwa [Nat.add_zero]at this))
  refine Qu (i7 (κ:=κ) (lo:=lo) (Qg _) (show lo+n<=_ by exact CG hn a2) λst3 g3 kk=>?_)
  have kk:∀i,KK κ (arrOf st3) (lo+i)=KK κ (arrOf st) (lo+i):=λi=>by
   rw[kk]
   split
   ·rename_i q
    have l:=Nat.lt_of_add_lt_add_left q.2;rw[vb l,all _ (XA (Nat.sub_le _ _) (Nat.sub_lt (XA (QN _) l) Nat.zero_lt_one)),all i l]
   rfl
  refine J () st3 ⟨g3,nZ.more (λi j h1 h2=>?_) a1 ?_⟩
  ·rw[kk,kk,all i (by exact CF h1 h2),all j h2];exact XM _
  rw[kk,kk];exact KeyOrd.kle_of_klt lt0
 refine aO c ?_;refine J () st ⟨.refl _ _,nZ.more (λi j h1 h2=>?_) a1 (KeyOrd.kle_of_klt lt0)⟩;have:i=j:=by exact CD a1 c h1 h2
 subst this;exact XM _
end
section
def Dp:Nat->Nat->Nat->StateT SortSt Sem Bool:=sortPriv% PySem.Builtin.binarySort
theorem wC (hL:iH κ kd prog w A s) {st:SortSt} {lo n ok:Nat} {Q:Bool->SortSt->Prop} (hk:kindOf st=kd) (ha:∀p∈(arrOf st).toList,Hk κ p) (h1:ok<=n) (hn:lo+n<=(arrOf st).size) (up:Up κ (arrOf st) lo ok)
  (h:∀st',Sg lo st st'->Up κ (arrOf st') lo n->Q true st'):wpS (model prog w) A E s (Dp lo n ok) Q st:=by
 unfold Dp;refine Qu (wpS_mono (Xs (I:=λk c st'=>c=(none,())/\Sg lo st st'/\Up κ (arrOf st') lo (min k n)) (Q:=λc st'=>c=(none,())/\Sg lo st st'/\Up κ (arrOf st') lo n) ?step ?fin ?init) ?post)
 case post =>
  rintro c st' ⟨rfl,g,u⟩;exact Qx (h st' g u)
 case init =>
  refine⟨rfl,.refl _ _,λi j hij hj=>?_⟩;by_cases e:ok=0
  ·have:i=j:=by exact CC hij hj e
   subst this;exact XM _
  exact up i j hij (by exact CB h1 hj e)
 case fin =>
  rintro c st' ⟨rfl,g,u⟩;rw[show min (max (max ok 1) n) n=n by exact CA]at u;exact⟨rfl,g,u⟩
 case step =>
  rintro k c st' k1 k2 ⟨rfl,g,u⟩;rw[show min k n=k by exact Cy k2]at u;have sz:=g.size
  refine Qu (wpS_mono (Xs (I:=λx c st2=>st2=st'/\∃l r,c=(none,l,r)/\l<=r/\r<=k/\r-l<=k-x/\(∀i,i<l->κ.kle (KK κ (arrOf st') (lo+i)) (KK κ (arrOf st') (lo+k)))/\(∀i,r<=i->i<k->κ.kle (KK κ (arrOf st') (lo+k)) (KK κ (arrOf st') (lo+i))))
   (Q:=λc st2=>st2=st'/\∃l,c=(none,l,l)/\l<=k/\(∀i,i<l->κ.kle (KK κ (arrOf st') (lo+i)) (KK κ (arrOf st') (lo+k)))/\(∀i,l<=i->i<k->κ.kle (KK κ (arrOf st') (lo+k)) (KK κ (arrOf st') (lo+i)))) ?istep ?ifin ⟨rfl,0,k,rfl,by exact zJ,by exact Cw,by exact Cv,λi hi=>by omega,λi a b=>by omega⟩) ?ipost)
  case ifin =>
   rintro c st2 ⟨rfl,l,r,rfl,a1,a2,a3,a4,a5⟩;have:l=r:=by exact Bl a1 a3
   subst this;exact⟨rfl,l,rfl,a2,a4,a5⟩
  case istep =>
   rintro x c st2 _ hx ⟨rfl,l,r,rfl,a1,a2,a3,a4,a5⟩;dsimp -zeta only
   extract_lets
   by_cases c:l>=r
   ·show wpS _ _ _ _ (if l>=r then _ else _) _ _;refine aR c ?_;have:l=r:=by exact zK a1 c
    subst this;exact Qx ⟨rfl,l,rfl,a2,a4,a5⟩
   show wpS _ _ _ _ (if l>=r then _ else _) _ _;refine aO c ?_;refine Qu (fV (i:=lo+k) (j:=lo+(l+r) / 2) hL (g.kind.trans hk) (g.keys ha) (by exact rO hn k2 sz) (by omega) ?_);dsimp -zeta only
   cases e:κ.blt (KK κ (arrOf st2) (lo+k)) (KK κ (arrOf st2) (lo+(l+r) / 2)) with
   | true =>
    refine aR rfl ?_;refine Qx ⟨rfl,l,(l+r) / 2,rfl,by exact Cu c,by exact Ct a2 c,AT a3 c,a4,λi b1 b2=>?_⟩;exact KeyOrd.kle_trans (KeyOrd.kle_of_klt e) (u _ _ b1 b2)
   | false =>
   refine aO Qn ?_;refine Qx ⟨rfl,(l+r) / 2+1,r,rfl,by exact Cs c,by exact zD a2,AU a3 c,λi b1=>?_,a5⟩;exact KeyOrd.kle_trans (u i ((l+r) / 2) (by exact Cr b1) (by exact Cq a2 c)) e
  case ipost =>
   rintro c st2 ⟨rfl,l,rfl,a2,a4,a5⟩;show wpS _ _ _ _ (moveDown' (lo+k) (lo+l) >>= _) _ _;rw[moveDown'_eq];have hks:lo+k<(arrOf st2).size:=by exact rO hn k2 sz
   refine Qu (wpS_modify (Qx ⟨rfl,g.trans ⟨rfl,rfl,rfl,λi hi=>?_,bubble_perm _ _ _⟩,λi j hij hj=>?_⟩))
   ·show (bubble (arrOf st2) (lo+k) (lo+k-(lo+l)))[i]?=_;rw[getElem?_bubble hks _ (by exact Cp a2 hi),QB (by exact Co a2 hi),QB (by omega)]
   rw[show min (k+1) n=k+1 by exact Cn k2]at hj;show κ.kle (KK κ (bubble (arrOf st2) (lo+k) (lo+k-(lo+l))) (lo+i)) (KK κ (bubble (arrOf st2) (lo+k) (lo+k-(lo+l))) (lo+j));rw[KK_bubble hks (by exact yC a2),KK_bubble hks (by exact yC a2),show lo+k-(lo+k-(lo+l))=lo+l by exact Cm a2];have sh:∀i,l<i->lo+i-1=lo+(i-1):=λi hi=>by exact Cl hi
   by_cases ci:i<l
   ·rw[QB (by exact yB ci),QB (by exact yA ci)];by_cases cj:j<l
    ·rw[QB (by exact yB cj),QB (by exact yA cj)];exact u i j hij (by exact Ck a2 hj cj)
    by_cases cj2:j=l
    ·rw[QF (by exact yz cj2)];exact a4 i ci
    rw[QB (by exact yy cj2),QF (by omega),sh j (by exact yx cj cj2)];exact u i (j-1) (by exact Cj hij ci cj) (by exact Ci a2 hij hj ci)
   by_cases ci2:i=l
   ·rw[QF (by exact yz ci2)];by_cases cj2:j=l
    ·rw[QF (by exact Ch ci2 cj2)];exact XM _
    rw[QB (by exact Cg ci2 cj2),QF (by omega),sh j (by exact Cf hij ci2 cj2)];exact a5 (j-1) (by exact Ce hij ci2 cj2) (by exact Cd hij hj ci2 cj2)
   rw[QB (by exact yy ci2),QF (by omega),QB (by exact Cc hij ci ci2),QF (by omega),sh i (by exact yx ci ci2),sh j (by exact Cb hij ci ci2)];exact u (i-1) (j-1) (by exact Ca hij) (by exact B_ hij hj ci ci2)
end
theorem oO (o:Nat):∀(M:List Keyed) (j:Nat) (arr:Array Keyed) (P S T:List Keyed),arr.toList=P++(S++T)->P.length=o+j->S.length=M.length->((M.zipIdx j).foldl (λa (x:Keyed × Nat)=>a.setIfInBounds (o+x.2) x.1) arr).toList=P++(M++T)
 | [],j,arr,P,S,T,h,hp,hs=>by
  have:S=[]:=Xa hs;subst this;exact h
 | p::M,j,arr,P,[],T,h,hp,hs=>by simp at hs
 | p::M,j,arr,P,q::S,T,h,hp,hs=>by
  rw[List.zipIdx_cons,List.foldl_cons]
  have e:(arr.setIfInBounds (o+j) p).toList=(P++[p])++(S++T):=by
   rw[Array.toList_setIfInBounds,h,List.set_append,QB (by exact B9 hp),show o+j-P.length=0 by exact B8 hp];simp
  have:=oO o M (j+1) (arr.setIfInBounds (o+j) p) (P++[p]) S T e (by rw[Qj];simp;exact B7 hp) (by simpa using hs);rw[this];simp
def fh:Nat->List (List Keyed)->List (Nat × Nat)
 | _,[]=>[]
 | b,r::rs=>(b,r.length)::fh (b+r.length) rs
theorem gR (u w:List (List Keyed)):∀b,fh b (u++w)=fh b u++fh (b+u.flatten.length) w:=by
 induction u with
 | nil=>intro b;simp[fh]
 | cons r u ih =>
 intro b;show (b,r.length)::fh (b+r.length) (u++w)=_;rw[ih];show _=(b,r.length)::(fh (b+r.length) u++_);rw[List.flatten_cons,Qj,Nat.add_assoc]
theorem oY (u:List (List Keyed)):∀b,(fh b u).length=u.length:=by
 induction u with
 | nil=>intro b;rfl
 | cons r u ih=>intro b;show (fh _ u).length+1=_;rw[ih];rfl
structure RI (κ:KeyKind) (kd:SortKind) (a₀:Array Keyed) (st:SortSt) (rs:List (List Keyed)) (rest:List Keyed):Prop where
 arr:(arrOf st).toList=rs.flatten++rest
 perm:(arrOf st).Perm a₀
 ok:∀r∈rs,r≠[]/\r.Pairwise (le κ)
 pend:(pendingOf st).toList.map (λp=>(p.1,p.2.1))=fh 0 rs
 kind:kindOf st=kd
 fail:failedOf st=none
theorem wT {ps:Array (Nat × Nat × Nat)} {u v:List (List Keyed)} {X Y:List Keyed} (h:ps.toList.map (λp=>(p.1,p.2.1))=fh 0 (u++X::Y::v)) :
  ∃p1 p2,ps[u.length]?=some (u.flatten.length,X.length,p1)/\ps[u.length+1]?=some (u.flatten.length+X.length,Y.length,p2) /\
   ((ps.setIfInBounds u.length (u.flatten.length,X.length+Y.length,p1)).eraseIdxIfInBounds (u.length+1)).toList.map (λp=>(p.1,p.2.1))=fh 0 u++(u.flatten.length,X.length+Y.length)::fh (u.flatten.length+X.length+Y.length) v:=by
 rw[gR,Nat.zero_add]at h;have h:ps.toList.map (λp=>(p.1,p.2.1))=fh 0 u++(u.flatten.length,X.length)::(u.flatten.length+X.length,Y.length)::fh (u.flatten.length+X.length+Y.length) v:=h;have lu:=oY u 0;obtain⟨l1,l2,e,e1,e2⟩:=List.map_eq_append_iff.mp h
 cases l2 with
 | nil=>simp at e2
 | cons a l2 =>
 cases l2 with
 | nil=>simp at e2
 | cons b l2 =>
 obtain⟨a1,a2,a3⟩:=a;obtain⟨b1,b2,b3⟩:=b;simp only[QI,List.cons.injEq,Prod.mk.injEq]at e2;obtain⟨⟨rfl,rfl⟩,⟨rfl,rfl⟩,e3⟩:=e2;have l1l:l1.length=u.length:=by rw[<-lu,<-e1,Qa]
 have pe:ps=(l1++(u.flatten.length,X.length,a3)::(u.flatten.length+X.length,Y.length,b3)::l2).toArray:=by rw[<-e]
 subst pe;refine⟨a3,b3,?_,?_,?_⟩
 ·rw[<-l1l];simp
 ·rw[<-l1l];simp[QE]
 rw[<-l1l,<-e1,<-e3];simp[Array.eraseIdxIfInBounds,List.set_append,List.eraseIdx_append];rw[QB (by exact B6)];simp
section
theorem wB {σ:Type} {M:Model} {x:σ} {Q:PUnit->σ->Prop} {st:σ} (h:Q ⟨⟩ x):wpS M A E s (set x:StateT σ Sem PUnit) Q st:=by
 unfold wpS;rw[StateT.run_set];exact Qf ⟨rfl,h⟩
theorem iJ (hL:iH κ kd prog w A s) {st:SortSt} {a₀:Array Keyed} {u v:List (List Keyed)} {X Y rest:List Keyed} {Q:Bool->SortSt->Prop} (ha:∀p∈a₀.toList,Hk κ p) (I:RI κ kd a₀ st (u++X::Y::v) rest)
  (h:∀Z st',Z.length=X.length+Y.length->RI κ kd a₀ st' (u++Z::v) rest->Q true st'):wpS (model prog w) A E s (mergeAt' u.length) Q st:=by
 obtain⟨earr,perm,ok,pend,kind,fail⟩:=I;obtain⟨p1,p2,e1,e2,e3⟩:=wT pend;obtain⟨xne,sx⟩:=ok X (by simp);obtain⟨yne,sy⟩:=ok Y (by simp);have xl:1<=X.length:=Nat.pos_of_ne_zero λz=>xne (Xa z);have yl:1<=Y.length:=Nat.pos_of_ne_zero λz=>yne (Xa z);have ha':∀p∈(arrOf st).toList,Hk κ p:=λp hp=>ha p ((Array.perm_iff_toList_perm.mp perm).mem_iff.mp hp);have earr:(arrOf st).toList=u.flatten++(X++(Y++(v.flatten++rest))):=by rw[earr];simp
 have sz:(arrOf st).size=u.flatten.length+(X.length+(Y.length+(v.flatten++rest).length)):=by rw[<-Qo,earr];simp only[Qj]
 have atX:∀i,i<X.length->(arrOf st)[u.flatten.length+i]?=X[i]?:=λi hi=>by rw[<-Qy,earr,QE (by exact vf),Xz,QG hi]
 have atY:∀i,i<Y.length->(arrOf st)[u.flatten.length+X.length+i]?=Y[i]?:=λi hi=>by rw[<-Qy,earr,QE (by exact B5 xl sz),QE (by exact B4 xl sz),show u.flatten.length+X.length+i-u.flatten.length-X.length=i by exact B3,QG hi]
 obtain⟨y0,hy0⟩:∃y0,Y[0]?=some y0:=⟨Y[0],by rw[Qc]⟩;obtain⟨xz,hxz⟩:∃xz,X[X.length-1]?=some xz:=⟨X[X.length-1],by rw[Qc]⟩;have key0:(arrOf st)[u.flatten.length+X.length]?=some y0:=by have:=atY 0 (by exact ve yl);rw[Nat.add_zero]at this;rw[this,hy0]
 have pwi:∀{L:List Keyed},L.Pairwise (le κ)->∀{i j:Nat} {p q:Keyed},i<=j->L[i]?=some p->L[j]?=some q->le κ p q:=λ{L} sl {i j p q} hij hi hj=>by
  by_cases e:i=j
  ·subst e;rw[hi]at hj;cases hj;exact XM _
  obtain⟨li,ei⟩:=Qe.mp hi;obtain⟨lj,ej⟩:=Qe.mp hj;have:=(List.pairwise_iff_getElem.mp sl) i j li lj (by exact A8 hij e);rwa [ei,ej]at this
 have leY:∀q∈Y,le κ y0 q:=λq hq=>by
  obtain⟨j,hj,ej⟩:=Qq.mp hq;exact pwi sy (QN j) hy0 (by rw[Qc hj,ej])
 have leX:∀p∈X,le κ p xz:=λp hp=>by
  obtain⟨j,hj,ej⟩:=Qq.mp hp;exact pwi sx (show j<=X.length-1 by exact B2 xl sz hj) (by rw[Qc hj,ej]) hxz
 have same:∀st',arrOf st'=arrOf st->kindOf st'=kindOf st->failedOf st'=failedOf st->(pendingOf st').toList.map (λp=>(p.1,p.2.1))=fh 0 u++(u.flatten.length,X.length+Y.length)::fh (u.flatten.length+X.length+Y.length) v->(∀p∈X,∀q∈Y,le κ p q)->Q true st':=λst' h1 h2 h3 h4 h5=>by
  refine h (X++Y) st' (by simp) ⟨by rw[h1,earr];simp,by rw[h1];exact perm,λr hr=>?_,?_,h2.trans kind,h3.trans fail⟩
  ·rcases Qv.mp hr with e|e
   ·exact ok r (by simp[e])
   rcases QV.mp e with e|e
   ·subst e;exact⟨by simp[xne],Xg.mpr ⟨sx,sy,h5⟩⟩
   exact ok r (by simp[e])
  rw[h4,gR,Nat.zero_add];show _=_++(u.flatten.length,(X++Y).length)::fh (u.flatten.length+(X++Y).length) v;rw[Qj,Nat.add_assoc]
 unfold mergeAt';refine Qu (wpS_get ?_);show wpS _ _ _ _ (match ((pendingOf st)[u.length]?,(pendingOf st)[u.length+1]?) with|(some (sa,na,power),some (sb,nb,_))=>_|x=>_) _ _;rw[e1,e2];dsimp -zeta only;refine Qu (wB ?_);refine Qu (a9 key0 ?_);have hk0:Hk κ y0:=ha' y0 (by rw[Array.mem_toList_iff];exact Array.mem_of_getElem? key0);refine Qu (fW (a:=arrOf st) (base:=u.flatten.length) (n:=X.length) (hint:=0) hL (by exact kind) hk0 ha' (by exact B1 yl sz) (λi j p q b1 b2 b3 c1 c2=>?_) (by exact B0 xl sz) λk k1 k2 k3=>?_)
 ·have f1:=atX (i-u.flatten.length) (by omega);have f2:=atX (j-u.flatten.length) (by omega);rw[show u.flatten.length+(i-u.flatten.length)=i by exact BZ b1,c1]at f1;rw[show u.flatten.length+(j-u.flatten.length)=j by exact BY b1 b2,c2]at f2;exact pwi sx (show i-u.flatten.length<=j-u.flatten.length by exact BX b1 b2) f1.symm f2.symm
 dsimp -zeta only;have k2':∀i,i<k->∀p,X[i]?=some p->le κ p y0:=λi hi p e=>nJ (k2 i hi p (by rw[atX i (by exact BW sz k1 hi)];exact e))
 have k3':∀i,k<=i->∀p,X[i]?=some p->le κ y0 p:=λi hi p e=>by
  have hl:=(Qe.mp e).1;exact nK (k3 i hi hl p (by rw[atX i hl];exact e))
 by_cases d1:X.length-k=0
 ·refine aR (bT d1) ?_;refine Qx (same _ rfl rfl rfl e3 λp hp q hq=>?_);obtain⟨j,hj,ej⟩:=Qq.mp hp;exact le_trans (k2' j (by omega) p (by rw[Qc hj,ej])) (leY q hq)
 refine aO (bF d1) ?_
 have keyz:(arrOf st)[u.flatten.length+k+(X.length-k)-1]?=some xz:=by
  rw[(AS (f:=u.flatten.length) k1).resolve_right (λz=>by rw[z]at xl;exact absurd xl (by decide)),atX _ (by exact BV xl sz),hxz]
 refine Qu (a9 keyz ?_);have hkz:Hk κ xz:=ha' xz (by rw[Array.mem_toList_iff];exact Array.mem_of_getElem? keyz);refine Qu (fW (a:=arrOf st) (base:=u.flatten.length+X.length) (n:=Y.length) (hint:=Y.length-1) hL (by exact kind) hkz ha' (by exact BU sz) (λi j p q b1 b2 b3 c1 c2=>?_) (by exact tm yl) λm m1 m2 m3=>?_)
 ·have f1:=atY (i-(u.flatten.length+X.length)) (by omega);have f2:=atY (j-(u.flatten.length+X.length)) (by omega);rw[show u.flatten.length+X.length+(i-(u.flatten.length+X.length))=i by omega,c1]at f1;rw[show u.flatten.length+X.length+(j-(u.flatten.length+X.length))=j by omega,c2]at f2;exact pwi sy (show i-(u.flatten.length+X.length)<=j-(u.flatten.length+X.length) by omega) f1.symm f2.symm
 dsimp -zeta only;have m2':∀i,i<m->∀p,Y[i]?=some p->le κ p xz:=λi hi p e=>nH (m2 i hi p (by rw[atY i (by exact yw m1 hi)];exact e))
 have m3':∀i,m<=i->∀p,Y[i]?=some p->le κ xz p:=λi hi p e=>by
  have hl:=(Qe.mp e).1;exact nM (m3 i hi hl p (by rw[atY i hl];exact e))
 by_cases d2:m=0
 ·refine aR (bT d2) ?_;refine Qx (same _ rfl rfl rfl e3 λp hp q hq=>?_);obtain⟨j,hj,ej⟩:=Qq.mp hq;exact le_trans (leX p hp) (m3' j (by exact BT d2) q (by rw[Qc hj,ej]))
 refine aO (bF d2) ?_
 extract_lets x y jp
 have ex:x.toList=X.drop k:=by
  show ((arrOf st).extract (u.flatten.length+k) (u.flatten.length+X.length)).toList=_;rw[show u.flatten.length+X.length=(u.flatten.length+k)+(X.length-k) by omega,jf,earr,<-List.drop_drop,List.drop_left,List.drop_append_of_le_length (by exact zD k1),List.take_append_of_le_length (by rw[Q4];exact om1),Qt (by rw[Q4];exact om1)]
 have ey:y.toList=Y.take m:=by
  show ((arrOf st).extract (u.flatten.length+X.length) (u.flatten.length+X.length+m)).toList=_;rw[jf,earr,<-List.drop_drop,List.drop_left,List.drop_left,List.take_append_of_le_length m1]
 have zx:x.size=X.length-k:=by rw[<-Qo,ex,Q4]
 have zy:y.size=m:=by rw[<-Qo,ey,Qs];omega
 have atx:∀{i p},x[i]?=some p->X[k+i]?=some p:=λ{i p} e=>by rw[<-Qy,ex,XN]at e;exact e
 have aty:∀{i p},y[i]?=some p->Y[i]?=some p:=λ{i p} e=>by
  have hl:=(Q9.mp e).1;rw[<-Qy,ey,List.getElem?_take,QF (by exact zM zy hl)]at e;exact e
 have inX:∀p∈x.toList,∃i,k<=i/\X[i]?=some p:=λp hp=>by
  obtain⟨i,hi,ei⟩:=Qq.mp hp;exact⟨k+i,by exact vf,atx (by rw[<-Qy,Qc hi,ei])⟩
 have inY:∀p∈y.toList,∃i,i<m/\Y[i]?=some p:=λp hp=>by
  obtain⟨i,hi,ei⟩:=Qq.mp hp;rw[Qo]at hi;exact⟨i,by exact zM zy hi,aty (by rw[<-Qy,Qc (by rw[Qo];exact hi),ei])⟩
 have mX:∀{p i},X[i]?=some p->p∈X:=λe=>Qi e
 have hx:∀p∈x.toList,Hk κ p:=λp hp=>by
  obtain⟨i,_,e⟩:=inX p hp;exact ha' p (by rw[earr];simp[Qi e])
 have hy:∀p∈y.toList,Hk κ p:=λp hp=>by
  obtain⟨i,_,e⟩:=inY p hp;exact ha' p (by rw[earr];simp[Qi e])
 have ssx:x.toList.Pairwise (le κ):=by rw[ex];exact sx.sublist (List.drop_sublist _ _)
 have ssy:y.toList.Pairwise (le κ):=by rw[ey];exact sy.sublist (List.take_sublist _ _)
 have first:∀p∈x.toList,∀q,y[0]?=some q->le κ q p:=λp hp q hq=>by
  obtain⟨i,hi,e⟩:=inX p hp;have:=aty hq;rw[hy0]at this;cases this;exact k3' i hi p e
 have last:∀q∈y.toList,∀p,x[x.size-1]?=some p->le κ q p:=λq hq p hp=>by
  obtain⟨i,hi,e⟩:=inY q hq;have:=atx hp;rw[AR k1 d1 zx,hxz]at this;cases this;exact m2' i hi q e
 refine gG (λz:Array Keyed=>jp z) (λz st'=>Gs (setPending st (((pendingOf st).setIfInBounds u.length (u.flatten.length,X.length+Y.length,p1)).eraseIdxIfInBounds (u.length+1))) st'/\Srt κ (x.toList++y.toList) z.toList) (λz st1 hz=>?_) (λJ=>?_)
 ·obtain⟨g,so⟩:=hz;refine Qu (wpS_modify ?_);refine Qu (wpS_get ?_);have f1:failedOf st1=none:=g.fail.trans fail;have lz:z.toList.length=(X.length-k)+m:=by rw[so.1.length_eq,Qj,Qo,Qo,zx,zy]
  have ar:(List.foldl (λa (x:Keyed × Nat)=>a.setIfInBounds (u.flatten.length+k+x.snd) x.fst) (arrOf st1) z.toList.zipIdx).toList=u.flatten++((X.take k++(z.toList++Y.drop m))++(v.flatten++rest)):=by
   rw[oO (u.flatten.length+k) z.toList 0 (arrOf st1) (u.flatten++X.take k) (X.drop k++Y.take m) (Y.drop m++(v.flatten++rest)) ?_ ?_ ?_]
   ·simp only[Xb]
   ·rw[show arrOf st1=arrOf st from g.arr,earr]
    conv=>lhs;rw[<-QZ k X,<-QZ m Y]
    simp only[Xb]
   ·rw[Qj,Qs];exact BS sz k1
   rw[lz,Qj,Q4,Qs];exact BR m1 zy
  have pz:(X.take k++(z.toList++Y.drop m)).Perm (X++Y):=by
   conv=>rhs;rw[<-QZ k X,<-QZ m Y]
   rw[Xb];refine List.Perm.append_left _ ?_;rw[<-Xb];refine List.Perm.append_right _ ?_;rw[<-ex,<-ey];exact so.1
  have mz:∀p∈z.toList,(∃i,k<=i/\X[i]?=some p)\/∃i,i<m/\Y[i]?=some p:=λp hp=>by
   rcases Qv.mp (so.1.mem_iff.mp hp) with e|e
   ·exact .inl (inX p e)
   exact .inr (inY p e)
  have tk:∀p∈X.take k,∃i,i<k/\X[i]?=some p:=λp hp=>by
   obtain⟨i,hi,ei⟩:=Qq.mp hp;have:=Qc hi;rw[ei,List.getElem?_take]at this;rw[Qs]at hi;rw[QF (by omega)]at this;exact⟨i,by omega,this⟩
  have dm:∀p∈Y.drop m,∃i,m<=i/\Y[i]?=some p:=λp hp=>by
   obtain⟨i,hi,ei⟩:=Qq.mp hp;have:=Qc hi;rw[ei,XN]at this;exact⟨m+i,by exact vf,this⟩
  have sz':(X.take k++(z.toList++Y.drop m)).Pairwise (le κ):=by
   refine Xg.mpr ⟨sx.sublist (List.take_sublist _ _),Xg.mpr ⟨so.2,sy.sublist (List.drop_sublist _ _),λp hp q hq=>?_⟩,λp hp q hq=>?_⟩
   ·obtain⟨j,hj,ej⟩:=dm q hq;rcases mz p hp with⟨i,hi,ei⟩|⟨i,hi,ei⟩
    ·exact le_trans (leX p (mX ei)) (m3' j hj q ej)
    exact pwi sy (by exact BQ zy hj hi) ei ej
   obtain⟨i,hi,ei⟩:=tk p hp;rcases Qv.mp hq with e|e
   ·rcases mz q e with⟨j,hj,ej⟩|⟨j,hj,ej⟩
    ·exact pwi sx (by exact BP hi hj) ei ej
    exact le_trans (k2' i hi p ei) (leY q (Qi ej))
   obtain⟨j,hj,ej⟩:=dm q e;exact le_trans (k2' i hi p ei) (leY q (Qi ej))
  have fin:∀st',arrOf st'=List.foldl (λa (x:Keyed × Nat)=>a.setIfInBounds (u.flatten.length+k+x.snd) x.fst) (arrOf st1) z.toList.zipIdx->kindOf st'=kindOf st1->failedOf st'=failedOf st1->pendingOf st'=pendingOf st1->Q true st':=λst' h1 h2 h3 h4=>by
   refine h (X.take k++(z.toList++Y.drop m)) st' (by rw[pz.length_eq,Qj]) ⟨?_,?_,λr hr=>?_,?_,h2.trans (g.kind.trans kind),h3.trans f1⟩
   ·rw[h1,ar];simp
   ·refine Array.Perm.trans ?_ perm;rw[Array.perm_iff_toList_perm,h1,ar,earr];refine List.Perm.append_left _ ?_;rw[<-Xb X];exact List.Perm.append_right _ pz
   ·rcases Qv.mp hr with e|e
    ·exact ok r (by simp[e])
    rcases QV.mp e with e|e
    ·subst e;refine⟨λz0=>?_,sz'⟩;have:=pz.length_eq;rw[z0,Qj]at this;simp at this;omega
    exact ok r (by simp[e])
   rw[h4,show pendingOf st1=_ from g.pend];rw[gR,Nat.zero_add];show _=_++(u.flatten.length,(X.take k++(z.toList++Y.drop m)).length)::fh (u.flatten.length+(X.take k++(z.toList++Y.drop m)).length) v;rw[pz.length_eq,Qj,<-Nat.add_assoc];exact e3
  refine Qx ?_;show Q (failedOf st1).isNone (setArr st1 (List.foldl (λa (x:Keyed × Nat)=>a.setIfInBounds (u.flatten.length+k+x.snd) x.fst) (arrOf st1) z.toList.zipIdx));rw[show (failedOf st1).isNone=true by rw[f1];rfl];exact fin _ rfl rfl rfl rfl
 by_cases d3:X.length-k<=m
 ·refine aR d3 ?_;refine Qu (n9 hL (by exact kind) hx hy (by omega) (by omega) ⟨by simp,List.Pairwise.nil,ssx,ssy,λp hp=>(nomatch hp),λp hp=>(nomatch hp),λq hq l hl=>last q hq l ?_⟩ first λr st' g so=>J r st' ⟨g,so⟩);rw[List.getLast?_eq_getElem?,Qy,Qo]at hl;exact hl
 refine aO d3 ?_;exact Qu (n_ hL (by exact kind) hx hy (by omega) (by omega) ssx ssy first last λr st' g so=>J r st' ⟨g,so⟩)
end
section
variable {xs a₀:Array Keyed}
theorem wF {lo n:Nat} (h:Up κ xs lo n) (hn:lo+n<=xs.size):((xs.toList.drop lo).take n).Pairwise (le κ):=by
 rw[List.pairwise_iff_getElem];intro i j hi hj hij;rw[Qs,Q4,Qo]at hi hj
 have at_:∀(m:Nat) (hm:m<((xs.toList.drop lo).take n).length),kv κ ((xs.toList.drop lo).take n)[m]=KK κ xs (lo+m):=λm hm=>by
  have e:=Qc hm;rw[Qs,Q4,Qo]at hm;rw[List.getElem?_take,QF (by exact yu hm),XN,Qy]at e;exact(vJ e).symm
 unfold le;rw[at_,at_];exact h i j (by exact vi hij) (by exact yu hj)
variable {rs:List (List Keyed)} {st st2:SortSt}
theorem oR {rest:List Keyed} (I:RI κ kd a₀ st rs rest):(pendingOf st).size=rs.length:=by
 have:=congrArg List.length I.pend;rwa [Qa,oY,Qo]at this
theorem uB {rs:List (List Keyed)} {i:Nat} (h:i+1<rs.length):∃u X Y v,rs=u++X::Y::v/\u.length=i:=by
 refine⟨rs.take i,rs[i],rs[i+1],rs.drop (i+2),?_,by rw[Qs];exact BO h⟩;rw[<-List.drop_eq_getElem_cons,<-List.drop_eq_getElem_cons,QZ]
theorem RI.seg {rest:List Keyed} (I:RI κ kd a₀ st rs rest) (g:Sg rs.flatten.length st st2):RI κ kd a₀ st2 rs ((arrOf st2).toList.drop rs.flatten.length):=by
 refine⟨?_,g.perm.trans I.perm,I.ok,by rw[g.pend];exact I.pend,g.kind.trans I.kind,g.fail.trans I.fail⟩
 have:(arrOf st2).toList.take rs.flatten.length=rs.flatten:=by
  refine List.ext_getElem? λi=>?_;rw[List.getElem?_take]
  split
  ·rename_i hi
   rw[Qy,g.head i hi,<-Qy,I.arr,QG hi]
  rename_i hi
  rw[Xc (by exact om2 hi)]
 conv=>lhs;rw[<-QZ rs.flatten.length (arrOf st2).toList]
 rw[this]
variable {ps:Array (Nat × Nat × Nat)}
theorem RI.power {rest:List Keyed} (I:RI κ kd a₀ st rs rest) (h:ps.toList.map (λp=>(p.1,p.2.1))=(pendingOf st).toList.map (λp=>(p.1,p.2.1))):RI κ kd a₀ (setPending st ps) rs rest :=
 ⟨I.arr,I.perm,I.ok,h.trans I.pend,I.kind,I.fail⟩
theorem qE {i pw:Nat}:(ps.modify i λx=>match x with|(st,len,_)=>(st,len,pw)).toList.map (λp=>(p.1,p.2.1))=ps.toList.map (λp=>(p.1,p.2.1)):=by
 refine List.ext_getElem? λj=>?_;rw[Qh,Qh,Qy,Qy,Array.getElem?_modify]
 split
 ·cases ps[j]? with
  | none=>rfl
  | some p=>rfl
 rfl
theorem uh (hL:iH κ kd prog w A s) {st:SortSt} {a₀:Array Keyed} {Q:Unit->SortSt->Prop} (ha:∀p∈a₀.toList,Hk κ p) (I:RI κ kd a₀ st [] a₀.toList)
  (h:∀st',(arrOf st').Perm a₀->failedOf st'=none->(arrOf st').toList.Pairwise (le κ)->Q () st'):wpS (model prog w) A E s sortRuns' Q st:=by
 have ha2:∀{st:SortSt} {rs:List (List Keyed)} {rest:List Keyed},RI κ kd a₀ st rs rest->∀p∈(arrOf st).toList,Hk κ p:=λI p hp=>ha p ((Array.perm_iff_toList_perm.mp I.perm).mem_iff.mp hp)
 have sz:∀{st:SortSt} {rs:List (List Keyed)} {rest:List Keyed},RI κ kd a₀ st rs rest->(arrOf st).size=a₀.size/\a₀.size=rs.flatten.length+rest.length:=λI=>by
  have:=I.perm.size_eq;refine⟨this,?_⟩;rw[<-this,<-Qo,I.arr,Qj]
 unfold sortRuns';refine Qu (wpS_get ?_)
 extract_lets szv mr lo0
 have ez:szv=a₀.size:=(sz I).1
 clear_value szv mr
 subst ez;refine Qu (wpS_mono (Xs (I:=λx c st'=>∃rs rest,c=(none,rs.flatten.length)/\RI κ kd a₀ st' rs rest/\(x<=rs.flatten.length\/rest=[])) (Q:=λc st'=>∃rs lo,c=(none,lo)/\RI κ kd a₀ st' rs []) ?step ?fin ⟨[],_,rfl,I,.inl (QN _)⟩) ?post)
 case fin =>
  rintro c st' ⟨rs,rest,rfl,J,o⟩;have:=(sz J).2
  have e:rest=[]:=by
   rcases o with o|o
   ·exact Xa (by exact BN this o)
   exact o
  subst e;exact⟨rs,_,rfl,J⟩
 case step =>
  rintro x c st' _ hx ⟨rs,rest,rfl,J,o⟩;have zz:=(sz J).2;have zs:=(sz J).1;generalize hlo:rs.flatten.length=lo at *;by_cases c1:lo>=a₀.size
  ·show wpS _ _ _ _ (if lo>=a₀.size then _ else _) _ _;refine aR c1 ?_;have e:rest=[]:=Xa (by exact BL zs zz c1);subst e;exact Qx ⟨rs,_,rfl,J⟩
  show wpS _ _ _ _ (if lo>=a₀.size then _ else _) _ _;refine aO c1 ?_
  have xlo:x<=lo:=by
   rcases o with o|o
   ·exact o
   subst o;simp at zz;exact BK zs c1 zz
  refine Qu (sI (lo:=lo) (nrem:=a₀.size-lo) hL J.kind (ha2 J) (by exact BJ zs zz c1) (by exact BI zs zz c1) λm st1 g1 m1 m2 up=>?_);dsimp -zeta only
  extract_lets n jp
  refine gG (λz:Nat=>jp () z) (λz st2=>Sg lo st' st2/\1<=z/\lo+z<=a₀.size/\Up κ (arrOf st2) lo z) (λn st2 hz=>?_) (λJJ=>?_)
  ·obtain⟨g2,n1,n2,up2⟩:=hz;have J2:=J.seg (by rw[hlo];exact g2);rw[hlo]at J2;have z2:=(sz J2).2;have up3:=wF up2 (by rw[(sz J2).1];exact n2);generalize hr2:(arrOf st2).toList.drop lo=rest2 at J2 up3 z2;rw[hlo]at z2;refine Qu (wpS_get ?_)
   extract_lets ln jp2
   refine gG (λ_:Unit=>jp2 ()) (λ_ st3=>∃rs3,RI κ kd a₀ st3 rs3 rest2/\rs3.flatten.length=lo) (λ_ st3 hz=>?_) (λJP=>?_)
   ·obtain⟨rs3,J3,l3⟩:=hz;refine Qu (wpS_modify ?_);refine Qx ⟨rs3++[rest2.take n],rest2.drop n,?_,⟨?_,J3.perm,λr hr=>?_,?_,J3.kind,J3.fail⟩,.inl ?_⟩
    ·have:(rs3++[rest2.take n]).flatten.length=lo+n:=by rw[List.flatten_append,Qj,l3];simp;omega
     rw[this]
    ·rw[List.flatten_append];show (arrOf st3).toList=_;rw[J3.arr];simp
    ·rcases Qv.mp hr with e|e
     ·exact J3.ok r e
     have e:r=rest2.take n:=by simpa using e
     subst e;refine⟨λz0=>?_,up3⟩;have:=congrArg List.length z0;rw[Qs,List.length_nil]at this;omega
    ·show ((pendingOf st3).push (lo,n,0)).toList.map _=_;rw[Array.toList_push,Qr,J3.pend,gR,Nat.zero_add,l3];show _=_++[(lo,(rest2.take n).length)];rw[Qs,show min n rest2.length=n by omega];rfl
    have:(rs3++[rest2.take n]).flatten.length=lo+n:=by rw[List.flatten_append,Qj,l3];simp;omega
    exact BH xlo n1 l3 this
   cases hb:(pendingOf st2).back? with
   | none=>exact JP () st2 ⟨rs,J2,hlo⟩
   | some p =>
   obtain⟨s1,l1,pw1⟩:=p;dsimp -zeta only
   extract_lets pw
   refine Qu (wpS_mono (Xs (I:=λ_ c st3=>c=(none,())/\∃rs3,RI κ kd a₀ st3 rs3 rest2/\rs3.flatten.length=lo) (Q:=λc st3=>c=(none,())/\∃rs3,RI κ kd a₀ st3 rs3 rest2/\rs3.flatten.length=lo) ?_ (λ_ _ z=>z) ⟨rfl,rs,J2,hlo⟩) ?_)
   ·rintro y c st3 _ _ ⟨rfl,rs3,J3,l3⟩;have pl:=oR J3;refine Qu (wpS_get ?_);show wpS _ _ _ _ (match (if (pendingOf st3).size>1 then (pendingOf st3)[(pendingOf st3).size-2]? else none) with|some (_,_,older)=>_|x=>_) _ _;by_cases c2:(pendingOf st3).size>1
    ·rw[QF c2];obtain⟨q,hq⟩:∃q,(pendingOf st3)[(pendingOf st3).size-2]?=some q:=⟨(pendingOf st3)[(pendingOf st3).size-2],by rw[Q6]⟩;rw[hq];obtain⟨q1,q2,older⟩:=q;dsimp -zeta only;by_cases c3:older<=pw
     ·refine aR c3 ?_;exact Qx ⟨rfl,rs3,J3,l3⟩
     refine aO c3 ?_;obtain⟨u,X,Y,v,rfl,ul⟩:=uB (rs:=rs3) (i:=(pendingOf st3).size-2) (by exact BG pl c2);rw[<-ul];refine Qu (iJ hL ha J3 λZ st4 lz J4=>?_);refine aO Qn ?_;refine Qx ⟨rfl,_,J4,?_⟩;rw[<-l3];simp;exact BF lz
    rw[QB c2];exact Qx ⟨rfl,rs3,J3,l3⟩
   rintro c st3 ⟨rfl,rs3,J3,l3⟩;refine Qu (wpS_modify ?_);exact JP () _ ⟨rs3,J3.power qE,l3⟩
  have z1:=g1.size;by_cases c2:n<mr
  ·refine aR c2 ?_;refine Qu (wpS_lift (XO ⟨rfl,?_⟩));have en:n=m:=rfl;refine Qu (wC (lo:=lo) (n:=min (a₀.size-lo) mr) (ok:=m) hL (g1.kind.trans J.kind) (g1.keys (ha2 J)) (by omega) (by omega) up λst2 g2 up2=>?_);refine aO Qn ?_;exact JJ _ st2 ⟨g1.trans g2,by omega,by omega,up2⟩
  refine aO c2 ?_;exact JJ m st1 ⟨g1,m1,by omega,up⟩
 case post =>
  rintro c st1 ⟨rs,lo,rfl,J⟩;have zz:=(sz J).2
  have short:∀(rs:List (List Keyed)),(∀r∈rs,r≠[]/\r.Pairwise (le κ))->rs.length<=rs.flatten.length:=λrs=>by
   induction rs with
   | nil=>intro _;simp
   | cons r rs ih =>
   intro hr;have h1:=(hr r (by simp)).1;have h2:=ih λr' h'=>hr r' (by simp[h']);have:r.length≠0:=λe=>h1 (Xa e);rw[List.flatten_cons,Qj,QQ];exact BE h2 this
  have len0:=short rs J.ok;simp only[List.length_nil,Nat.add_zero]at zz;refine Qu (wpS_mono (Xs (I:=λx c st'=>c=(none,())/\∃rs,RI κ kd a₀ st' rs []/\rs.length+x<=a₀.size+1) (Q:=λc st'=>c=(none,())/\∃rs,RI κ kd a₀ st' rs []/\rs.length<=1) ?_ ?_ ⟨rfl,rs,J,by exact BD zz len0⟩) ?_)
  ·rintro x c st' _ hx ⟨rfl,rs,J,l⟩;have pl:=oR J;refine Qu (wpS_get ?_);show wpS _ _ _ _ (if (pendingOf st').size<=1 then _ else _) _ _;by_cases c2:(pendingOf st').size<=1
   ·refine aR c2 ?_;exact Qx ⟨rfl,rs,J,by exact BC pl c2⟩
   refine aO c2 ?_
   extract_lets i bf j
   have hj:j+1<rs.length:=by
    have h1:j=i-1\/j=i:=by
     show (if _ then i-1 else i)=i-1\/(if _ then i-1 else i)=i
     split
     ·exact .inl rfl
     exact .inr rfl
    exact AO h1 c2 pl
   obtain⟨u,X,Y,v,rfl,ul⟩:=uB hj
   clear_value j
   subst ul;refine Qu (iJ hL ha J λZ st4 lz J4=>?_);refine aO Qn ?_;refine Qx ⟨rfl,_,J4,?_⟩;simp only[Qj,QQ]at l ⊢;omega
  ·rintro c st' ⟨rfl,rs,J,l⟩;exact⟨rfl,rs,J,by exact BB zz l⟩
  rintro c st' ⟨rfl,rs,J,l⟩;refine Qx (h st' J.perm J.fail ?_);rw[J.arr,XJ]
  match rs,l,J.ok with
  | [],_,_=>exact List.Pairwise.nil
  | [r],_,ok=>simpa using(ok r (by simp)).2
end
end Tm
namespace Tm
open PySem PySem.Spec PyProof.Rows
def leV (κ:PyProof.Rows.KeyKind) (u v:Value):Prop:=le κ (u,u) (v,v)
theorem n8 {vs:List Value} {p:Keyed} (h:p∈vs.zip vs):p.1=p.2/\p.1∈vs:=by
 obtain⟨i,hi,e⟩:=Qq.mp h;rw[List.getElem_zip]at e;subst e;exact⟨rfl,Xq _⟩
theorem uY {κ:PyProof.Rows.KeyKind} {vs:List Value} {xs:Array Keyed} (hp:xs.Perm (pairsOf vs)) (hs:xs.toList.Pairwise (le κ)):((xs.map (·.2)).toList).Perm vs/\((xs.map (·.2)).toList).Pairwise (leV κ):=by
 have hl:xs.toList.Perm (vs.zip vs):=by rw[<-pairsOf_toList];exact Array.perm_iff_toList_perm.mp hp
 have self:∀p∈xs.toList,p.1=p.2:=λp h=>(n8 (hl.mem_iff.mp h)).1
 have e:vs=(vs.zip vs).map (·.2):=by
  rw[List.map_snd_zip];exact Qg _
 refine⟨?_,?_⟩
 ·rw[Array.toList_map]
  conv=>rhs;rw[e]
  exact hl.map _
 rw[Array.toList_map,List.pairwise_map];refine hs.imp_of_mem λ{a b} ha hb h=>?_;have h1:=self a ha;have h2:=self b hb;unfold leV le kv at *;rw[<-h1,<-h2];exact h
section
variable {prog:Program} {w:World} {A:Around} {E:Value->Shared->Prop} {s:Shared}
structure Can (prog:Program) (w:World) (κ:PyProof.Rows.KeyKind) (kd:SortKind) (h:Heap) (a:Addr) (vs:List Value):Prop where
 key:∀v∈vs,∃x,κ.keyOf v=some x
 lt:∀(A:Around) (s:Shared),(∀b o,b≠a->h.get? b=some o->s.heap.get? b=some o)->iH κ kd prog w A s
 kind:2<=vs.length->∀(A:Around) (E:Value->Shared->Prop) (s:Shared) (Q:SortKind->Shared->Prop),(∀b o,b≠a->h.get? b=some o->s.heap.get? b=some o)->Q kd s->wpAny (model prog w) A (keyKind' vs.toArray) Q E s
variable {vs:List Value} {a b d:Addr}
theorem jZ {κ:PyProof.Rows.KeyKind} {kd:SortKind} {n:Nat} {P:Fin->Shared->Prop} (ho:s.heap.get? a=some (seqObj "list" vs.toArray n)) (c:Can prog w κ kd s.heap a vs) (hn:vs.length<=100000)
  (h:∀out:Array Value,out.toList.Perm vs->out.toList.Pairwise (leV κ)->P (.done (.ret .none)) { s with heap:=sortedHeap s.heap a vs out }):wpAny (model prog w) A (Builtin.«list.sort» ⟨[.ref a],[]⟩) P E s:=by
 rw[list_sort_plain];have ha:a<s.heap.objs.size:=Qm ho;refine Qb (listItems_at ho rfl (Qb (listUpdate_at ho rfl ?_)));obtain⟨e1,ho1⟩:∃e1,(s.heap.update a (Obj.mapSeq λ_=>#[])).get? a=some (seqObj "list" #[] e1):=⟨_,get?_update_seq ho (λ_=>#[])⟩;refine Qb (seqEpoch_at ho1 rfl (Qb (wpAny_newTuple (Qb (wpAny_newList (Q3 ?_))) (by rw[XG];show vs.length<=_;exact yt hn))))
 have keep:∀b o,b≠a->s.heap.get? b=some o->(((s.heap.update a (Obj.mapSeq λ_=>#[])).push (seqObj "tuple" vs.toArray 0)).push (seqObj "list" #[] 0)).get? b=some o:=λb o hb e =>
  Qd _ (Qd _ ((Xf _ _ (XF hb)).trans e))
 have ho6:(((s.heap.update a (Obj.mapSeq λ_=>#[])).push (seqObj "tuple" vs.toArray 0)).push (seqObj "list" #[] 0)).get? a=some (seqObj "list" #[] e1):=Qd _ (Qd _ ho1);show wpAny (model prog w) A _ P E { s with heap:=((s.heap.update a (Obj.mapSeq λ_=>#[])).push (seqObj "tuple" vs.toArray 0)).push (seqObj "list" #[] 0) };dsimp only;have zs:vs.toArray.size=vs.length:=by simp
 by_cases c2:vs.toArray.size<2
 ·rw[QF c2,QF c2];refine Qb (Qf ?_);rw[StateT.run_pure];refine Qb (Qf (Qb (seqEpoch_at ho6 rfl (Qb (listUpdate_at ho6 rfl ?_ (hsz2:=by rw[Array.size_map];show (pairsOf vs).size<=_;rw[pairsOf_size,XG];exact BA hn zs c2))))));simp only[bne_self_eq_false,QT,if_false]
  have sh:(pairsOf vs).toList.Pairwise (le κ):=by
   rw[pairsOf_toList]
   match vs,zs,c2 with
   | [],_,_=>exact List.Pairwise.nil
   | [v],_,_=>exact List.pairwise_singleton _ _
   | v::u::r,zs,c2=>exact absurd c2 (by simp)
  obtain⟨p1,p2⟩:=uY (Array.Perm.refl _) sh;exact Qf (h _ p1 p2)
 rw[QB c2,QB c2];refine Qb (c.kind (by exact Bz hn zs c2) _ _ _ _ keep ?_)
 refine Qb (Xm (uh (κ:=κ) (kd:=kd) (a₀:=pairsOf vs) (st:=SortSt.mk' kd (vs.toArray.zip vs.toArray) #[] 7 none) (Q:=λ_ st'=>(arrOf st').Perm (pairsOf vs)/\failedOf st'=none/\(arrOf st').toList.Pairwise (le κ))
  (c.lt _ _ keep) (λp hp=>?_) ⟨rfl,Array.Perm.refl _,λr hr=>(nomatch hr),rfl,rfl,rfl⟩ λst' a1 a2 a3=>⟨a1,a2,a3⟩) ?_ λ_ _ e=>e)
 ·rw[pairsOf_toList]at hp;exact c.key _ (n8 hp).2
 rintro⟨⟨⟩,st'⟩ s' ⟨rfl,hp,hf,hs⟩;dsimp only;refine Qb (seqEpoch_at ho6 rfl (Qb (listUpdate_at ho6 rfl ?_ (hsz2:=by refine Q0 (Nat.le_of_eq ((Array.size_map ..).trans (hp.size_eq.trans (pairsOf_size _)))) ?_;rw[XG];exact By hn zs c2))));rw[hf];simp only[bne_self_eq_false,QT,if_false];obtain⟨p1,p2⟩:=uY hp hs;exact Qf (h _ p1 p2)
theorem fD {h:Heap} {out:Array Value} {o:Obj} (hb:b≠a) (e:h.get? b=some o):(sortedHeap h a vs out).get? b=some o:=by
 unfold sortedHeap;exact(Xf _ _ (XF hb)).trans (Qd _ (Qd _ ((Xf _ _ (XF hb)).trans e)))
theorem ga {h:Heap} {vs:List Value} {out:Array Value} {n:Nat} (e:h.get? a=some (seqObj "list" vs.toArray n)):∃m,(sortedHeap h a vs out).get? a=some (seqObj "list" out m):=by
 unfold sortedHeap;exact⟨_,get?_update_seq (Qd _ (Qd _ (get?_update_seq e (λ_=>#[])))) (λ_=>out)⟩
theorem ik {κ:Heap->PyProof.Rows.KeyKind} {kd:SortKind} {r:Value} {Q:Value->Shared->Prop} {G:Heap->List Value->Prop}
  (col:∀(A:Around) (E:Value->Shared->Prop) (R:List Value->Shared->Prop),A.handled=none->(∀h' tk vs,(∀b o,s.heap.get? b=some o->h'.get? b=some o)->s.heap.objs.size<=h'.objs.size->G h' vs->R vs { s with heap:=h',toks:=tk })->wpAny (model prog w) A (collect r) R E s)
  (hh:A.handled=none) (can:∀h' vs D,(∀b o,s.heap.get? b=some o->h'.get? b=some o)->G h' vs->D=h'.objs.size->vs.length<=100000/\Can prog w (κ h') kd (h'.push (seqObj "list" vs.toArray 0)) D vs)
  (h:∀D h' tk vs h1 (out:Array Value) m,(∀b o,s.heap.get? b=some o->h1.get? b=some o)->G h1 vs->(∀b o,h1.get? b=some o->h'.get? b=some o)->s.heap.objs.size<=D->h1.objs.size<=D->h'.get? D=some (seqObj "list" out m)->out.toList.Perm vs->out.toList.Pairwise (leV (κ h1))->Q (.ref D) { s with heap:=h',toks:=tk }) :
  wpAny (model prog w) A (call (.builtin "sorted") [r]) Q E s:=by
 refine Calls.call_function_entry kind_sorted plain_sorted entry_sorted (args_sorted1 _) ?_;unfold Builtin.«sorted»;refine Qb (m:=checkCount "sorted" 1 1 _) (Qf ?_);refine Qb (col A.in1 E _ hh λh1 tk vs k1 z1 g1=>?_);obtain⟨len,_⟩:=can h1 vs h1.objs.size k1 g1 rfl;refine Qb (wpAny_newList ?_ (by rw[XG];exact yt len));obtain⟨_,cn⟩:=can h1 vs h1.objs.size k1 g1 rfl;have hoL:(h1.push (seqObj "list" vs.toArray 0)).get? h1.objs.size=some (seqObj "list" vs.toArray 0):=Qp _ rfl;refine Qb (Q3 (XD (s:={ s with heap:=h1.push (seqObj "list" vs.toArray 0),toks:=tk }) slot_list_sort ⟨_,hoL,rfl⟩ entry_list_sort (jZ hoL cn len λout p1 p2=>⟨_,rfl,?_⟩) (args_list_sort _)));obtain⟨m,at'⟩:=ga (vs:=vs) (out:=out) hoL;exact Qf ⟨_,rfl,h _ _ _ vs h1 out m k1 g1 (λb o e=>fD (Qz (Qm e)) (Qd _ e)) z1 (Qg _) at' p1 p2⟩
theorem wm {T:String} {r:Addr} {n:Nat} {P:Nat->Value->Prop} {OK:Heap->Prop} {R:List Value->Shared->Prop} (K:PySem.W.KdlSrc prog w T r d n P OK) (hh:A.handled=none) (ok:OK s.heap) (hn:n<=sizeLine)
  (h:∀(g:Heap) (tk:Nat) (acc:Array Value),(∀b o,s.heap.get? b=some o->g.get? b=some o)->s.heap.objs.size<=g.objs.size->PySem.ItemsOf P acc n->R acc.toList { s with heap:=g,toks:=tk }):wpAny (model prog w) A (collect (.ref r)) R E s:=by
 obtain⟨l1,l2⟩:=K.there _ ok;unfold collect;refine Qb (wpAny_runValue (Xp entry_proto_collect' ?_));rw[Xh PySem.F.plain_proto_collect _];refine Qb (wpAny_newObj_type (Qf ⟨plainId_quiet PySem.F.plain_list_iadd _,Xp entry_list_iadd' ?_⟩));rw[Xh PySem.F.plain_list_iadd _]
 refine Xm (PySem.W.kdl_extend (A:=A) (s:={ s with heap:=s.heap.push { cls:=.type "list", data:=.seq ([]:List Value).toArray } }) (R:=λq s'=>∃(g:Heap) (tk:Nat) (acc:Array Value) (c:Nat),q=.ok (.ret (.ref s.heap.objs.size))/\s'={ s with heap:=g,toks:=tk } /\
   (∀b o,s.heap.get? b=some o->g.get? b=some o)/\g.get? s.heap.objs.size=some { cls:=.type "list", dict:=none,data:=.seq acc c,slots:=#[] }/\PySem.ItemsOf P acc n)
  K hh (K.keep _ _ ok λb _ o e=>Qd _ e) s.heap.objs.size (Nat.ne_of_gt l1) (Nat.ne_of_gt l2) (.ref s.heap.objs.size) 0 (Qp _ rfl)
  (λg tk acc c k at' it=>⟨g,tk,acc,c,rfl,rfl,λb o e=>k b o (Qz (Qm e)) (Qd _ e),at',it⟩) hn) (λfn s' x=>?_) λe s' x=>?_
 ·cases fn with
  | done f =>
   obtain⟨g,tk,acc,c,e,rfl,k,at',it⟩:=x;cases e;exact Qb (wpAny_load at' (Qf (h g tk acc k (Xv (Qm at')) it)))
  | again c1 =>
   refine⟨x.1,codeAny_mono x.2 λq s2 y=>?_⟩;obtain⟨g,tk,acc,c,rfl,rfl,k,at',it⟩:=y;exact Qb (wpAny_load at' (Qf (h g tk acc k (Xv (Qm at')) it)))
 obtain⟨_,_,_,_,z,_⟩:=x;cases z
theorem kB {h:Heap} {ss:List Str} (hS:StrsAre vs ss):Can prog w PyProof.Rows.strKind oneType' h a vs where
 key v hv:=by
  obtain⟨x,t,e⟩:=hS.all v hv;exact⟨x.cps.toList,by rw[e]⟩
 lt A s _:=λE x y a b Q ha hb hq=>by rw[keyLt'_oneType];exact strKind_oneLt prog w A E s x y a b ha hb hq
 kind h2 A E s Q _ hq:=by
  match vs,hS,h2 with
  | v₁::v₂::rest,hS,_=>rw[keyKind_strs hS];exact Qf hq
end
end Tm
set_option maxHeartbeats 4000000
namespace L2
open PySem PySem.Spec PyProof.Rows
def Fz:HO->Prop
 | .dK _=>True
 | .dT _=>True
 | .lst _=>True
 | _=>False
def back (H:Hp) (a:Addr) (H':Hp):Hp:=λb=>if b=a then H a else H' b
variable {a b:Addr} {H H':Hp}
theorem f_:back H a H' a=H a:=QF rfl
theorem bM (h:b≠a):back H a H' b=H' b:=QB h
section
variable {X:Cx} {pins:List (Addr × Obj)} {σ σ':St} {H H':Hp} {s s':Shared} {a:Addr} {u:HO} {o:Obj}
theorem i_ (r:Rd H a u):∃v,H a=some v:=by
 rcases r with r|⟨o,r⟩ <;> exact⟨_,r⟩
theorem ya (r:Rd H a u) (f:Fz u):(∀xs,H a≠some (.tup xs))/\(∀ps,H a≠some (.tbl ps))/\(∀x,H a≠some (.own x))/\∀ob v,H a=some (.frz ob v)->v=u:=by
 rcases r with r|⟨o,r⟩
 ·refine⟨λxs z=>?_,λps z=>?_,λx z=>?_,λob v z=>?_⟩ <;> (rw[r]at z;cases z;exact f.elim)
 refine⟨λxs z=>?_,λps z=>?_,λx z=>?_,λob v z=>?_⟩ <;> (rw[r]at z;cases z);rfl
theorem Inv.freeze (I:Inv X pins σ H s) (r:Rd H a u) (f:Fz u) (e:s.heap.get? a=some o):Inv X pins σ (upd H a (.frz o u)) s:=by
 obtain⟨v,hv⟩:=i_ r;obtain⟨n1,n2,n3,n4⟩:=ya r f;have ne:∀{b},H b=none->b≠a:=λh z=>by rw[z,hv]at h;cases h
 have ok:=r.ok I.hok;refine⟨I.ok,I.os,I.bare,⟨I.base.keep,I.base.slot,λb ob q n hx=>?_,I.base.there,λb xs q=>?_,λb ob w q=>?_,λb ps q=>?_⟩,I.loc,I.cell,?_,λx c h=>?_,λp hp=>?_,λb w q=>?_,I.len⟩
 ·have:=I.base.free b ob q n hx;rw[ak (ne this)];exact this
 ·have:=I.base.tups b xs q;rw[ak (λz=>n1 xs (by rw[<-z];exact this))];exact this
 ·have z:=I.base.frzs b ob w q;by_cases hb:b=a
  ·subst hb;have ew:=n4 ob w z;subst ew;obtain⟨e1,_⟩:=I.hok b _ z;rw[e]at e1;cases e1;exact ag
  rw[ak hb];exact z
 ·obtain⟨more,z⟩:=I.base.tbls b ps q;exact⟨more,by rw[ak (λy=>n2 _ (by rw[<-y];exact z))];exact z⟩
 ·rw[ak (ne I.free)];exact I.free
 ·rw[ak (ne (I.freeC x c h))];exact I.freeC x c h
 ·obtain⟨p1,p2,p3,p4,p5⟩:=I.pin p hp;exact⟨p1,by rw[ak (ne p2)];exact p2,p3,p4,p5⟩
 have st:∀{b w},bt X.prog X.w H s.heap b w->bt X.prog X.w (upd H a (.frz o u)) s.heap b w:=λh=>h.stay (λ_ _ _ q=>q) (λd q=>by rw[ak (λz=>n3 _ (by rw[<-z];exact q))];exact q) λd xs q=>by rw[ak (λz=>n1 _ (by rw[<-z];exact q))];exact q
 by_cases hb:b=a
 ·subst hb;rw[ag]at q;cases q;exact⟨e,st ok⟩
 rw[ak hb]at q;exact st (I.hok b w q)
theorem Inv.thaw (I:Inv X pins σ H s) (r:Rd H a u) (f:Fz u) (e:s.heap.get? a=some o) (J:Inv X pins σ' H' s') (h':H' a=some (.frz o u)):Inv X pins σ' (back H a H') s':=by
 obtain⟨v,hv⟩:=i_ r;obtain⟨n1,n2,n3,n4⟩:=ya r f;have ne:∀{b},H' b=none->b≠a:=λh z=>by rw[z,h']at h;cases h
 have ok:=J.hok a _ h';refine⟨J.ok,J.os,J.bare,⟨J.base.keep,J.base.slot,λb ob q n hx=>?_,J.base.there,λb xs q=>?_,λb ob w q=>?_,λb ps q=>?_⟩,J.loc,J.cell,?_,λx c h=>?_,λp hp=>?_,λb w q=>?_,J.len⟩
 ·have:=J.base.free b ob q n hx;rw[bM (ne this)];exact this
 ·have:=J.base.tups b xs q;rw[bM (λz=>by rw[z,h']at this;cases this)];exact this
 ·by_cases hb:b=a
  ·subst hb;rw[f_];exact I.base.frzs b ob w q
  rw[bM hb];exact J.base.frzs b ob w q
 ·obtain⟨more,z⟩:=J.base.tbls b ps q;exact⟨more,by rw[bM (λy=>by rw[y,h']at z;cases z)];exact z⟩
 ·rw[bM (ne J.free)];exact J.free
 ·rw[bM (ne (J.freeC x c h))];exact J.freeC x c h
 ·obtain⟨p1,p2,p3,p4,p5⟩:=J.pin p hp;exact⟨p1,by rw[bM (ne p2)];exact p2,p3,p4,p5⟩
 have st:∀{b w},bt X.prog X.w H' s'.heap b w->bt X.prog X.w (back H a H') s'.heap b w:=λh=>h.stay (λ_ _ _ q=>q) (λd q=>by rw[bM (λz=>by rw[z,h']at q;cases q)];exact q) λd xs q=>by rw[bM (λz=>by rw[z,h']at q;cases q)];exact q
 by_cases hb:b=a
 ·subst hb;rw[f_]at q;rcases r with r|⟨o2,r⟩
  ·rw[r]at q;cases q;exact st ok.2
  obtain⟨e2,_⟩:=I.hok b _ r;rw[e]at e2;cases e2;rw[r]at q;cases q;exact⟨ok.1,st ok.2⟩
 rw[bM hb]at q;exact st (J.hok b w q)
noncomputable def xN (D:Ends) (H:Hp) (a:Addr) (o:Obj) (u:HO):Ends where
 nx:=λσ' H'=>H' a=some (.frz o u)/\D.nx σ' (back H a H')
 bk:=λσ' H'=>H' a=some (.frz o u)/\D.bk σ' (back H a H')
 ct:=λσ' H'=>H' a=some (.frz o u)/\D.ct σ' (back H a H')
 rt:=λv H'=>H' a=some (.frz o u)/\D.rt v (back H a H')
def Ar (t:TS):TS:=λD σ H=>∃a u,Rd H a u/\Fz u/\∀o,t (xN D H a o u) σ (upd H a (.frz o u))
theorem nc {st:Stmt} {t:TS} (h:PS X st t):PS X st (Ar t):=by
 intro pins s σ H D I q;obtain⟨a,u,r,f,q⟩:=q;obtain⟨v,hv⟩:=i_ r
 obtain⟨o,e⟩:∃o,s.heap.get? a=some o:=by
  rcases r with r|⟨o,r⟩
  ·have:=(I.hok a _ r)
   cases u with
   | lst xs=>obtain⟨_,_,_,_,e⟩:=this;exact⟨_,e⟩
   | dK kvs=>obtain⟨_,_,_,_,o,_,_,e,_⟩:=this;exact⟨_,e⟩
   | dT kvs=>obtain⟨_,_,_,_,o,_,_,e,_⟩:=this;exact⟨_,e⟩
   | _=>exact f.elim
  exact⟨o,(I.hok a _ r).1⟩
 refine Xm (h pins s σ _ _ (I.freeze r f e) (q o)) (λfl s' z=>?_) λ_ _ z=>z
 cases fl with
 | next=>obtain⟨σ',H',J,h1,h2⟩:=z;exact⟨σ',_,I.thaw r f e J h1,h2⟩
 | brk=>obtain⟨σ',H',J,h1,h2⟩:=z;exact⟨σ',_,I.thaw r f e J h1,h2⟩
 | cont=>obtain⟨σ',H',J,h1,h2⟩:=z;exact⟨σ',_,I.thaw r f e J h1,h2⟩
 | ret w=>obtain⟨v,σ',H',J,rv,h1,h2⟩:=z;exact⟨v,σ',_,I.thaw r f e J h1,rv,h2⟩
def xS (t:TE):TE:=λσ H Q=>∃a u,Rd H a u/\Fz u/\∀o,t σ (upd H a (.frz o u)) λv H'=>H' a=some (.frz o u)/\Q v (back H a H')
theorem qq {ex:Expr} {t:TE} (h:PE X ex t):PE X ex (xS t):=by
 intro pins s σ H Q I q;obtain⟨a,u,r,f,q⟩:=q
 obtain⟨o,e⟩:∃o,s.heap.get? a=some o:=by
  rcases r with r|⟨o,r⟩
  ·have:=(I.hok a _ r)
   cases u with
   | lst xs=>obtain⟨_,_,_,_,e⟩:=this;exact⟨_,e⟩
   | dK kvs=>obtain⟨_,_,_,_,o,_,_,e,_⟩:=this;exact⟨_,e⟩
   | dT kvs=>obtain⟨_,_,_,_,o,_,_,e,_⟩:=this;exact⟨_,e⟩
   | _=>exact f.elim
  exact⟨o,(I.hok a _ r).1⟩
 refine Xm (h pins s σ _ _ (I.freeze r f e) (q o)) (λv s' z=>?_) λ_ _ z=>z;obtain⟨v',H',J,rv,h1,h2⟩:=z;exact⟨v',_,I.thaw r f e J h1,rv,h2⟩
end
def Itd (a:Addr) (o:Obj) (kvs:List (Key × V)):It :=
 ⟨λi H=>H a=some (.frz o (.dK kvs))/\i<kvs.length,λi H x H'=>H'=H/\∃k v,kvs[i]?=some (k,v)/\x=kV k,λi H=>H a=some (.frz o (.dK kvs))/\kvs.length<=i⟩
theorem vQ {P:Program} {w:World} {k:Key} {u:Value} (h:(bn P w).is k u=true):aS (kV k) u:=by
 rcases bA (show iO k u=true from h) with⟨i,t,rfl,rfl⟩|⟨x,t,rfl,rfl⟩
 ·exact⟨t,rfl⟩
 exact⟨t,rfl⟩
theorem KV.len {κ:Type} {xs:List (κ × V)} {ys:List (κ × Value)} (r:KV xs ys):xs.length=ys.length:=Paired.length r
theorem KV.get {κ:Type}:∀{xs:List (κ × V)} {ys:List (κ × Value)} {i:Nat} {k:κ} {v:V},KV xs ys->xs[i]?=some (k,v)->∃u,ys[i]?=some (k,u)/\aS v u
 | _,_,_,_,_,.nil,e=>by simp at e
 | _,(k',u)::_,0,k,v,.cons r _,e=>by
  simp at e;subst e;obtain⟨r1,r2⟩:=r;have r1:k=k':=r1;subst r1;exact⟨u,rfl,r2⟩
 | _,_,i+1,k,v,.cons _ t,e=>by
  obtain⟨u,h1,h2⟩:=KV.get (i:=i) t (by simpa using e);exact⟨u,by simpa using h1,h2⟩
variable {kvs:List (Key × V)}
theorem gu {X:Cx} {pins:List (Addr × Obj)} {σ:St} {s:Shared} {o:Obj} {es:Array DictEntry} {ep:Nat} (I:Inv X pins σ H s) (h:H a=some (.frz o (.dK kvs))) (hd:o.data=.dict es ep) :
  ∃vs,KV kvs vs/\s.heap.DictAt (bn X.prog X.w) a vs ep/\(a==sysModules)=false:=by
 obtain⟨e1,z,y,vs,rel,ob,es',ep',e2,c,d,r⟩:=I.hok a _ h;rw[e1]at e2;cases e2;rw[hd]at d;cases d;exact⟨vs,rel,⟨o,es,e1,c,hd,r⟩,y⟩
theorem sM {P:Program} {w:World} {K:PySem.W.Frag} {tg:Expr} (a it:Addr) (o:Obj) (kvs:List (Key × V)) (es:Array DictEntry) (ep:Nat) (hd:o.data=.dict es ep):Turn P w K tg (Itd a o kvs) [it] it (λi h=>h.IsKeyIter it a i kvs.length ep) where
 mem:=by simp
 obj:=λi h st b hb=>by
  have e:b=it:=by simpa using hb
  subst e;obtain⟨ob,e,c,d⟩:=st;exact⟨ob,e,λv z=>by rw[d]at z;cases z⟩
 keep:=λi h h' st k=>st.at λo e=>k it (by simp) o e
 item:=by
  intro X hP hw hK hc i pins s σ H E I hf st hg;subst hP hw hK;obtain⟨hz,hi⟩:=hg;obtain⟨vs,rel,da,_⟩:=gu I hz hd;obtain⟨⟨k,v⟩,hx⟩:∃p,kvs[i]?=some p:=⟨kvs[i],by simp[hi]⟩;obtain⟨u,hu,ru⟩:=rel.get hx;obtain⟨f0,f1,f2,f3,f4,f5⟩:=hf it (by simp);have st0:=st;rw[rel.len]at st;refine wpAny_pyNext_dict_item st da hu λkey h' hkey st' sb=>?_;have I1:Inv X pins σ H { s with heap:=h' }:=I.turned (t':=s.toks) (λb o hb e=>(sb.2 b hb).trans e) f0 f1 f3 f4 f5;rw[<-rel.len]at st';obtain⟨ob,e,c,d⟩:=id st';exact⟨key,rfl,vW (s:={ s with heap:=h' }) e c d (by decide) ⟨kV k,H,I1,vQ hkey,⟨rfl,k,v,hx,rfl⟩,st',λb hb=>(hf b hb).1⟩⟩
 done:=by
  intro X hP hw hK hc i pins s σ H E I hf st hg;subst hP hw hK;obtain⟨hz,hi⟩:=hg;obtain⟨vs,rel,da,_⟩:=gu I hz hd;obtain⟨f0,f1,f2,f3,f4,f5⟩:=hf it (by simp);rw[rel.len]at st;exact wpAny_pyNext_dict_end (I.ok.hd hc) st da (Xc (by rw[<-rel.len];exact hi)) λh' eb=>⟨rfl,I.turned (t':=s.toks) (λb o hb e=>eb b o hb e) f0 f1 f3 f4 f5⟩
 self:=λ_ _ _ _ _ st h=>wpAny_pyIter_keyiter st h
def vT (tl:TE):TI:=λσ H R=>tl σ H λx H1=>∃a o kvs,x=.ref a/\H1 a=some (.frz o (.dK kvs))/\R (Itd a o kvs) H1
section
variable {X:Cx} {tg:Expr}
theorem ed {l:Expr} {tl:TE} (hl:PE X l tl):PI X tg l (vT tl):=by
 intro pins s σ H R I h;refine thn (hl pins s σ H _ I h) λv s1 ⟨x,H1,I1,r1,q1⟩=>?_;obtain⟨a,o,kvs,e,hz,q⟩:=q1;subst e;cases r1;obtain⟨e1,_,_,vs,rel,ob,es,ep,e2,c,d,r⟩:=I1.hok a _ hz;rw[e1]at e2;cases e2;obtain⟨vs,rel,da,hm⟩:=gu I1 hz d;refine wpAny_pyIter_dict hm da ?_;refine⟨s1.heap.objs.size,[s1.heap.objs.size],_,_,H1,rfl,I1.kept (t':=s1.toks) λb o e=>Qd _ e,sM a _ o kvs es ep d,⟨_,Qp _ rfl,rfl,by rw[rel.len];rfl⟩,λb hb=>?_,q⟩;have e:b=s1.heap.objs.size:=by simpa using hb
 subst e;exact I1.fpOk (Qg _) (I1.hok.fresh (Qg _))
end
theorem gY {o:Obj} {g:TG} {tb:TS} {D:Ends} {σ:St} (Pv:Nat->St->Hp->Prop) (h0:Pv 0 σ H) (hl:∀i σ H,i<=kvs.length->Pv i σ H->H a=some (.frz o (.dK kvs)))
  (hs:∀i k v σ H,kvs[i]?=some (k,v)->Pv i σ H->g (kV k) σ H λσ2 H2=>tb { D with nx:=Pv (i+1),ct:=Pv (i+1),bk:=D.nx } σ2 H2) (hd:∀σ H,Pv kvs.length σ H->D.nx σ H) :
  ∃W:Nat->Nat->St->Hp->Prop,(∃m,W 0 m σ H)/\∀i m σ H,W i m σ H ->
   ((Itd a o kvs).stop i H/\D.nx σ H)\/((Itd a o kvs).go i H/\∃N:St->Hp->Prop,(∀σ' H',N σ' H'->∃m',m'<m/\W (i+1) m' σ' H')/\∀x H',(Itd a o kvs).yld i H x H'->g x σ H' λσ2 H2=>tb { D with nx:=N,ct:=N,bk:=D.nx } σ2 H2):=by
 refine⟨λi m σ H=>m=kvs.length-i/\i<=kvs.length/\Pv i σ H,⟨kvs.length,by simp,QN _,h0⟩,?_⟩;rintro i m σ H ⟨rfl,hi,p⟩;have q:=hl i σ H hi p;by_cases hlt:i<kvs.length
 ·refine .inr ⟨⟨q,hlt⟩,Pv (i+1),λσ' H' p'=>⟨kvs.length-(i+1),by exact om6 hlt,rfl,hlt,p'⟩,λx H' y=>?_⟩;obtain⟨e,k,v,hk,ex⟩:=y;subst e ex;exact hs i k v σ _ hk p
 have e:i=kvs.length:=by exact om0 hi hlt
 subst e;exact .inl ⟨⟨q,Qg _⟩,hd σ H p⟩
section
variable {X:Cx} {o e f:Expr} {apos cpos:Pos} {td ty tx:TE}
end
def leT (a b:Str):Prop:=¬(b.cps.toList<a.cps.toList)
theorem pf {a b:Str} (h1:leT a b) (h2:leT b a):a=b:=by
 have e:=List.le_antisymm (List.not_lt.mp h1) (List.not_lt.mp h2);cases a;cases b;exact congrArg Str.mk (Array.toList_inj.mp e)
theorem jB {xs ys:List Str} (hx:xs.Pairwise leT) (hy:ys.Pairwise leT) (p:xs.Perm ys):xs=ys:=List.Perm.eq_of_pairwise (λa b _ _ h1 h2=>pf h1 h2) hx hy p
theorem jA {ts:List Str} {out:List Value}:∀{us:List Value},StrsAre us ts->out.Perm us->out.Pairwise (Tm.leV PyProof.Rows.strKind)->∃ss,StrsAre out ss/\ss.Perm ts/\ss.Pairwise leT:=λ{us} h p s=>by
 have all:∀v∈out,∃x t,v=.str x t:=λv hv=>h.all v (p.mem_iff.mp hv);refine⟨out.map strOf,strsAre_map out all,by rw[<-h.strs];exact p.map _,?_⟩;rw[List.pairwise_map];refine s.imp_of_mem λ{a b} ha hb q=>?_;obtain⟨x,t,rfl⟩:=all a ha;obtain⟨y,u,rfl⟩:=all b hb;have q:decide (y.cps.toList<x.cps.toList)=false:=q;show ¬(y.cps.toList<x.cps.toList);simpa using q
theorem gh:∀{ys:List Str} {us:List Value},StrsAre us ys->aY (ys.map V.str) us
 | _,_,.nil=>.nil
 | _,_,.cons x t h=>.cons ⟨t,rfl⟩ (gh h)
theorem rq:∀{as:List Value} {ss:List Str},as.length=ss.length->(∀(j:Nat) v,as[j]?=some v->∃x t,ss[j]?=some x/\v=.str x t)->StrsAre as ss
 | [],[],_,_=>.nil
 | [],_::_,h,_=>by simp at h
 | _::_,[],h,_=>by simp at h
 | a::as,x::ss,h,f=>by
  obtain⟨y,t,e1,e2⟩:=f 0 a rfl;cases e1;subst e2;exact .cons x t (rq (by simpa using h) λj v e=>by obtain⟨y,t,e1,e2⟩:=f (j+1) v (by simpa using e);exact⟨y,t,by simpa using e1,e2⟩)
section
variable {X:Cx}
def Ak (K:PySem.W.Frag) (H:Hp) (l:Addr) (ss:List Str):Prop:=SqL K H l (ss.map V.str)\/∃kvs,Rd H l (.dK kvs)/\kvs.map (·.1)=ss.map Sum.inr
def zd (K:PySem.W.Frag):List V->Hp->VK->Prop:=λxs H Q=>∃(l:Addr) (ss:List Str),xs=[.ref l]/\Ak K H l ss/\ss.length<=100000/\∀(p:Addr) (ss':List Str),H p=none->ss'.Perm ss->ss'.Pairwise leT->Q (.ref p) (upd H p (.lst (ss'.map V.str)))
theorem gz (hc:X.calm=true):eB X (.builtin "sorted") (zd X.K):=by
 intro pins s σ H xs us Q I r h;obtain⟨l,ss,rfl,src,hz,q⟩:=h;obtain⟨u,rfl,ru⟩:=eE r;cases ru
 have fin:∀(D:Addr) (h':Heap) (tk:Nat) (vs:List Value) (h1:Heap) (out:Array Value) (m:Nat),(∀b o,s.heap.get? b=some o->h1.get? b=some o)->StrsAre vs ss->(∀b o,h1.get? b=some o->h'.get? b=some o)->s.heap.objs.size<=D->h1.objs.size<=D->h'.get? D=some (seqObj "list" out m)->out.toList.Perm vs->out.toList.Pairwise (Tm.leV PyProof.Rows.strKind)->EP X pins σ Q (.ref D) { s with heap:=h',toks:=tk }:=λD h' tk vs h1 out m k1 g1 k2 hle hD at' p1 p2=>by
  obtain⟨ss',so,pm,st⟩:=jA g1 p1 p2;have lo:ss'.length=ss.length:=pm.length_eq;exact⟨.ref D,_,I.laid (o:=.lst (ss'.map V.str)) (t':=tk) (λb o g=>k2 b o (k1 b o g)) hle ⟨by rw[Qa,XG];exact zL hz lo,out.toList,m,gh so,at'⟩,rfl,q _ ss' (I.hok.fresh hle) pm st⟩
 rcases src with hl|⟨kvs,rd,ek⟩
 ·obtain⟨its,rv,pl,_⟩:=I.list hl;have sa:=gi rv;have hlen:its.length=ss.length:=by rw[<-rv.length,Qa]
  refine Tm.ik (s:=s) (κ:=λ_=>PyProof.Rows.strKind) (kd:=oneType') (G:=λ_ vs=>StrsAre vs ss) (λA E R _ hR=>collect_list pl.isList (hR _ _ its (λb o e=>?_) (by rw[Heap.size_update,size_push'];exact Nat.le_succ _) sa) (by rw[XG];exact zL hz hlen)) (I.ok.hd hc) (λh' vs D k g _=>⟨by rw[g.length];exact hz,Tm.kB g⟩) fin;exact(Xf _ _ (Nat.ne_of_gt (Qm e))).trans (Qd _ e)
 obtain⟨z,hm,vs,rel,dd⟩:=iQ I.hok rd;obtain⟨ep,da⟩:=dd.dictAt
 have kl:vs.length=ss.length:=by
  have:=congrArg List.length ek;rw[Qa,Qa]at this;rw[<-this];exact(KV.len rel).symm
 refine Tm.ik (s:=s) (κ:=λ_=>PyProof.Rows.strKind) (kd:=oneType') (G:=λ_ vs=>StrsAre vs ss) (λA E R hA hR=>Tm.wm (PySem.W.kdl_dict (knd:=bn X.prog X.w) (kvs:=vs) (ep:=ep) hm) hA da (by rw[XG];exact zL hz kl) λh' tk acc k z it=>hR h' tk acc.toList k z ?_) (I.ok.hd hc) (λh' vs D k g _=>⟨by rw[g.length];exact hz,Tm.kB g⟩) fin;have al:acc.toList.length=ss.length:=by rw[Qo,it.1,kl]
 have at_:∀(j:Nat) v,acc.toList[j]?=some v->∃x t,ss[j]?=some x/\v=.str x t:=λj v e=>by
  obtain⟨k,x,e1,e2⟩:=it.2 j v (by rw[<-Qy];exact e)
  obtain⟨y,e3⟩:∃y,kvs[j]?=some (k,y):=by
   have hj:j<kvs.length:=by rw[KV.len rel];exact(Qe.mp e1).1
   obtain⟨u,hu,_⟩:=KV.get (i:=j) (k:=kvs[j].1) (v:=kvs[j].2) rel (by rw[Qc hj]);rw[e1]at hu;cases hu;exact⟨kvs[j].2,by rw[Qc hj]⟩
  have e4:=congrArg (·[j]?) ek;simp only[Qh,e3]at e4
  cases e5:ss[j]? with
  | none=>rw[e5]at e4;cases e4
  | some y' =>
  rw[e5]at e4;have e6:k=Sum.inr y':=Q2 e4;subst e6;obtain⟨t,e7⟩:=vQ e2;exact⟨y',t,rfl,e7⟩
 exact rq al at_
end
section
variable {X:Cx}
end
section
variable {X:Cx}
def rE (T:Addr):R2:=λx y H Q=>x=.ref T/\((y=.str "0" /\ Q (.str "1") H)\/(y=.str "1" /\ Q (.str "0") H))
theorem xr {T:Addr} (hT:rl X.K T [("0", .flat (.str "1")),("1", .flat (.str "0"))]):IxR X (rE T):=by
 intro value slice pins s σ H x y v u Q I rx ry h hs;obtain⟨e1,h⟩:=h;subst e1;cases rx;have here:KTD.Here X.base s.heap T [("0", .flat (.str "1")),("1", .flat (.str "0"))]:=⟨KTD.text_of_look (get:=λa=>X.K.lookup a) (λa o e=>I.mod.kin a o e) hT,I.bk⟩;rcases h with⟨e,q⟩|⟨e,q⟩
 ·subst e;obtain⟨t,e⟩:=ry;subst e;refine KTD.item_textA here (by rfl) (by decide +kernel) ?_ hs;have e:decide (("0" : Str) = "0")=true:=by decide +kernel
  simp only[KTD.EachL,e,if_true];exact λt=>⟨.str "1", H,I.tok _,⟨_,rfl⟩,q⟩
 subst e;obtain⟨t,e⟩:=ry;subst e;refine KTD.item_textA here (by rfl) (by decide +kernel) ?_ hs;have e:decide (("1" : Str) = "0")=false:=by decide +kernel
 simp only[KTD.EachL,e,QT,if_false];exact λ_ t=>⟨.str "0", H,I.tok _,⟨_,rfl⟩,q⟩
end
end L2
namespace LZ
open PySem
section
variable {prog:Program} {w:World} {A:Around} {E:Value->Shared->Prop} {s:Shared}
abbrev IsZ (h:Heap) (z TI TO:Addr) (f0:Value) (f1:Bool):Prop :=
 h.get? z=some { cls:=.type "zip", dict:=none,data:=.fields #[f0,.bool f1,.bool false,.ref TI,.ref TO],slots:=#[] }
structure Apart5 (z TI TO i1 i2 l:Addr):Prop where
 TIz:TI≠z
 TOz:TO≠z
 i1z:i1≠z
 i2z:i2≠z
 TITO:TI≠TO
 TIi1:TI≠i1
 TIi2:TI≠i2
 TOi1:TO≠i1
 TOi2:TO≠i2
 i12:i1≠i2
 lz:l≠z
 lTO:l≠TO
 li1:l≠i1
 li2:l≠i2
variable {t:Tok} {x:Str} {it z i1 i2 l a:Addr} {ty:String}
theorem il (hty:ty = "str_ascii_iterator" \/ ty = "str_iterator") {i c:Nat} {Q:Value->Shared->Prop} (hit:s.heap.IsStrIter it ty x t i) (hx:x.cps[i]?=some c)
  (hQ:∀h',h'.IsStrIter it ty x t (i+1)->Heap.SameBut it s.heap h'->Q (.str ⟨#[c]⟩ s.toks) { s with heap:=h',toks:=s.toks+1 }) :
  wpAny (model prog w) A (Builtin.SmallTypes.nextOf (.ref it)) Q E s:=by
 rcases hty with e|e
 ·subst e;exact wpAny_nextOf_ascii_item hit hx hQ
 subst e;exact wpAny_nextOf_wide_item hit hx hQ
variable {Q:Option Value->Shared->Prop} {xs:Array Value}
theorem qC (hty:ty = "str_ascii_iterator" \/ ty = "str_iterator") {TI TO:Addr} {k c:Nat} {v a b:Value} (D:Apart5 z TI TO i1 i2 l)
  (hz:IsZ s.heap z TI TO .none false) (hTI:IsPair s.heap TI (.ref i1) (.ref i2)) (hTO:IsPair s.heap TO a b) (h1:s.heap.IsListIter i1 l k) (h2:s.heap.IsStrIter i2 ty x t k) (hl:s.heap.IsList l xs) (hv:xs[k]?=some v) (hc:x.cps[k]?=some c)
  (hQ:∀h',IsZ h' z TI TO (rawInt s.heap.objs.size) false->(∃a b,IsPair h' TO a b)->h'.IsListIter i1 l (k+1)->h'.IsStrIter i2 ty x t (k+1)->IsPair h' s.heap.objs.size v (.str ⟨#[c]⟩ s.toks)->h'.objs.size=s.heap.objs.size+1 ->
   (∀c o,c≠z->c≠TO->c≠i1->c≠i2->s.heap.get? c=some o->h'.get? c=some o)->Q (some (.ref s.heap.objs.size)) { s with heap:=h',toks:=s.toks+1 }) :
  wpAny (model prog w) A (pyNext (.ref z)) Q E s:=by
 have hT:s.TypeIs (.ref z) "zip" := ⟨_,hz,rfl⟩;unfold pyNext
 refine Qb (wpAny_attempt (XS (name:=Str.ofString "__next__") hT F.slot_zip_next
  (XD F.slot_zip_next hT F.entry_zip_next ?_ (F.args_zip_next_1 _))))
 show wpAny _ _ (field (.ref z) 2 >>= _) _ _ _;refine Qb (Xo hz rfl (x:=.bool false) rfl ?_);show wpAny _ _ (field (.ref z) 3 >>= _) _ _ _;refine Qb (Xo hz rfl (x:=.ref TI) rfl ?_);refine Qb (wpAny_seqItems hTI rfl ?_);show wpAny _ _ (Builtin.SmallTypes.ownedTupleIsFree (.ref z) >>= _) _ _ _;refine Qb ?_;unfold Builtin.SmallTypes.ownedTupleIsFree;refine Qb (Xo hz rfl (x:=.none) rfl (Qf ?_));simp only[if_true];refine Qb (XO ?_);refine Qb (Xo hz rfl (x:=.ref TO) rfl ?_);refine Qb (Xk hz (by simp) λh₁ hz₁ hs₁=>?_)
 replace hz₁:IsZ h₁ z TI TO .ellipsis false:=hz₁
 refine Qb ?_;simp only[List.zipIdx_cons,List.zipIdx_nil,List.forIn_cons,List.forIn_nil];refine Qb (Qb (wpAny_onRaise ?_));show wpAny _ _ (Builtin.SmallTypes.nextOf (.ref i1) >>= _) _ _ _;refine Qb (wpAny_nextOf_list_item (h1.extBut hs₁.extBut D.i1z) (hl.extBut hs₁.extBut D.lz) hv λh₂ h1₂ hs₂=>Qf ?_);have hTO₂:IsPair h₂ TO a b:=hs₂.extBut _ _ D.TOi1 (hs₁.extBut _ _ D.TOz hTO);refine Qb (wpAny_seqItems hTO₂ rfl ?_);refine Qb (wpAny_updateSeq_pair hTO₂ λh₃ hTO₃ hs₃=>?_)
 replace hTO₃:IsPair h₃ TO v b:=hTO₃
 refine Qb (wpAny_letGo (Qf ?_));refine Qb (Qb (wpAny_onRaise ?_));show wpAny _ _ (Builtin.SmallTypes.nextOf (.ref i2) >>= _) _ _ _;have h2₃:h₃.IsStrIter i2 ty x t k:=((h2.extBut hs₁.extBut D.i2z).extBut hs₂.extBut D.i12.symm).extBut hs₃.extBut D.TOi2.symm;refine Qb (il hty h2₃ hc λh₄ h2₄ hs₄=>Qf ?_);have hTO₄:IsPair h₄ TO v b:=hs₄.extBut _ _ D.TOi2 hTO₃;refine Qb (wpAny_seqItems hTO₄ rfl ?_);refine Qb (wpAny_updateSeq_pair hTO₄ λh₅ hTO₅ hs₅=>?_)
 replace hTO₅:IsPair h₅ TO v (.str ⟨#[c]⟩ s.toks):=hTO₅
 refine Qb (wpAny_letGo (Qf (Qf ?_)));refine Qb (wpAny_seqItems hTO₅ rfl ?_);refine Qb (wpAny_newTuple ?_);have hsz:h₅.objs.size=s.heap.objs.size:=by rw[hs₅.1,hs₄.1,hs₃.1,hs₂.1,hs₁.1]
 have hz₅:IsZ h₅ z TI TO .ellipsis false:=hs₅.extBut _ _ D.TOz.symm (hs₄.extBut _ _ D.i2z.symm (hs₃.extBut _ _ D.TOz.symm (hs₂.extBut _ _ D.i1z.symm hz₁)))
 have hk₅:∀c o,c≠z->c≠TO->c≠i1->c≠i2->s.heap.get? c=some o->h₅.get? c=some o:=λc o c1 c2 c3 c4 e =>
  hs₅.extBut _ _ c2 (hs₄.extBut _ _ c4 (hs₃.extBut _ _ c2 (hs₂.extBut _ _ c3 (hs₁.extBut _ _ c1 e))))
 have h1₅:h₅.IsListIter i1 l (k+1):=((h1₂.extBut hs₃.extBut D.TOi1.symm).extBut hs₄.extBut D.i12).extBut hs₅.extBut D.TOi1.symm;have h2₅:h₅.IsStrIter i2 ty x t (k+1):=h2₄.extBut hs₅.extBut D.TOi2.symm;have hzlt:z<h₅.objs.size:=Qm hz₅;show wpAny _ _ (Builtin.SmallTypes.ownedTupleHandOut (.ref z) (.ref h₅.objs.size) >>= _) _ _ _;refine Qb ?_;unfold Builtin.SmallTypes.ownedTupleHandOut;have hz₆:IsZ (h₅.push { cls:=.type "tuple", data:=.seq #[v,.str ⟨#[c]⟩ s.toks] }) z TI TO .ellipsis false:=Qd _ hz₅;refine Qb (Xk hz₆ (by simp) λh₇ hz₇ hs₇=>?_)
 replace hz₇:IsZ h₇ z TI TO (rawInt h₅.objs.size) false:=hz₇
 refine Xk hz₇ (by simp) λh₈ hz₈ hs₈=>?_
 replace hz₈:IsZ h₈ z TI TO (rawInt h₅.objs.size) false:=hz₈
 have up:∀c o,c≠z->h₅.get? c=some o->h₈.get? c=some o:=λc o c1 e=>hs₈.extBut _ _ c1 (hs₇.extBut _ _ c1 (Qd _ e));have hT₈:IsPair h₈ h₅.objs.size v (.str ⟨#[c]⟩ s.toks):=hs₈.extBut _ _ (Nat.ne_of_gt hzlt) (hs₇.extBut _ _ (Nat.ne_of_gt hzlt) (Qp _ rfl));have hz8:h₈.objs.size=h₅.objs.size+1:=by rw[hs₈.1,hs₇.1,Xd]
 rw[hsz]at hz₈ hT₈ hz8;refine Qf ⟨_,rfl,Qf ?_⟩;show Q (some (.ref h₅.objs.size)) _;rw[hsz];exact hQ h₈ hz₈ ⟨_,_,up _ _ D.TOz hTO₅⟩ (h1₅.at λo e=>up _ o D.i1z e) (let ⟨o,e,r⟩:=h2₅;⟨o,up _ o D.i2z e,r⟩) hT₈ hz8 λc o c1 c2 c3 c4 e=>up c o c1 (hk₅ c o c1 c2 c3 c4 e)
theorem yR {o:Obj} {Q:Option Obj->Shared->Prop} (ho:s.heap.get? a=some o) (h:Q (some o) s):wpAny (model prog w) A (loadIfAlive a) Q E s:=by
 have h':Q (s.heap.get? a) s:=by rw[ho];exact h
 exact λ_ _ _=>h'
theorem qz (hty:ty = "str_ascii_iterator" \/ ty = "str_iterator") {TI TO T:Addr} {f1:Bool} {oT:Obj} {k c:Nat} {v:Value} (D:Apart5 z TI TO i1 i2 l)
  (hz:IsZ s.heap z TI TO (rawInt T) f1) (hT:s.heap.get? T=some oT) (hTI:IsPair s.heap TI (.ref i1) (.ref i2)) (h1:s.heap.IsListIter i1 l k) (h2:s.heap.IsStrIter i2 ty x t k) (hl:s.heap.IsList l xs) (hv:xs[k]?=some v) (hc:x.cps[k]?=some c)
  (hQ:∀h',IsZ h' z TI TO (rawInt T) true->h'.IsListIter i1 l (k+1)->h'.IsStrIter i2 ty x t (k+1)->IsPair h' s.heap.objs.size v (.str ⟨#[c]⟩ s.toks)->h'.objs.size=s.heap.objs.size+1 ->
   (∀c o,c≠z->c≠i1->c≠i2->s.heap.get? c=some o->h'.get? c=some o)->Q (some (.ref s.heap.objs.size)) { s with heap:=h',toks:=s.toks+1 }) :
  wpAny (model prog w) A (pyNext (.ref z)) Q E s:=by
 have hTy:s.TypeIs (.ref z) "zip" := ⟨_,hz,rfl⟩;unfold pyNext
 refine Qb (wpAny_attempt (XS (name:=Str.ofString "__next__") hTy F.slot_zip_next
  (XD F.slot_zip_next hTy F.entry_zip_next ?_ (F.args_zip_next_1 _))))
 show wpAny _ _ (field (.ref z) 2 >>= _) _ _ _;refine Qb (Xo hz rfl (x:=.bool false) rfl ?_);show wpAny _ _ (field (.ref z) 3 >>= _) _ _ _;refine Qb (Xo hz rfl (x:=.ref TI) rfl ?_);refine Qb (wpAny_seqItems hTI rfl ?_);show wpAny _ _ (Builtin.SmallTypes.ownedTupleIsFree (.ref z) >>= _) _ _ _;refine Qb ?_;unfold Builtin.SmallTypes.ownedTupleIsFree;refine Qb (Xo hz rfl (x:=rawInt T) rfl ?_);show wpAny _ _ (loadIfAlive ((T:Int).toNat) >>= _) _ _ _;rw[Xw];refine Qb (yR hT ?_);simp only[Option.isNone_some,QT,if_false];refine Qb (Xo hz rfl (x:=.bool f1) rfl ?_)
 cases f1 with
 | false =>
  simp only[show (Value.bool false != Value.bool true)=true from rfl,if_true];refine Qb (Xk hz (by simp) λh₁ hz₁ hs₁=>Qf ?_)
  replace hz₁:IsZ h₁ z TI TO (rawInt T) true:=hz₁
  simp only[QT,if_false,List.forIn_toArray,List.forIn_cons,List.forIn_nil];refine Qb (Qb (Qb (Q3 ?_)));show wpAny _ _ (Builtin.SmallTypes.nextOf (.ref i1) >>= _) _ _ _;refine Qb (wpAny_nextOf_list_item (h1.extBut hs₁.extBut D.i1z) (hl.extBut hs₁.extBut D.lz) hv λh₂ h1₂ hs₂=>Qf ?_);refine Qf ?_;dsimp only;refine Qb (Qb (Q3 ?_));show wpAny _ _ (Builtin.SmallTypes.nextOf (.ref i2) >>= _) _ _ _;have h2₂:h₂.IsStrIter i2 ty x t k:=(h2.extBut hs₁.extBut D.i2z).extBut hs₂.extBut D.i12.symm;refine Qb (il hty h2₂ hc λh₄ h2₄ hs₄=>Qf ?_);refine Qf (Qf ?_);dsimp only;show wpAny _ _ (newTuple [v,.str ⟨#[c]⟩ s.toks] >>= _) _ _ _;refine Qb (wpAny_newTuple ?_);have hsz:h₄.objs.size=s.heap.objs.size:=by rw[hs₄.1,hs₂.1,hs₁.1]
  have hz₄:IsZ h₄ z TI TO (rawInt T) true:=hs₄.extBut _ _ D.i2z.symm (hs₂.extBut _ _ D.i1z.symm hz₁);have hk₄:∀c o,c≠z->c≠i1->c≠i2->s.heap.get? c=some o->h₄.get? c=some o:=λc o c1 c3 c4 e=>hs₄.extBut _ _ c4 (hs₂.extBut _ _ c3 (hs₁.extBut _ _ c1 e));refine Qf ⟨_,rfl,Qf ?_⟩;show Q (some (.ref h₄.objs.size)) _;rw[hsz];exact hQ _ (Qd _ hz₄) ((h1₂.extBut hs₄.extBut D.i12).at λo e=>Qd _ e) (let ⟨o,e,r⟩:=h2₄;⟨o,Qd _ e,r⟩) (by rw[<-hsz];exact Qp _ rfl) (by rw[Xd,hsz]) λc o c1 c3 c4 e=>Qd _ (hk₄ c o c1 c3 c4 e)
 | true =>
 simp only[show (Value.bool true != Value.bool true)=false from rfl,QT,if_false];refine Qf ?_;have hz₁:IsZ s.heap z TI TO (rawInt T) true:=hz;have hs₁:Heap.SameBut z s.heap s.heap:=.refl ..;simp only[QT,if_false,List.forIn_toArray,List.forIn_cons,List.forIn_nil];refine Qb (Qb (Qb (Q3 ?_)));show wpAny _ _ (Builtin.SmallTypes.nextOf (.ref i1) >>= _) _ _ _;refine Qb (wpAny_nextOf_list_item (h1.extBut hs₁.extBut D.i1z) (hl.extBut hs₁.extBut D.lz) hv λh₂ h1₂ hs₂=>Qf ?_);refine Qf ?_;dsimp only;refine Qb (Qb (Q3 ?_));show wpAny _ _ (Builtin.SmallTypes.nextOf (.ref i2) >>= _) _ _ _;have h2₂:h₂.IsStrIter i2 ty x t k:=(h2.extBut hs₁.extBut D.i2z).extBut hs₂.extBut D.i12.symm;refine Qb (il hty h2₂ hc λh₄ h2₄ hs₄=>Qf ?_);refine Qf (Qf ?_);dsimp only;show wpAny _ _ (newTuple [v,.str ⟨#[c]⟩ s.toks] >>= _) _ _ _;refine Qb (wpAny_newTuple ?_);have hsz:h₄.objs.size=s.heap.objs.size:=by rw[hs₄.1,hs₂.1,hs₁.1]
 have hz₄:IsZ h₄ z TI TO (rawInt T) true:=hs₄.extBut _ _ D.i2z.symm (hs₂.extBut _ _ D.i1z.symm hz₁);have hk₄:∀c o,c≠z->c≠i1->c≠i2->s.heap.get? c=some o->h₄.get? c=some o:=λc o c1 c3 c4 e=>hs₄.extBut _ _ c4 (hs₂.extBut _ _ c3 (hs₁.extBut _ _ c1 e));refine Qf ⟨_,rfl,Qf ?_⟩;show Q (some (.ref h₄.objs.size)) _;rw[hsz];exact hQ _ (Qd _ hz₄) ((h1₂.extBut hs₄.extBut D.i12).at λo e=>Qd _ e) (let ⟨o,e,r⟩:=h2₄;⟨o,Qd _ e,r⟩) (by rw[<-hsz];exact Qp _ rfl) (by rw[Xd,hsz]) λc o c1 c3 c4 e=>Qd _ (hk₄ c o c1 c3 c4 e)
theorem o8 {TI TO:Addr} {f0:Value} {f1:Bool} {k:Nat} {a b:Value} (hh:A.handled=none) (D:Apart5 z TI TO i1 i2 l)
  (hz:IsZ s.heap z TI TO f0 f1) (hf:(f0=.none/\f1=false/\∃a b,IsPair s.heap TO a b)\/∃(T:Addr) (oT:Obj),f0=rawInt (T:Nat)/\s.heap.get? T=some oT) (hTI:IsPair s.heap TI (.ref i1) (.ref i2)) (h1:s.heap.IsListIter i1 l k) (hl:s.heap.IsList l xs) (hv:xs[k]?=none)
  (hQ:∀h',(∀c o,c≠z->c≠i1->s.heap.get? c=some o->h'.get? c=some o)->Q none { s with heap:=h' }):wpAny (model prog w) A (pyNext (.ref z)) Q E s:=by
 have hTy:s.TypeIs (.ref z) "zip" := ⟨_,hz,rfl⟩;unfold pyNext
 refine Qb (wpAny_attempt (XS (name:=Str.ofString "__next__") hTy F.slot_zip_next
  (XD F.slot_zip_next hTy F.entry_zip_next ?_ (F.args_zip_next_1 _))))
 show wpAny _ _ (field (.ref z) 2 >>= _) _ _ _;refine Qb (Xo hz rfl (x:=.bool false) rfl ?_);show wpAny _ _ (field (.ref z) 3 >>= _) _ _ _;refine Qb (Xo hz rfl (x:=.ref TI) rfl ?_);refine Qb (wpAny_seqItems hTI rfl ?_);show wpAny _ _ (Builtin.SmallTypes.ownedTupleIsFree (.ref z) >>= _) _ _ _;refine Qb ?_;unfold Builtin.SmallTypes.ownedTupleIsFree;refine Qb (Xo hz rfl (x:=f0) rfl ?_)
 have fin:∀h' e,(∀c o,c≠z->c≠i1->s.heap.get? c=some o->h'.get? c=some o)->(∃o,h'.get? e=some o/\o.cls=.type "StopIteration") ->
   wpAny (model prog w) A (do if <-isInstance (.ref e) (.type "StopIteration") then pure none else throw (.ref e)) Q E { s with heap:=h' }:=λh' e hk ⟨o,ho,hc⟩ =>
  Qb (wpAny_isInstance (T := "StopIteration") (b:=true) ⟨o,ho,hc⟩ isSubtype_stop (Qf (hQ _ hk)))
 rcases hf with⟨e1,e2,a,b,hTO⟩|⟨T,oT,e1,hT⟩
 ·subst e1 e2;refine Qf ?_;simp only[if_true];refine Qb (XO ?_);refine Qb (Xo hz rfl (x:=.ref TO) rfl ?_);refine Qb (Xk hz (by simp) λh₁ hz₁ hs₁=>?_)
  replace hz₁:IsZ h₁ z TI TO .ellipsis false:=hz₁
  refine Qb ?_;simp only[List.zipIdx_cons,List.zipIdx_nil,List.forIn_cons,List.forIn_nil];refine Qb (Qb (wpAny_onRaise ?_));show wpAny _ _ (Builtin.SmallTypes.nextOf (.ref i1) >>= _) _ _ _;refine Qb (wpAny_nextOf_list_end hh (h1.extBut hs₁.extBut D.i1z) (hl.extBut hs₁.extBut D.lz) hv λh₂ e hs₂ he=>?_);obtain⟨oe,hoe,hce⟩:=he;have hz₂:IsZ h₂ z TI TO .ellipsis false:=hs₂ _ _ D.i1z.symm hz₁;have hez:e≠z:=λx=>by subst x;rw[hz₂]at hoe;cases hoe;simp at hce
  refine Xk hz₂ (by simp) λh₃ _ hs₃=>?_;exact fin h₃ e (λc o c1 c3 x=>hs₃.extBut _ _ c1 (hs₂ _ _ c3 (hs₁.extBut _ _ c1 x))) ⟨oe,hs₃.extBut _ _ hez hoe,hce⟩
 subst e1;show wpAny _ _ (loadIfAlive ((T:Int).toNat) >>= _) _ _ _;rw[Xw];refine Qb (yR hT ?_);simp only[Option.isNone_some,QT,if_false];refine Qb (Xo hz rfl (x:=.bool f1) rfl ?_)
 cases f1 with
 | false =>
  simp only[show (Value.bool false != Value.bool true)=true from rfl,if_true];refine Qb (Xk hz (by simp) λh₁ hz₁ hs₁=>Qf ?_)
  replace hz₁:IsZ h₁ z TI TO (rawInt T) true:=hz₁
  simp only[QT,if_false,List.forIn_toArray,List.forIn_cons,List.forIn_nil];refine Qb (Qb (Qb (Q3 ?_)));show wpAny _ _ (Builtin.SmallTypes.nextOf (.ref i1) >>= _) _ _ _;refine Qb (wpAny_nextOf_list_end hh (h1.extBut hs₁.extBut D.i1z) (hl.extBut hs₁.extBut D.lz) hv λh₂ e hs₂ he=>?_);exact fin h₂ e (λc o c1 c3 x=>hs₂ _ _ c3 (hs₁.extBut _ _ c1 x)) he
 | true =>
 simp only[show (Value.bool true != Value.bool true)=false from rfl,QT,if_false];refine Qf ?_;simp only[QT,if_false,List.forIn_toArray,List.forIn_cons,List.forIn_nil];refine Qb (Qb (Qb (Q3 ?_)));show wpAny _ _ (Builtin.SmallTypes.nextOf (.ref i1) >>= _) _ _ _;refine Qb (wpAny_nextOf_list_end hh h1 hl hv λh₂ e hs₂ he=>?_);exact fin h₂ e (λc o c1 c3 x=>hs₂ _ _ c3 x) he
abbrev zH1 (h:Heap) (l:Addr):Heap:=h.push { cls:=.type "list_iterator", data:=.fields #[.ref l,.int 0 0] }
abbrev zH2 (h:Heap) (l:Addr) (ty:String) (x:Str) (t:Tok):Heap:=(zH1 h l).push { cls:=.type ty,data:=.fields #[.str x t,.int 0 0] }
abbrev zH3 (h:Heap) (l:Addr) (ty:String) (x:Str) (t:Tok):Heap:=(zH2 h l ty x t).push { cls:=.type "tuple", data:=.seq #[.ref h.objs.size,.ref (zH1 h l).objs.size] }
abbrev zH4 (h:Heap) (l:Addr) (ty:String) (x:Str) (t:Tok):Heap:=(zH3 h l ty x t).push { cls:=.type "tuple", data:=.seq #[.none,.none] }
abbrev zH5 (h:Heap) (l:Addr) (ty:String) (x:Str) (t:Tok):Heap:=(zH4 h l ty x t).push { cls:=.type "zip", data:=.fields #[.none,.bool false,.bool false,.ref (zH2 h l ty x t).objs.size,.ref (zH3 h l ty x t).objs.size] }
def eR (x:Str):String:=if x.cps.all (·<128)=true then "str_ascii_iterator" else "str_iterator"
theorem tV {Q:Value->Shared->Prop} (hQ:Q (.ref s.heap.objs.size) { s with heap:=s.heap.push { cls:=.type (eR x),data:=.fields #[.str x t,.int 0 0] } }):wpAny (model prog w) A (pyIter (.str x t)) Q E s:=by
 unfold eR at hQ
 cases ha:x.cps.all (·<128) with
 | true=>rw[ha,QF rfl]at hQ;exact wpAny_pyIter_ascii ha hQ
 | false=>rw[ha,QB Qn]at hQ;exact wpAny_pyIter_wide ha hQ
theorem wG (x:Str):eR x = "str_ascii_iterator" \/ eR x = "str_iterator" := by
 unfold eR
 split
 ·exact .inl rfl
 exact .inr rfl
theorem tN (l:Addr) (xs:Array Value) (x:Str) (t:Tok) :
  Meets (Builtin.«zip.__new__» ⟨[.type "zip", .ref l,.str x t],[]⟩) (λ_ R s=>s.heap.IsList l xs/\R (.ok (.ret (.ref (zH4 s.heap l (eR x) x t).objs.size))) { s with heap:=zH5 s.heap l (eR x) x t }) :=
 .of_wp λprog w A R s h=>by
  obtain⟨hp,g,d,tk,os⟩:=s;obtain⟨hl1,h⟩:=h;have hsub:=sub_zip;have hL1:Heap.IsList (Shared.heap ⟨hp,g,d,tk,os⟩) l xs:=hl1
  wp_walk using wpAny_pyIter_list hL1,tV
  exact⟨_,rfl,h⟩
theorem wu {Q:Value->Shared->Prop} (hl1:s.heap.IsList l xs)
  (h:∀h',IsZ h' (s.heap.objs.size+4) (s.heap.objs.size+2) (s.heap.objs.size+3) .none false->IsPair h' (s.heap.objs.size+2) (.ref s.heap.objs.size) (.ref (s.heap.objs.size+1)) ->
   IsPair h' (s.heap.objs.size+3) .none .none->h'.IsListIter s.heap.objs.size l 0->h'.IsStrIter (s.heap.objs.size+1) (eR x) x t 0->h'.objs.size=s.heap.objs.size+5 ->
   (∀c o,s.heap.get? c=some o->h'.get? c=some o)->Q (.ref (s.heap.objs.size+4)) { s with heap:=h' }) :
  wpAny (model prog w) A (call (.type "zip") [.ref l,.str x t]) Q E s:=by
 refine callType_new F.called_zip (by decide) (F.typeCall_zip_2 _ _) (F.newCall_zip_2 _ _) (λobj=>F.args_object_init_3 obj _ _) F.entry_zip_new (tN l xs x t) ⟨hl1,?_⟩;have z1:(zH1 s.heap l).objs.size=s.heap.objs.size+1:=Xd ..;have z2:(zH2 s.heap l (eR x) x t).objs.size=s.heap.objs.size+2:=by rw[Xd,z1]
 have z3:(zH3 s.heap l (eR x) x t).objs.size=s.heap.objs.size+3:=by rw[Xd,z2]
 have z4:(zH4 s.heap l (eR x) x t).objs.size=s.heap.objs.size+4:=by rw[Xd,z3]
 have z5:(zH5 s.heap l (eR x) x t).objs.size=s.heap.objs.size+5:=by rw[Xd,z4]
 have g5:(zH5 s.heap l (eR x) x t).get? (zH4 s.heap l (eR x) x t).objs.size=some _:=Qp _ rfl;have g4:(zH5 s.heap l (eR x) x t).get? (zH3 s.heap l (eR x) x t).objs.size=some _:=Qd _ (Qp _ rfl);have g3:(zH5 s.heap l (eR x) x t).get? (zH2 s.heap l (eR x) x t).objs.size=some _:=Qd _ (Qd _ (Qp _ rfl));have g2:(zH5 s.heap l (eR x) x t).get? (zH1 s.heap l).objs.size=some _:=Qd _ (Qd _ (Qd _ (Qp _ rfl)));have g1:(zH5 s.heap l (eR x) x t).get? s.heap.objs.size=some _:=Qd _ (Qd _ (Qd _ (Qd _ (Qp _ rfl))));show _/\_;rw[z2,z3,z4]at g5;rw[z1,z2]at g3;rw[z3]at g4;rw[z1]at g2;rw[z4]
 exact⟨⟨_,g5,rfl⟩,h _ g5 g3 g4 ⟨_,g1,rfl,rfl⟩ ⟨_,g2,rfl,rfl⟩ z5 λc o x =>
  Qd _ (Qd _ (Qd _ (Qd _ (Qd _ x))))⟩
theorem h_:typeLookup (.type "zip") "__getattr__" = pure none:=by rw[typeLookup_type,XI];kernel_rfl
theorem kS:typeLookup (.type "zip") "keys" = pure none:=by rw[typeLookup_type,XI];kernel_rfl
theorem fj:entryFor table "zip.__getattribute__" = some Builtin.«object.__getattribute__» :=
 entryFor_alias (id' := "object.__getattribute__") (by kernel_rfl) (by decide +kernel) (by decide +kernel) (by kernel_rfl)
theorem jX (a:Addr) (xs:Array Value) (sl:Array (Option Value)) (u:Tok) :
  Meets (Builtin.«object.__getattribute__» ⟨[.ref a,.str "keys" u],[]⟩) (λA R s=>s.heap.get? a=some { cls:=.type "zip", dict:=none,data:=.fields xs,slots:=sl }/\raisesAttr (.ref a) "keys" A R s) :=
 Meets.of_wp λprog w A R s hs=>by
  obtain⟨hp,g,d,tk,os⟩:=s;obtain⟨hx,hs⟩:=hs;have hT:(⟨hp,g,d,tk,os⟩:Shared).TypeIs (.ref a) "zip" := ⟨_,hx,rfl⟩;have hmiss:=kS;have hname:(["__module__", "__name__", "__qualname__", "__doc__", "__annotations__"]:List Str).contains "keys" = false:=by decide +kernel
  unfold Builtin.«object.__getattribute__»
  repeat (any_goals (first|assumption|wp_step))
  try simp only[hname,QT,if_false]
  repeat (any_goals (first|assumption|wp_step))
  exact wpAny_raiseAttrError hs.1 hs.2 (attrMsg_fits (by decide +kernel) (by decide +kernel))
theorem tQ {sl:Array (Option Value)} (hx:s.heap.get? a=some { cls:=.type "zip", dict:=none,data:=.fields xs,slots:=sl }) (hA:A.handled=none)
  (h:∀h' tk,(∀c o,s.heap.get? c=some o->h'.get? c=some o)->Q none { s with heap:=h',toks:=tk }):wpAny (model prog w) A (getAttr? (.ref a) "keys") Q E s:=by
 obtain⟨hp,g,d,tk,os⟩:=s;have hT:∀tk',(⟨hp,g,d,tk',os⟩:Shared).TypeIs (.ref a) "zip" := λ_=>⟨_,hx,rfl⟩;have f1:=sub_AttributeError;have f3:=F.slot_zip_getattribute.lookup;have f4:=F.slot_zip_getattribute.bind (.ref a);have f5:=h_;unfold getAttr? getAttrBy? getAttrBy
 repeat (any_goals (first|assumption|exact hT _|((with_reducible show wpAny _ _ (call (Value.builtin "zip.__getattribute__") _ _) _ _ _);refine call_meets F.slot_zip_getattribute (hT _) fj (F.args_zip_getattribute_2 _ _) (jX a xs sl _) ⟨hx,hA,λh' tk' e hx'=>?_⟩)|wp_step))
 obtain⟨t',u',he⟩:=hx'.there;show wpAny _ _ (getattributeRaised _ _ _ _ _ _ _) _ _ _;unfold getattributeRaised
 repeat (any_goals (first|assumption|wp_step))
 all_goals exact h _ _ hx'.keeps
end
theorem jU:mroOf (.type "dict")=pure [.type "dict", .type "object"]:=by rw[mroOf_type];kernel_rfl
theorem i5:typeLookup (.type "dict") "__new__" = pure (some (.builtin "dict.__new__")):=by rw[typeLookup_type,XI];kernel_rfl
theorem iT:TypeCalled "dict" "dict.__new__" "dict.__init__" :=
 ⟨by decide +kernel,by decide +kernel,⟨_,_,jU⟩,madeBy_type jU i5 (by decide +kernel),by decide +kernel,by rw[isSubtype_type];kernel_rfl,F.slot_dict_init⟩
theorem fq (a:Value):checkTypeCall "dict" ⟨[a],[]⟩=pure ():=by kernel_rfl
theorem jS (a:Value):checkBuiltinCall "dict.__new__" ⟨[.type "dict", a],[]⟩=pure ():=by kernel_rfl
theorem km:entryFor table "dict.__new__" = some Builtin.«dict.__new__»:=entryFor_of_tree (by kernel_rfl)
theorem jN:plainId "dict.__new__" = true:=by decide +kernel
theorem ux:isSubtype (.type "dict") (.type "dict")=pure true:=by rw[isSubtype_type];kernel_rfl
theorem f9:entryFor table "dict.update.loop" = some Builtin.«dict.update.loop»:=entryFor_of_tree (by kernel_rfl)
theorem cT:plainId "dict.update.loop" = true:=by decide +kernel
structure ApartD (z TI TO i1 i2 l d:Addr):Prop extends Apart5 z TI TO i1 i2 l where
 dz:d≠z
 dTI:d≠TI
 dTO:d≠TO
 di1:d≠i1
 di2:d≠i2
 dl:d≠l
structure ZS (h:Heap) (z TI TO i1 i2 l d:Addr) (ty:String) (x:Str) (t:Tok) (xs:Array Value) (k:Nat):Prop where
 zf:(IsZ h z TI TO .none false/\∃a b,IsPair h TO a b)\/∃(T:Addr) (f1:Bool) (oT:Obj),IsZ h z TI TO (rawInt (T:Nat)) f1/\h.get? T=some oT/\T≠z/\T≠i1/\T≠i2/\T≠d
 ti:IsPair h TI (.ref i1) (.ref i2)
 a1:h.IsListIter i1 l k
 a2:h.IsStrIter i2 ty x t k
 li:h.IsList l xs
section
variable {prog:Program} {w:World} {K:Type} [DecidableEq K] {knd:KeyKind prog w K} {A:Around} {R:Result->Shared->Prop}
variable {Q:Option Value->Shared->Prop} {xs:Array Value} {t:Tok} {x:Str} {z i1 i2 l d:Addr} {ty:String} {s:Shared} {E:Value->Shared->Prop}
theorem wA (hty:ty = "str_ascii_iterator" \/ ty = "str_iterator") {TI TO:Addr} {k c:Nat} {v:Value} {od:Obj} (D:ApartD z TI TO i1 i2 l d)
  (Z:ZS s.heap z TI TO i1 i2 l d ty x t xs k) (hod:s.heap.get? d=some od) (hv:xs[k]?=some v) (hc:x.cps[k]?=some c)
  (hQ:∀h' T u,ZS h' z TI TO i1 i2 l d ty x t xs (k+1)->IsPair h' T v (.str ⟨#[c]⟩ u)->T≠d->(∀c o,c≠z->c≠TO->c≠i1->c≠i2->s.heap.get? c=some o->h'.get? c=some o)->Q (some (.ref T)) { s with heap:=h',toks:=s.toks+1 }) :
  wpAny (model prog w) A (pyNext (.ref z)) Q E s:=by
 have lt:∀{c o},s.heap.get? c=some o->s.heap.objs.size≠c:=λe=>Nat.ne_of_gt (Qm e);have l1:s.heap.objs.size≠i1:=by obtain⟨_,e,_⟩:=Z.a1;exact lt e
 have l2:s.heap.objs.size≠i2:=by obtain⟨_,e,_⟩:=Z.a2;exact lt e
 rcases Z.zf with⟨hz,a,b,hTO⟩|⟨T,f1,oT,hz,hT,n1,n2,n3,n4⟩
 ·refine qC hty D.toApart5 hz Z.ti hTO Z.a1 Z.a2 Z.li hv hc λh' b1 b2 b3 b4 b5 b6 b7=>?_;exact hQ h' _ _ ⟨.inr ⟨_,_,_,b1,b5,lt hz,l1,l2,lt hod⟩,b7 _ _ D.TIz D.TITO D.TIi1 D.TIi2 Z.ti,b3,b4,Z.li.at λo e=>b7 _ o D.lz D.lTO D.li1 D.li2 e⟩ b5 (lt hod) b7
 refine qz hty D.toApart5 hz hT Z.ti Z.a1 Z.a2 Z.li hv hc λh' b1 b3 b4 b5 b6 b7=>?_;exact hQ h' _ _ ⟨.inr ⟨T,_,oT,b1,b7 _ _ n1 n2 n3 hT,n1,n2,n3,n4⟩,b7 _ _ D.TIz D.TIi1 D.TIi2 Z.ti,b3,b4,Z.li.at λo e=>b7 _ o D.lz D.li1 D.li2 e⟩ b5 (lt hod) λc o c1 _ c3 c4 e=>b7 c o c1 c3 c4 e
theorem yT {TI TO:Addr} {k:Nat} (hh:A.handled=none) (D:ApartD z TI TO i1 i2 l d)
  (Z:ZS s.heap z TI TO i1 i2 l d ty x t xs k) (hv:xs[k]?=none) (hQ:∀h',(∀c o,c≠z->c≠i1->s.heap.get? c=some o->h'.get? c=some o)->Q none { s with heap:=h' }):wpAny (model prog w) A (pyNext (.ref z)) Q E s:=by
 rcases Z.zf with⟨hz,a,b,hTO⟩|⟨T,f1,oT,hz,hT,n1,n2,n3,n4⟩
 ·exact o8 (a:=a) (b:=b) hh D.toApart5 hz (.inl ⟨rfl,rfl,a,b,hTO⟩) Z.ti Z.a1 Z.li hv hQ
 exact o8 (a:=.none) (b:=.none) hh D.toApart5 hz (.inr ⟨T,oT,rfl,hT⟩) Z.ti Z.a1 Z.li hv hQ
theorem ZS.dict {h h':Heap} {TI TO:Addr} {k:Nat} (D:ApartD z TI TO i1 i2 l d) (Z:ZS h z TI TO i1 i2 l d ty x t xs k) (hs:Heap.SameBut d h h'):ZS h' z TI TO i1 i2 l d ty x t xs k:=by
 refine⟨?_,hs.extBut _ _ D.dTI.symm Z.ti,Z.a1.extBut hs.extBut D.di1.symm,Z.a2.extBut hs.extBut D.di2.symm,Z.li.extBut hs.extBut D.dl.symm⟩;rcases Z.zf with⟨hz,a,b,hTO⟩|⟨T,f1,oT,hz,hT,n1,n2,n3,n4⟩
 ·exact .inl ⟨hs.extBut _ _ D.dz.symm hz,a,b,hs.extBut _ _ D.dTO.symm hTO⟩
 exact .inr ⟨T,f1,oT,hs.extBut _ _ D.dz.symm hz,hs.extBut _ _ n4 hT,n1,n2,n3,n4⟩
def dY (kvs:List (K × Value)) (ps:List (K × Value)):List (K × Value):=ps.foldl (λacc p=>stored acc p.1 p.2) kvs
theorem jm (kvs:List (K × Value)) (k:K) (v:Value):(stored kvs k v).length<=kvs.length+1:=by
 unfold stored
 split
 ·rw[Qa];exact Bk
 rw[Qj];simp
theorem ua (hty:ty = "str_ascii_iterator" \/ ty = "str_iterator") {TI TO:Addr} (D:ApartD z TI TO i1 i2 l d) (hh:A.handled=none) (ks:Nat->K) (hk:∀k v,xs[k]?=some v->knd.is (ks k) v=true)
  (hlen:xs.size<=x.cps.size) (hsz:xs.size<=sizeLine):∀(m k:Nat) (i:Int) (s:Shared) (kvs:List (K × Value)),xs.size-k=m->k<=xs.size->ZS s.heap z TI TO i1 i2 l d ty x t xs k->s.heap.DictOf knd d kvs->kvs.length<=k ->
  (∀h' tk (ps:List (K × Value)),ps.length=xs.size-k->(∀(j:Nat) p,ps[j]?=some p->p.1=ks (k+j)/\∃c u,x.cps[k+j]?=some c/\p.2=.str ⟨#[c]⟩ u)->h'.DictOf knd d (dY kvs ps) ->
   (∀c o,c≠z->c≠TO->c≠i1->c≠i2->c≠d->s.heap.get? c=some o->h'.get? c=some o)->R (.ok (.ret .none)) { s with heap:=h',toks:=tk }) ->
  codeAny (model prog w) A (.builtin "dict.update.loop" ⟨[.ref d,.ref z,rawInt i,.none],[]⟩) R s:=by
 intro m
 induction m with
 | zero =>
  intro k i s kvs hm hkk Z hd hkl hR;have hin:k=xs.size:=by exact yr hm hkk
  refine Xp f9 ?_;rw[Xh cT _];show wpAny _ A.in1 (pyNext (.ref z) >>= _) _ _ s;refine Qb (yT (show A.in1.handled=none from hh) D Z (by rw[hin];simp) λh' hkeep=>?_);show wpAny _ _ (Builtin.Dict.addKeywords d [] >>= _) _ _ _;refine Qb (Qf (Qf ?_));have hdn:d≠z:=D.dz
  have hd':h'.DictOf knd d kvs:=by
   obtain⟨o,es,ep,e1,r⟩:=hd;exact⟨o,es,ep,hkeep d o D.dz D.di1 e1,r⟩
  exact hR h' s.toks [] (by simp;exact Bj hm) (λj p e=>by simp at e) hd' λc o c1 _ c3 _ _ e=>hkeep c o c1 c3 e
 | succ m ih =>
 intro k i s kvs hm hkk Z hd hkl hR;have hlt:k<xs.size:=by exact yq hm hkk
 have hv:xs[k]?=some xs[k]:=by simp[hlt]
 have hltc:k<x.cps.size:=by exact yw hlen hlt
 have hc:x.cps[k]?=some x.cps[k]:=by simp[hltc]
 obtain⟨od,es0,ep0,hod,_⟩:=id hd;refine Xp f9 ?_;rw[Xh cT _];show wpAny _ A.in1 (pyNext (.ref z) >>= _) _ _ s;refine Qb (wA hty D Z hod hv hc λh1 T u Z1 hT hTd hkeep=>?_)
 have hd1:h1.DictOf knd d kvs:=by
  obtain⟨o,es,ep,e1,r⟩:=hd;exact⟨o,es,ep,hkeep d o D.dz D.dTO D.di1 D.di2 e1,r⟩
 refine Qb (Q3 ?_);have hTy:(Shared.TypeIs { s with heap:=h1,toks:=s.toks+1 } (.ref T) "tuple"):=⟨_,hT,rfl⟩;refine Qb (wpAny_tryCatch ?_);unfold Builtin.Dict.pairItems;refine Qb (wpAny_typeOf hTy ?_);rw[QF (by decide)];refine Qb (wpAny_seqItems hT rfl (Qf ?_));show wpAny _ _ (holding [xs[k],_] (dictSet d xs[k] _)) _ _ _;refine Q3 (wpAny_dictSet_pairs (hk k _ hv) hd1 (λh2 hd2 hs2=>?_) (by exact yp hsz hkl hlt));refine Qf ⟨plainId_quiet cT _,ih (k+1) (i+1) _ _ (by exact yo hm hlt) (by exact yn hlt) (ZS.dict D Z1 hs2) hd2 (Q0 (jm _ _ _) (by exact tq hkl)) λh3 tk ps hl hp hd3 hk3=>?_⟩;refine hR h3 tk ((ks k,.str ⟨#[x.cps[k]]⟩ u)::ps) (by rw[QQ,hl];exact Bh hm hlt) (λj p e=>?_) hd3 λc o c1 c2 c3 c4 c5 e=>hk3 c o c1 c2 c3 c4 c5 (hs2.extBut c o c5 (hkeep c o c1 c2 c3 c4 e))
 cases j with
 | zero =>
  have e':(ks k,Value.str ⟨#[x.cps[k]]⟩ u)=p:=by simpa using e
  subst e';exact⟨rfl,x.cps[k],u,hc,rfl⟩
 | succ j =>
 have q:=hp j p (by simpa using e);rw[show k+(j+1)=k+1+j by exact Bg];exact q
theorem gf (a:Value) {Q:Value->Shared->Prop} (h:Q (.ref s.heap.objs.size) { s with heap:=s.heap.push { cls:=.type "dict", data:=.dict #[] } }) :
  codeAny (model prog w) A (.call (.builtin "dict.__new__") ⟨[.type "dict", a],[]⟩) (wants Q E) s:=by
 refine codeAny_call_builtin jN km (wpAny_of_eq (jS a) ?_);have hsub:=ux;have hmro:=jU;obtain⟨hp,g,d,tk,os⟩:=s;unfold Builtin.«dict.__new__»
 wp_walk
 exact h
theorem ue (hty:ty = "str_ascii_iterator" \/ ty = "str_iterator") {TI TO:Addr} {Q:Value->Shared->Prop} (D:Apart5 z TI TO i1 i2 l) (hh:A.handled=none) (ks:Nat->K)
  (hk:∀k v,xs[k]?=some v->knd.is (ks k) v=true) (hlen:xs.size<=x.cps.size) (hsz:xs.size<=sizeLine) (hz:IsZ s.heap z TI TO .none false) (hTI:IsPair s.heap TI (.ref i1) (.ref i2)) (hTO:∃a b,IsPair s.heap TO a b)
  (h1:s.heap.IsListIter i1 l 0) (h2:s.heap.IsStrIter i2 ty x t 0) (hl:s.heap.IsList l xs)
  (h:∀h' tk (ps:List (K × Value)),ps.length=xs.size->(∀(j:Nat) p,ps[j]?=some p->p.1=ks j/\∃c u,x.cps[j]?=some c/\p.2=.str ⟨#[c]⟩ u)->h'.DictOf knd s.heap.objs.size (dY [] ps) ->
   (∀c o,c≠z->c≠TO->c≠i1->c≠i2->s.heap.get? c=some o->h'.get? c=some o)->Q (.ref s.heap.objs.size) { s with heap:=h',toks:=tk }) :
  wpAny (model prog w) A (call (.type "dict") [.ref z]) Q E s:=by
 refine callType_codes (Q₁:=λobj s1=>obj=.ref s.heap.objs.size/\s1={ s with heap:=s.heap.push { cls:=.type "dict", data:=.dict #[] } }) iT (fq _) F.entry_dict_init (gf _ ⟨rfl,rfl⟩) ?_;rintro obj s1 ⟨rfl,rfl⟩;have up:∀c o,s.heap.get? c=some o->(s.heap.push { cls:=.type "dict", data:=.dict #[] }).get? c=some o:=λc o e=>Qd _ e;have hnew:(s.heap.push { cls:=.type "dict", data:=.dict #[] }).DictOf knd s.heap.objs.size []:=Heap.DictOf.new s.heap;have lt:∀{c o},s.heap.get? c=some o->s.heap.objs.size≠c:=λe=>Nat.ne_of_gt (Qm e);have l1:s.heap.objs.size≠i1:=by obtain⟨_,e,_⟩:=h1;exact lt e
 have l2:s.heap.objs.size≠i2:=by obtain⟨_,e,_⟩:=h2;exact lt e
 have ll:s.heap.objs.size≠l:=by obtain⟨_,e,_⟩:=hl;exact lt e
 obtain⟨a0,b0,hTO'⟩:=hTO;have DD:ApartD z TI TO i1 i2 l s.heap.objs.size:=⟨D,lt hz,lt hTI,lt hTO',l1,l2,ll⟩;refine⟨hnew.typeIs,F.args_dict_init_2 _ _,?_⟩;unfold Builtin.«dict.__init__»;refine Qb ?_;unfold Builtin.Dict.selfAndRest;refine Qb (wpAny_notOrdered_dict hnew.typeIs ?_);show wpAny _ _ (pure (s.heap.objs.size,[Value.ref z])) _ _ _;refine Qf ?_;show wpAny _ _ (Builtin.Dict.updateFrom "dict.__init__" s.heap.objs.size (.ref z) [] .none) _ _ _;unfold Builtin.Dict.updateFrom;have hzT:Shared.TypeIs { s with heap:=s.heap.push { cls:=.type "dict", data:=.dict #[] } } (.ref z) "zip" := ⟨_,up _ _ hz,rfl⟩;refine Qb (wpAny_typeOf hzT ?_);rw[QF (by decide)];refine Qb (tQ (up _ _ hz) (show A.in1.in1.handled=none from hh) λh3 tk k3=>?_);simp only[Option.isNone_none,if_true];refine Qb (XO ?_);have hz3:IsZ h3 z TI TO .none false:=k3 _ _ (up _ _ hz);refine Qb (wpAny_pyIter_zip (z:=z) (TI:=TI) (TO:=TO) (f0:=.none) hz3 ?_);refine Qf ⟨plainId_quiet cT _,?_⟩;have Z3:ZS h3 z TI TO i1 i2 l s.heap.objs.size ty x t xs 0:=⟨.inl ⟨hz3,a0,b0,k3 _ _ (up _ _ hTO')⟩,k3 _ _ (up _ _ hTI),h1.at λo e=>k3 _ o (up _ o e),(let ⟨o,e,r⟩:=h2;⟨o,k3 _ o (up _ o e),r⟩),hl.at λo e=>k3 _ o (up _ o e)⟩
 have hd3:h3.DictOf knd s.heap.objs.size []:=by
  obtain⟨o,es,ep,e1,r⟩:=hnew;exact⟨o,es,ep,k3 _ _ e1,r⟩
 refine ua hty DD (show A.in1.handled=none from hh) ks hk hlen hsz xs.size 0 0 _ [] (by simp) (QN _) Z3 hd3 (Qg _) λh4 tk4 ps hp1 hp2 hd4 hk4=>?_;refine⟨rfl,h h4 tk4 ps (by simpa using hp1) (λj p e=>by simpa using hp2 j p e) hd4 λc o c1 c2 c3 c4 e=>hk4 c o c1 c2 c3 c4 (lt e).symm (k3 _ _ (up _ _ e))⟩
end
end LZ
namespace L2
open PySem PySem.Spec PyProof.Rows
def bw (kvs:List (Key × V)):List (Key × V)->List (Key × V)
 | []=>kvs
 | p::r=>bw (cg kvs p.1 p.2) r
def cY (ns:List Str) (z:Str):List (Key × V):=(ns.zipIdx).map λp=>(Sum.inr p.1,fv z p.2)
theorem qM:∀{qs:List (Key × V)} {ps:List (Key × Value)} {kvs:List (Key × V)} {vs:List (Key × Value)},KV qs ps->KV kvs vs->KV (bw kvs qs) (LZ.dY vs ps)
 | [],_,_,_,h,r=>by cases h;exact r
 | q::qs,p::ps,kvs,vs,h,r=>by
  cases h with
  | cons h1 h2 =>
  show KV (bw (cg kvs q.1 q.2) qs) (LZ.dY (stored vs p.1 p.2) ps);rw[<-h1.1];exact qM h2 (r.put q.1 h1.2)
theorem paired_get {α β:Type} {F:α->β->Prop}:∀{xs:List α} {ys:List β},xs.length=ys.length->(∀(j:Nat) x y,xs[j]?=some x->ys[j]?=some y->F x y)->Paired F xs ys
 | [],[],_,_=>.nil
 | x::xs,y::ys,hl,h=>.cons (h 0 x y rfl rfl) (paired_get (by simpa using hl) λj a b e1 e2=>h (j+1) a b (by simpa using e1) (by simpa using e2))
theorem eO:∀(qs kvs:List (Key × V)),(bw kvs qs).length<=kvs.length+qs.length
 | [],kvs=>Qg _
 | q::qs,kvs=>by
  have h1:=eO qs (cg kvs q.1 q.2);have h2:=eK kvs q.1 q.2;show (bw (cg kvs q.1 q.2) qs).length<=_;rw[QQ];exact Bx h1 h2
section
variable {X:Cx} {a b:Expr} {ta:TA} {p1 p2 pos1 pos2:Pos}
def Au (K:PySem.W.Frag) (ta:TA):TE:=λσ H Q=>ta σ H λvs H1=>∃l ns z,vs=[.ref l,.str z]/\SqL K H1 l (ns.map V.str)/\ns.length<=z.cps.size/\ns.length<1000/\∀d,H1 d=none->Q (.ref d) (upd H1 d (.dK (bw [] (cY ns z))))
theorem rL (hc:X.calm=true) (hg:Gl X "dict") (hm:X.mg "dict" = none) (hg2:Gl X "zip") (hm2:X.mg "zip" = none) (ha:PA X [a,b] ta)
  (hs:starEach [a,b] X.env=[(false,eval a X.env),(false,eval b X.env)]:=by rfl) (hs2:starEach [b] X.env=[(false,eval b X.env)]:=by rfl)
  (hs0:starEach [.Call (.Name "zip" p2) [a,b] [] pos2] X.env=[(false,eval (.Call (.Name "zip" p2) [a,b] [] pos2) X.env)]:=by rfl) :
  PE X (.Call (.Name "dict" p1) [.Call (.Name "zip" p2) [a,b] [] pos2] [] pos1) (Au X.K ta):=by
 intro pins s σ H Q I h;refine Call_ (dO I hg hm PyProof.Rows.boot_dict (Xe ?_ hs0 rfl));rw[hs0];show wpAny _ _ (spliced [(false,eval (.Call (.Name "zip" p2) [a,b] [] pos2) X.env)]) _ _ s;refine Calls.spliced_cons ?_;refine Call_ (dO I hg2 hm2 PyProof.Rows.boot_zip (Xe (thn (ha pos2 pins s σ H _ I h) λus s1 ⟨vs,H1,I1,r1,q1⟩=>?_) (by rw[hs,hs2]) (by rw[hs2];rfl)));obtain⟨l,ns,z,e,hl,hlen,hsm,q⟩:=q1;subst e;obtain⟨u1,u2,e,ru1,ru2⟩:=rf r1;subst e;cases ru1;obtain⟨t,e⟩:=ru2;subst e;obtain⟨its,rv,pl,_⟩:=I1.list hl;have hits:its.length=ns.length:=by have:=rv.length;rw[Qa]at this;exact this.symm
 refine LZ.wu pl.isList λh2 b1 b2 b3 b4 b5 b6 b7=>?_;refine Calls.spliced_nil ?_;have I2:Inv X pins σ H1 { s1 with heap:=h2 }:=I1.kept (t':=s1.toks) b7;have ltl:@LT.lt Nat _ l s1.heap.objs.size:=by obtain⟨o,ho,_⟩:=pl.isList;exact Qm ho
 have big:1000<sizeLine:=by decide
 refine LZ.ue (knd:=bn X.prog X.w) (LZ.wG z) (i1:=s1.heap.objs.size) (i2:=s1.heap.objs.size+1) (l:=l) (xs:=its.toArray) ⟨(by show @Ne Nat _ _;exact Bw),(by show @Ne Nat _ _;exact Bv),(by show @Ne Nat _ _;exact Bu),(by show @Ne Nat _ _;exact Bt),(by show @Ne Nat _ _;exact Bs),(by show @Ne Nat _ _;exact Br),(by show @Ne Nat _ _;exact Bq),(by show @Ne Nat _ _;exact Bp),(by show @Ne Nat _ _;exact Bo),(by show @Ne Nat _ _;exact Bn),(by show @Ne Nat _ _;omega),(by show @Ne Nat _ _;omega),(by show @Ne Nat _ _;omega),(by show @Ne Nat _ _;omega)⟩ (I.ok.hd hc) (λk=>Sum.inr (ns.getD k Str.empty)) (λk v hv=>?_)
  (by rw[Ql,hits];exact hlen) (by rw[Ql,hits];omega) b1 b2 ⟨_,_,b3⟩ b4 b5 (pl.isList.at λo e=>b7 _ o e) λh3 tk ps hp1 hp2 hd3 hk3=>?_
 ·have hv':its[k]?=some v:=by simpa using hv
  have hk:k<ns.length:=by have:=(Qe.mp hv').1;exact zM hits this
  have e1:(ns.map V.str)[k]?=some (.str (ns.getD k Str.empty)):=by
   rw[Qh,Qc hk,QL,Qc hk];rfl
  obtain⟨u,hu,ru⟩:=rv.get e1;rw[hv']at hu;cases hu;obtain⟨t',e⟩:=ru;subst e;exact fM _ _ _ _
 have hlenz:(cY ns z).length=ns.length:=by unfold cY;simp
 have kv:KV (cY ns z) ps:=by
  refine paired_get (by rw[hlenz,hp1,Ql,hits]) λj x y e1 e2=>?_;obtain⟨f1,c,u,f2,f3⟩:=hp2 j y e2;unfold cY at e1;rw[Qh,List.getElem?_zipIdx]at e1
  cases e:ns[j]? with
  | none=>rw[e]at e1;simp at e1
  | some n =>
  rw[e]at e1;simp at e1;subst e1;refine⟨?_,?_⟩
  ·rw[f1];show (Sum.inr n:Key)=Sum.inr (ns.getD j Str.empty);rw[QL,e];rfl
  rw[f3];refine⟨u,?_⟩;show Value.str ⟨#[c]⟩ u=Value.str ⟨#[z.cps.getD j 0]⟩ u;rw[Array.getD_eq_getD_getElem?,f2];rfl
 have hnew:H1 h2.objs.size=none:=I2.hok.fresh (Qg _)
 have kept:∀c o,s1.heap.get? c=some o->h3.get? c=some o:=λc o e=>by
  have:@LT.lt Nat _ c s1.heap.objs.size:=Qm e;exact hk3 c o (by show @Ne Nat _ _;omega) (by show @Ne Nat _ _;omega) (by show @Ne Nat _ _;omega) (by show @Ne Nat _ _;omega) (b7 c o e)
 have hle:s1.heap.objs.size<=h2.objs.size:=by exact Bm b6
 have I3:Inv X pins σ (upd H1 h2.objs.size (.dK (bw [] (cY ns z)))) { s1 with heap:=h3,toks:=tk }:=I1.laid kept hle ⟨by
   have:=eO (cY ns z) [];rw[hlenz]at this;simp only[List.length_nil]at this
   omega,beq_eq_false_iff_ne.mpr (by
   have:@LT.lt Nat _ sysModules s1.heap.objs.size:=I1.big;intro e;have e':@Eq Nat h2.objs.size sysModules:=e
   omega),_,qM kv .nil,hd3⟩
 exact⟨.ref h2.objs.size,_,I3,rfl,q _ hnew⟩
end
end L2
namespace LZ
open PySem
section
variable {prog:Program} {w:World} {A:Around} {E:Value->Shared->Prop} {s:Shared}
theorem gT:typeLookup (.type "list") "__getattr__" = pure none:=by rw[typeLookup_type,XI];kernel_rfl
theorem j_:typeLookup (.type "list") "keys" = pure none:=by rw[typeLookup_type,XI];kernel_rfl
theorem eZ:entryFor table "list.__getattribute__" = some Builtin.«object.__getattribute__» :=
 entryFor_alias (id' := "object.__getattribute__") (by kernel_rfl) (by decide +kernel) (by decide +kernel) (by kernel_rfl)
theorem iZ (a:Addr) (xs:Array Value) (m:Nat) (sl:Array (Option Value)) (u:Tok) :
  Meets (Builtin.«object.__getattribute__» ⟨[.ref a,.str "keys" u],[]⟩) (λA R s=>s.heap.get? a=some { cls:=.type "list", dict:=none,data:=.seq xs m,slots:=sl }/\raisesAttr (.ref a) "keys" A R s) :=
 Meets.of_wp λprog w A R s hs=>by
  obtain⟨hp,g,d,tk,os⟩:=s;obtain⟨hx,hs⟩:=hs;have hT:(⟨hp,g,d,tk,os⟩:Shared).TypeIs (.ref a) "list" := ⟨_,hx,rfl⟩;have hmiss:=j_;have hname:(["__module__", "__name__", "__qualname__", "__doc__", "__annotations__"]:List Str).contains "keys" = false:=by decide +kernel
  unfold Builtin.«object.__getattribute__»
  repeat (any_goals (first|assumption|wp_step))
  try simp only[hname,QT,if_false]
  repeat (any_goals (first|assumption|wp_step))
  exact wpAny_raiseAttrError hs.1 hs.2 (attrMsg_fits (by decide +kernel) (by decide +kernel))
theorem qN {a:Addr} {xs:Array Value} {m:Nat} {sl:Array (Option Value)} {Q:Option Value->Shared->Prop} (hx:s.heap.get? a=some { cls:=.type "list", dict:=none,data:=.seq xs m,slots:=sl }) (hA:A.handled=none)
  (h:∀h' tk,(∀c o,s.heap.get? c=some o->h'.get? c=some o)->Q none { s with heap:=h',toks:=tk }):wpAny (model prog w) A (getAttr? (.ref a) "keys") Q E s:=by
 obtain⟨hp,g,d,tk,os⟩:=s;have hT:∀tk',(⟨hp,g,d,tk',os⟩:Shared).TypeIs (.ref a) "list" := λ_=>⟨_,hx,rfl⟩;have f1:=sub_AttributeError;have f3:=F.slot_list_getattribute.lookup;have f4:=F.slot_list_getattribute.bind (.ref a);have f5:=gT;unfold getAttr? getAttrBy? getAttrBy
 repeat (any_goals (first|assumption|exact hT _|((with_reducible show wpAny _ _ (call (Value.builtin "list.__getattribute__") _ _) _ _ _);refine call_meets F.slot_list_getattribute (hT _) eZ (F.args_list_getattribute_2 _ _) (iZ a xs m sl _) ⟨hx,hA,λh' tk' e hx'=>?_⟩)|wp_step))
 obtain⟨t',u',he⟩:=hx'.there;show wpAny _ _ (getattributeRaised _ _ _ _ _ _ _) _ _ _;unfold getattributeRaised
 repeat (any_goals (first|assumption|wp_step))
 all_goals exact h _ _ hx'.keeps
end
section
variable {prog:Program} {w:World} {K:Type} [DecidableEq K] {knd:KeyKind prog w K} {A:Around} {R:Result->Shared->Prop}
def ji (h:Heap) (xs:Array Value) (ka va:Nat->Value) (it d:Addr):Prop:=∀k,k<xs.size->∃(T:Addr) (o:Obj) (n:Nat),xs[k]?=some (.ref T)/\h.get? T=some o/\o.cls=.type "tuple" /\ o.data=.seq #[ka k,va k] n/\T≠it/\T≠d
theorem ji.keep {h h':Heap} {xs:Array Value} {ka va:Nat->Value} {it d:Addr} (p:ji h xs ka va it d) (hk:∀c o,c≠it->c≠d->h.get? c=some o->h'.get? c=some o):ji h' xs ka va it d:=λk hlt =>
 let ⟨T,o,n,e1,e2,e3,e4,e5,e6⟩:=p k hlt;⟨T,o,n,e1,hk T o e5 e6 e2,e3,e4,e5,e6⟩
theorem qV {it l d:Addr} {xs:Array Value} {ka va:Nat->Value} (nid:d≠it) (nil:l≠it) (ndl:l≠d) (hh:A.handled=none) (ks:Nat->K) (hk:∀k,k<xs.size->knd.is (ks k) (ka k)=true) (hsz:xs.size<=sizeLine) :
  ∀(m k:Nat) (i:Int) (s:Shared) (kvs:List (K × Value)),xs.size-k=m->k<=xs.size->s.heap.IsListIter it l k->s.heap.IsList l xs->ji s.heap xs ka va it d->s.heap.DictOf knd d kvs->kvs.length<=k ->
  (∀h' tk,h'.DictOf knd d (dY kvs ((List.range (xs.size-k)).map λj=>(ks (k+j),va (k+j))))->(∀c o,c≠it->c≠d->s.heap.get? c=some o->h'.get? c=some o)->R (.ok (.ret .none)) { s with heap:=h',toks:=tk }) ->
  codeAny (model prog w) A (.builtin "dict.update.loop" ⟨[.ref d,.ref it,rawInt i,.none],[]⟩) R s:=by
 intro m
 induction m with
 | zero =>
  intro k i s kvs hm hkk hit hl hp hd hkl hR;have hin:k=xs.size:=by exact yr hm hkk
  refine Xp f9 ?_;rw[Xh cT _];show wpAny _ A.in1 (pyNext (.ref it) >>= _) _ _ s;refine Qb (wpAny_pyNext_list_end (show A.in1.handled=none from hh) hit hl (by rw[hin];simp) λh' hkeep=>?_);show wpAny _ _ (Builtin.Dict.addKeywords d [] >>= _) _ _ _;refine Qb (Qf (Qf ?_))
  have hd':h'.DictOf knd d kvs:=by
   obtain⟨o,es,ep,e1,r⟩:=hd;exact⟨o,es,ep,hkeep d o nid e1,r⟩
  refine hR h' s.toks ?_ λc o c1 _ e=>hkeep c o c1 e;rw[hm];exact hd'
 | succ m ih =>
 intro k i s kvs hm hkk hit hl hp hd hkl hR;have hlt:k<xs.size:=by exact yq hm hkk
 obtain⟨T,oT,n,hx,hT,hTc,hTd,nTi,nTd⟩:=hp k hlt;refine Xp f9 ?_;rw[Xh cT _];show wpAny _ A.in1 (pyNext (.ref it) >>= _) _ _ s;refine Qb (wpAny_pyNext_list_item hit hl hx λh1 hit1 hs1=>?_);have k1:∀c o,c≠it->s.heap.get? c=some o->h1.get? c=some o:=λc o n1 e=>hs1.extBut c o n1 e
 have hd1:h1.DictOf knd d kvs:=by
  obtain⟨o,es,ep,e1,r⟩:=hd;exact⟨o,es,ep,k1 d o nid e1,r⟩
 have hT1:=k1 T oT nTi hT;refine Qb (Q3 ?_);have hTy:(Shared.TypeIs { s with heap:=h1 } (.ref T) "tuple"):=⟨_,hT1,hTc⟩;refine Qb (wpAny_tryCatch ?_);unfold Builtin.Dict.pairItems;refine Qb (wpAny_typeOf hTy ?_);rw[QF (by decide)];refine Qb (wpAny_seqItems hT1 hTd (Qf ?_));show wpAny _ _ (holding [ka k,va k] (dictSet d (ka k) (va k))) _ _ _;refine Q3 (wpAny_dictSet_pairs (hk k hlt) hd1 (λh2 hd2 hs2=>?_) (by exact yp hsz hkl hlt));have k2:∀c o,c≠it->c≠d->s.heap.get? c=some o->h2.get? c=some o:=λc o n1 n2 e=>hs2.extBut c o n2 (k1 c o n1 e);refine Qf ⟨plainId_quiet cT _,ih (k+1) (i+1) _ _ (by exact yo hm hlt) (by exact yn hlt) (hit1.extBut hs2.extBut (XF nid)) (hl.at λo e=>k2 l o nil ndl e) (hp.keep k2) hd2 (Q0 (jm _ _ _) (by exact tq hkl)) λh3 tk hd3 hk3=>?_⟩;refine hR h3 tk ?_ λc o c1 c2 e=>hk3 c o c1 c2 (k2 c o c1 c2 e);rw[show xs.size-k=(xs.size-(k+1))+1 from by exact Be hm hlt,List.range_succ_eq_map,QI,QW];have e:(List.range (xs.size-(k+1))).map (λj=>(ks (k+1+j),va (k+1+j)))=(List.range (xs.size-(k+1))).map ((λj=>(ks (k+j),va (k+j)))∘Nat.succ):=List.map_congr_left λj _=>by simp[Function.comp,Nat.add_assoc,Nat.add_comm 1]
 rw[e]at hd3;exact hd3
variable {Q E:Value->Shared->Prop}
theorem rc {s:Shared} {l:Addr} {xs:Array Value} {ka va:Nat->Value} (hh:A.handled=none) (ks:Nat->K) (hk:∀k,k<xs.size->knd.is (ks k) (ka k)=true) (hsz:xs.size<=sizeLine) (hl:PlainL s.heap l xs)
  (hp:∀k,k<xs.size->∃(T:Addr) (o:Obj) (n:Nat),xs[k]?=some (.ref T)/\s.heap.get? T=some o/\o.cls=.type "tuple" /\ o.data=.seq #[ka k,va k] n)
  (h:∀h' tk,h'.DictOf knd s.heap.objs.size (dY [] ((List.range xs.size).map λj=>(ks j,va j)))->(∀c o,s.heap.get? c=some o->h'.get? c=some o)->Q (.ref s.heap.objs.size) { s with heap:=h',toks:=tk }) :
  wpAny (model prog w) A (call (.type "dict") [.ref l]) Q E s:=by
 refine callType_codes (Q₁:=λobj s1=>obj=.ref s.heap.objs.size/\s1={ s with heap:=s.heap.push { cls:=.type "dict", data:=.dict #[] } }) iT (fq _) F.entry_dict_init (gf _ ⟨rfl,rfl⟩) ?_;rintro obj s1 ⟨rfl,rfl⟩;have up:∀c o,s.heap.get? c=some o->(s.heap.push { cls:=.type "dict", data:=.dict #[] }).get? c=some o:=λc o e=>Qd _ e;have hnew:(s.heap.push { cls:=.type "dict", data:=.dict #[] }).DictOf knd s.heap.objs.size []:=Heap.DictOf.new s.heap;have lt:∀{c o},s.heap.get? c=some o->s.heap.objs.size≠c:=λe=>Nat.ne_of_gt (Qm e);obtain⟨⟨c0,d0,dt0,sl0⟩,n0,ho,hoc,hod,hos⟩:=hl;have hoc:c0=.type "list" := hoc;have hod:d0=none:=hod;have hos:dt0=.seq xs n0:=hos;subst hoc hod hos;refine⟨hnew.typeIs,F.args_dict_init_2 _ _,?_⟩;unfold Builtin.«dict.__init__»;refine Qb ?_;unfold Builtin.Dict.selfAndRest;refine Qb (wpAny_notOrdered_dict hnew.typeIs ?_);show wpAny _ _ (pure (s.heap.objs.size,[Value.ref l])) _ _ _;refine Qf ?_;show wpAny _ _ (Builtin.Dict.updateFrom "dict.__init__" s.heap.objs.size (.ref l) [] .none) _ _ _;unfold Builtin.Dict.updateFrom;have hzT:Shared.TypeIs { s with heap:=s.heap.push { cls:=.type "dict", data:=.dict #[] } } (.ref l) "list" := ⟨_,up _ _ ho,rfl⟩;refine Qb (wpAny_typeOf hzT ?_);rw[QF (by decide)];refine Qb (qN (up _ _ ho) (show A.in1.in1.handled=none from hh) λh3 tk k3=>?_);simp only[Option.isNone_none,if_true];refine Qb (XO ?_);have hL3:h3.IsList l xs:=⟨_,k3 _ _ (up _ _ ho),rfl,n0,rfl⟩
 have hd3:h3.DictOf knd s.heap.objs.size []:=by
  obtain⟨o,es,ep,e1,r⟩:=hnew;exact⟨o,es,ep,k3 _ _ e1,r⟩
 obtain⟨od,es,ep,hd3',r3⟩:=id hd3;refine Qb (wpAny_pyIter_list hL3 ?_);refine Qf ⟨plainId_quiet cT _,?_⟩;have up4:∀c o,h3.get? c=some o->(h3.push { cls:=.type "list_iterator", data:=.fields #[.ref l,.int 0 0] }).get? c=some o:=λc o e=>Qd _ e;have lt3:∀{c o},h3.get? c=some o->c≠h3.objs.size:=λe=>Qz (Qm e);refine qV (it:=h3.objs.size) (l:=l) (d:=s.heap.objs.size) (ka:=ka) (va:=va) (lt3 hd3') (lt3 (k3 _ _ (up _ _ ho))) (lt ho).symm (show A.in1.handled=none from hh) ks hk hsz xs.size 0 0 _ [] (by simp) (QN _) ⟨_,Qp _ rfl,rfl,rfl⟩ (hL3.at λo e=>up4 _ o e) (λk hlt=>?_) ⟨od,es,ep,up4 _ _ hd3',r3⟩ (Qg _) λh5 tk5 hd5 hk5=>?_
 ·obtain⟨T,o,n,e1,e2,e3,e4⟩:=hp k hlt;exact⟨T,o,n,e1,up4 _ _ (k3 _ _ (up _ _ e2)),e3,e4,lt3 (k3 _ _ (up _ _ e2)),(lt e2).symm⟩
 refine⟨rfl,h h5 tk5 (by simpa using hd5) λc o e=>hk5 c o (lt3 (k3 _ _ (up _ _ e))) (lt e).symm (up4 _ _ (k3 _ _ (up _ _ e)))⟩
end
end LZ
namespace L2
open PySem PySem.Spec PyProof.Rows
def pN (H:Hp) (v:V) (p:Str × V):Prop:=∃b,v=.ref b/\H b=some (.tup [.str p.1,p.2])
def cN (ps:List (Str × V)):List (Key × V):=ps.map λp=>((Sum.inr p.1:Key),p.2)
section
variable {X:Cx} {a:Expr} {ta:TA} {p1 pos1:Pos}
def rn (K:PySem.W.Frag) (ta:TA):TE:=λσ H Q=>ta σ H λvs H1=>∃l xs ps,vs=[.ref l]/\SqL K H1 l xs/\xs.length<10000/\Paired (pN H1) xs ps/\∀d,H1 d=none->Q (.ref d) (upd H1 d (.dK (bw [] (cN ps))))
theorem ye {H:Hp}:∀{xs:List V} {ps:List (Str × V)},Paired (pN H) xs ps->∀(j:Nat) x,xs[j]?=some x->∃y,ps[j]?=some y/\pN H x y
 | _,_,.nil=>λj x e=>by simp at e
 | _,_,.cons (a:=a) (b:=b) h t=>λj x e=>by
  cases j with
  | zero=>simp at e;subst e;exact⟨_,rfl,h⟩
  | succ j=>simp at e;obtain⟨y,e',f⟩:=ye t j x e;exact⟨y,by simpa using e',f⟩
theorem uO {H:Hp}:∀{xs:List V} {ps:List (Str × V)},Paired (pN H) xs ps->xs.length=ps.length
 | _,_,.nil=>rfl
 | _,_,.cons h t=>by simp[uO t]
theorem d5 (hc:X.calm=true) (hg:Gl X "dict") (hm:X.mg "dict" = none) (ha:PA X [a] ta) (hs:starEach [a] X.env=[(false,eval a X.env)]:=by rfl):PE X (.Call (.Name "dict" p1) [a] [] pos1) (rn X.K ta):=by
 intro pins s σ H Q I h;refine Call_ (dO I hg hm PyProof.Rows.boot_dict (Xe (thn (ha pos1 pins s σ H _ I h) λus s1 ⟨vs,H1,I1,r1,q1⟩=>?_) hs rfl));obtain⟨l,xs,ps,e,hl,hsm,hpr,q⟩:=q1;subst e;obtain⟨u1,e,ru1⟩:=eE r1;subst e;cases ru1;obtain⟨its,rv,pl,_⟩:=I1.list hl;have hits:its.length=xs.length:=rv.length.symm;have hps:=uO hpr;have big:10000<sizeLine:=by decide
 have each:∀k,∃g:Value × Value × Str,k<its.length->∃(T:Addr) (o:Obj) (m:Nat) (v:V) (t:Tok),its[k]?=some (.ref T)/\s1.heap.get? T=some o/\o.cls=.type "tuple" /\ o.data=.seq #[g.1,g.2.1] m/\g.1=.str g.2.2 t/\ps[k]?=some (g.2.2,v)/\aS v g.2.1:=λk=>by
  by_cases hk:k<its.length
  ·have hx:xs[k]?=some (xs[k]'(by exact om3 hits hps hk)):=by simp
   obtain⟨y,hy,b,eb,hb⟩:=ye hpr k _ hx;obtain⟨u,hu,ru⟩:=rv.get hx;rw[eb]at ru;cases ru;obtain⟨its2,rv2,⟨o,e1,e2,n,e3⟩,_⟩:=I1.tuple (SqT.of hb);obtain⟨w1,w2,e4,r1,r2⟩:=rf rv2;subst e4;obtain⟨t,et⟩:=r1;subst et;exact⟨(.str y.1 t,w2,y.1),λ_=>⟨b,o,n,y.2,t,hu,e1,e2,e3,rfl,hy,r2⟩⟩
  exact⟨(.none,.none,Str.empty),λh=>absurd h hk⟩
 let g:=λk=>Classical.choose (each k);have hg':∀k,k<its.length->∃(T:Addr) (o:Obj) (m:Nat) (v:V) (t:Tok),its[k]?=some (.ref T)/\s1.heap.get? T=some o/\o.cls=.type "tuple" /\ o.data=.seq #[(g k).1,(g k).2.1] m/\(g k).1=.str (g k).2.2 t/\ps[k]?=some ((g k).2.2,v)/\aS v (g k).2.1:=λk=>Classical.choose_spec (each k);refine LZ.rc (knd:=bn X.prog X.w) (l:=l) (xs:=its.toArray) (ka:=λk=>(g k).1) (va:=λk=>(g k).2.1) (I1.ok.hd hc) (λk=>(Sum.inr (g k).2.2:Key)) (λk hk=>?_) (by rw[Ql,hits];omega) pl (λk hk=>?_) λh3 tk hd3 kept=>?_
 ·rw[Ql]at hk;obtain⟨T,o,m,v,t,_,_,_,_,e5,_⟩:=hg' k hk;show (bn X.prog X.w).is _ (g k).1=true;rw[e5];exact fM _ _ _ _
 ·rw[Ql]at hk;obtain⟨T,o,m,v,t,e1,e2,e3,e4,_⟩:=hg' k hk;exact⟨T,o,m,by simpa using e1,e2,e3,e4⟩
 rw[Ql]at hd3
 have kv:KV (cN ps) ((List.range its.length).map λj=>((Sum.inr (g j).2.2:Key),(g j).2.1)):=by
  unfold cN;refine paired_get (by simp[hits,hps]) λj x y e1 e2=>?_;rw[Qh]at e1 e2
  have hj:j<its.length:=by
   cases e:(List.range its.length)[j]? with
   | none=>rw[e]at e2;cases e2
   | some q=>have:=(Qe.mp e).1;simpa using this
  obtain⟨T,o,m,v,t,_,_,_,_,_,e6,e7⟩:=hg' j hj;rw[e6]at e1;rw[List.getElem?_range hj]at e2;cases e1;cases e2;exact⟨rfl,e7⟩
 have hnew:H1 s1.heap.objs.size=none:=I1.hok.fresh (Qg _)
 have I3:Inv X pins σ (upd H1 s1.heap.objs.size (.dK (bw [] (cN ps)))) { s1 with heap:=h3,toks:=tk }:=I1.laid kept (Qg _) ⟨by
   have:=eO (cN ps) [];have e:(cN ps).length=ps.length:=by unfold cN;simp
   simp only[List.length_nil]at this
   omega,beq_eq_false_iff_ne.mpr (by
   have:@LT.lt Nat _ sysModules s1.heap.objs.size:=I1.big;intro e;have e':@Eq Nat s1.heap.objs.size sysModules:=e
   omega),_,qM kv .nil,hd3⟩
 exact⟨.ref s1.heap.objs.size,_,I3,rfl,q _ hnew⟩
end
section
variable {X:Cx} {o e:Expr} {apos cpos:Pos} {ty:TE} {T:Addr}
end
section
variable {K:PySem.W.Frag} {g:TG} {te:TE} {σ0:St} {QD:Hp->Prop} {H1:Hp} {D:Addr}
end
section
variable {X:Cx}
end
section
variable {K:PySem.W.Frag} {g:TG} {te:TE} {tt:TT} {σ0:St} {QD:Hp->Prop} {H1:Hp} {D:Addr}
end
def yc (f:Addr) (l:Lm) (y:Str) (cell c:Addr) (t:TE):V->Hp->VK->Prop:=λvx H Q=>∃(o:Obj) (uy:Value) (vy:V),H f=some (iI f l [(y,cell)] c)/\H c=some (iW c l.qual)/\H cell=some (dN o)/\o.data=.cell (some uy)/\aS vy uy /\
 t [some vx,some vy] (dQ H cell) λv H'=>H' cell=none->Q v (upd H' cell (dN o))
theorem qZ {P:Program} {w:World} {K:PySem.W.Frag} {mg:Str->Option Value} {base:Heap} {x y:Str} {l:Lm} {f c cell:Addr} {k:Nat} {t:TE} (S:LmScope x y l.scope)
  (hb:∀(pm ctv u:Value),bindArgs (PySem.W.kla_fn "<lambda>" l.qual l.params l.body l.scope [(y,cell)] pm (.ref c) ctv) ⟨[u],[]⟩=pure [(x,u)])
  (body:∀(A:Around) (outer:List Env) (s:Shared) (H:Hp),Room k (A.deeper (PySem.W.envX l.qual l.scope s.heap.objs.size f (.ref c) [(y,cell)]))->PE (sq P w K mg base x y l f c cell A outer s H E0) l.body t) :
  Calls P w K mg base (k+1) f (yc f l y cell c t):=by
 intro X e1 e2 e3 e4 e5 hx hr pins s σ H vx u Q I rx h;subst e1 e2 e3 e4 e5;obtain⟨o,uy,vy,hf,hc,hcell,hd,ry,q⟩:=h;obtain⟨pm,ctv,ef⟩:=(I.hok f _ hf).1;have ec:s.heap.CodeRec (.ref c) l.qual:=(I.hok c _ hc).1;have eo:s.heap.get? cell=some o:=(I.hok cell _ hcell).1;have e0:=I.env0
 have nf:cell∉frs X.stack:=λz=>by
  have:=e0.frf cell z;rw[hcell]at this;cases this
 have e0':Env0 X.prog X.w X.K X.mg X.base X.A X.stack s (dQ H cell):=⟨e0.frames,e0.mod,λb ob e=>⟨(e0.bs b ob e).1,by
  by_cases z:b=cell
  ·rw[z];exact dD
  ·rw[bE z];exact(e0.bs b ob e).2⟩,e0.bsz,e0.funs,λb hb=>by
  by_cases z:b=cell
  ·rw[z];exact dD
  rw[bE z];exact e0.frf b hb,e0.hok.drop hcell,e0.bare⟩
 refine wpAny_call (codeAny_mono (xq (E:=E0) S hr e0' rx ry ⟨o,eo,hd⟩ dD ef ec (hb pm ctv u) (body X.A X.stack s (dQ H cell)) q) λr s' hq=>?_)
 cases r with
 | error e=>exact False.elim hq
 | ok fl =>
 cases fl with
 | ret u =>
  obtain⟨v,H',os,bare,un,hok,rv,qv⟩:=hq;obtain⟨un',n',e'⟩:=un.back hcell eo nf (by simp);exact I.after ⟨v,_,os,bare,un',hok.take n' e',rv,qv n'⟩
 | next=>exact False.elim hq
 | brk=>exact False.elim hq
 | cont=>exact False.elim hq
end L2
namespace LR
open PySem
section
variable {prog:Program} {w:World} {A:Around} {E:Value->Shared->Prop} {s:Shared}
end
end LR
namespace L2
open PySem PySem.Spec PyProof.Rows
section
variable {X:Cx}
end
section
variable {X:Cx} {elts:List Expr} {k:Nat} {tpos:Pos}
end
section
variable {X:Cx}
end
section
variable {X:Cx} {elts:List Expr} {k:Nat} {tpos:Pos}
end
end L2
namespace Bf
section
variable {κ:Type} [DecidableEq κ]
def bd (w:List κ):List κ->List κ
 | []=>w
 | k::ks=>bd (if k∈w then w else w++[k]) ks
def bfs (nx:κ->List κ) (s:κ):Nat->List κ
 | 0=>[s]
 | n+1=>match (bfs nx s n)[n]? with
  | some h=>bd (bfs nx s n) (nx h)
  | none=>bfs nx s n
inductive Reach (nx:κ->List κ) (s:κ):κ->Prop
 | start:Reach nx s s
 | step {a b:κ}:Reach nx s a->b∈nx a->Reach nx s b
theorem dG:∀(ks w:List κ),w <+: bd w ks
 | [],w=>List.prefix_refl w
 | k::ks,w=>by
  unfold bd;refine List.IsPrefix.trans ?_ (dG ks _)
  split
  ·exact List.prefix_refl w
  exact List.prefix_append w [k]
theorem eA:∀(ks w:List κ) (x:κ),x∈bd w ks↔x∈w\/x∈ks
 | [],w,x=>by simp[bd]
 | k::ks,w,x=>by
  unfold bd;rw[eA ks]
  split
  ·rename_i h
   constructor
   ·rintro(q|q)
    ·exact .inl q
    exact .inr (Qw _ q)
   rintro(q|q)
   ·exact .inl q
   rcases QV.mp q with e|q
   ·subst e;exact .inl h
   exact .inr q
  rw[Qv,QA,QV,or_assoc]
theorem dX:∀(ks w:List κ),w.Nodup->(bd w ks).Nodup
 | [],w,h=>h
 | k::ks,w,h=>by
  unfold bd;refine dX ks _ ?_
  split
  ·exact h
  rename_i hk
  rw[Xy];refine⟨h,by simp,λa ha b hb=>?_⟩;rw[QA]at hb;subst hb;intro e;subst e;exact hk ha
theorem lw (w ks ls:List κ):bd w (ks++ls)=bd (bd w ks) ls:=by
 induction ks generalizing w with
 | nil=>rfl
 | cons k ks ih=>exact ih _
variable {w xs ys:List κ}
theorem kP {k:κ} (h:k∈w):bd w [k]=w:=by simp[bd,h]
theorem kO {k:κ} (h:k∉w):bd w [k]=w++[k]:=by simp[bd,h]
variable {nx:κ->List κ} {s:κ}
variable {n i m:Nat}
theorem fc {h:κ} (e:(bfs nx s n)[n]?=some h):bfs nx s (n+1)=bd (bfs nx s n) (nx h):=by
 show (match (bfs nx s n)[n]? with|some h=>bd (bfs nx s n) (nx h)|none=>bfs nx s n)=_;rw[e]
theorem fS (e:(bfs nx s n)[n]?=none):bfs nx s (n+1)=bfs nx s n:=by
 show (match (bfs nx s n)[n]? with|some h=>bd (bfs nx s n) (nx h)|none=>bfs nx s n)=_;rw[e]
theorem kJ (n:Nat):bfs nx s n <+: bfs nx s (n+1):=by
 cases e:(bfs nx s n)[n]? with
 | none=>rw[fS e];exact List.prefix_refl _
 | some h=>rw[fc e];exact dG _ _
theorem jg (n:Nat):∀m,bfs nx s n <+: bfs nx s (n+m)
 | 0=>List.prefix_refl _
 | m+1=>(jg n m).trans (kJ (n+m))
theorem jb (h:xs <+: ys) {x:κ} (e:xs[i]?=some x):ys[i]?=some x:=by
 obtain⟨t,rfl⟩:=h;rw[QG (Qe.mp e).1];exact e
theorem jM (h:xs <+: ys) {x:κ} (hi:i<xs.length) (e:ys[i]?=some x):xs[i]?=some x:=by
 obtain⟨t,rfl⟩:=h;rw[QG hi]at e;exact e
theorem cq:∀n,(bfs nx s n).Nodup
 | 0=>by simp[bfs]
 | n+1=>by
  cases e:(bfs nx s n)[n]? with
  | none=>rw[fS e];exact cq n
  | some h=>rw[fc e];exact dX _ _ (cq n)
theorem cW:∀n x,x∈bfs nx s n->Reach nx s x
 | 0,x,h=>by
  have:x=s:=by simpa[bfs] using h
  subst this;exact .start
 | n+1,x,hx=>by
  cases e:(bfs nx s n)[n]? with
  | none=>rw[fS e]at hx;exact cW n x hx
  | some h =>
  rw[fc e]at hx;rcases(eA _ _ _).mp hx with q|q
  ·exact cW n x q
  exact .step (cW n h (Qi e)) q
theorem pK (n:Nat):(bfs nx s n)[0]?=some s:=jb (by have:=jg (nx:=nx) (s:=s) 0 n;rwa [Nat.zero_add]at this) rfl
theorem uf (n:Nat):s∈bfs nx s n:=Qi (pK n)
theorem kK {n i:Nat} {h:κ} (hi:i<n) (e:(bfs nx s n)[i]?=some h):∀k∈nx h,k∈bfs nx s n:=by
 have h1:bfs nx s i <+: bfs nx s n:=by
  have:=jg (nx:=nx) (s:=s) i (n-i);rwa [Nat.add_sub_cancel' (Xv hi)]at this
 have h2:bfs nx s (i+1) <+: bfs nx s n:=by
  have:=jg (nx:=nx) (s:=s) (i+1) (n-(i+1));rwa [Nat.add_sub_cancel' hi]at this
 intro k hk
 cases q:(bfs nx s i)[i]? with
 | some h' =>
  have:some h'=some h:=(jb h1 q).symm.trans e;cases this;refine h2.subset ?_;rw[fc q];exact(eA _ _ _).mpr (.inr hk)
 | none =>
 -- then nothing is added any more
 exfalso
 have stay:∀m,bfs nx s (i+m)=bfs nx s i:=by
  intro m
  induction m with
  | zero=>rfl
  | succ m ih =>
  have:(bfs nx s (i+m))[i+m]?=none:=by
   rw[ih];exact Xc (Q0 (List.getElem?_eq_none_iff.mp q) (Nat.le_add_right i m))
  exact(fS this).trans ih
 have:=stay (n-i);rw[Nat.add_sub_cancel' (Xv hi)]at this;rw[this,q]at e;cases e
theorem sw (hn:(bfs nx s n).length<=n) (x:κ):x∈bfs nx s n↔Reach nx s x:=by
 refine⟨cW n x,λr=>?_⟩
 induction r with
 | start=>exact uf n
 | step r hb ih =>
 obtain⟨i,hi,e⟩:=Qq.mp ih;exact kK (i:=i) (by omega) (by rw[Qc hi,e]) _ hb
theorem gC:∀(ks w:List κ) (j:Nat) (x:κ),w.length<=j->(bd w ks)[j]?=some x->x∈ks
 | [],w,j,x,hj,e=>by
  have:w[j]?=some x:=e;rw[Xc hj]at this;cases this
 | k::ks,w,j,x,hj,e=>by
  unfold bd at e
  split at e
  ·exact Qw _ (gC ks w j x hj e)
  by_cases c:j=w.length
  ·subst c;have:=jM (dG ks (w++[k])) (i:=w.length) (by simp) e;rw[QE (Qg _)]at this;simp at this;exact this▸Xj
  exact Qw _ (gC ks (w++[k]) j x (by simp;omega) e)
theorem kI:∀(n j:Nat) (x:κ),0<j->(bfs nx s n)[j]?=some x->∃i h,i<j/\i<n/\(bfs nx s n)[i]?=some h/\x∈nx h
 | 0,j,x,hj,e=>by
  have:([s]:List κ)[j]?=some x:=e;rw[Xc (by simp;omega)]at this;cases this
 | n+1,j,x,hj,e=>by
  cases q:(bfs nx s n)[n]? with
  | none =>
   rw[fS q]at e ⊢;obtain⟨i,h,h1,h2,h3,h4⟩:=kI n j x hj e;exact⟨i,h,h1,by omega,h3,h4⟩
  | some h =>
  rw[fc q]at e ⊢;by_cases c:j<(bfs nx s n).length
  ·have e':=jM (dG (nx h) (bfs nx s n)) c e;obtain⟨i,h',h1,h2,h3,h4⟩:=kI n j x hj e';exact⟨i,h',h1,by omega,jb (dG _ _) h3,h4⟩
  have hn:n<(bfs nx s n).length:=(Qe.mp q).1;exact⟨n,h,by omega,by omega,jb (dG _ _) q,gC _ _ j x (by omega) e⟩
theorem xE (hn:(bfs nx s n).length=n) (hm:(bfs nx s m).length=m):n=m:=by
 have a:∀x,x∈bfs nx s n↔x∈bfs nx s m:=λx=>(sw (Nat.le_of_eq hn) x).trans (sw (Nat.le_of_eq hm) x).symm;have:=(List.perm_ext_iff_of_nodup (cq n) (cq m)).mpr a;have:=this.length_eq;omega
theorem pigeon:∀(xs ys:List κ),xs.Nodup->(∀x∈xs,x∈ys)->xs.length<=ys.length
 | [],_,_,_=>QN _
 | x::xs,ys,nd,h=>by
  rw[Q5]at nd;have hx:x∈ys:=h x Xj;have:=pigeon xs (ys.erase x) nd.2 λy hy=>(List.mem_erase_of_ne (λz:y=x=>nd.1 (by rw[<-z];exact hy))).mpr (h y (Qw _ hy));rw[List.length_erase_of_mem hx]at this;have:0<ys.length:=List.length_pos_of_mem hx;simp only[QQ];omega
end
section
variable {κ:Type} [DecidableEq κ] {nx:κ->List κ} {s:κ}
end
end Bf
namespace L2
open PySem PySem.Spec PyProof.Rows
section
variable {X:Cx}
theorem wX:OpR X (compareOp .IsNot) (λx y H Q=>∃b c,x=.bl b/\y=.bl c/\Q (.bl (b != c)) H):=by
 intro pins s σ H x y v u Q I rx ry h;obtain⟨b,c,rfl,rfl,q⟩:=h;cases rx;cases ry;exact isnot_bool (bg I q rfl)
end
section
variable {X:Cx} {scope:Scope} {tgs:List Str} {cap:List (Str × Nat)}
theorem yd {j:Nat} {x:Str} {pos' spos:Pos} {elt tg iter:Expr} {ifs:List Expr} {pos:Pos} {wi:TI} {g:TG} {tt:TT} {te:TE} (hN:X.N.Nodup) (hj:X.N[j]?=some x) (hx:Loc X.env.scope x) (hc:X.calm=true) (B:BlockOk X scope tgs cap) (hi:PI X tg iter wi)
  (hg:∀C s H fp,PG (X.block (tgs++cap.map (·.1)) scope C s H fp) tg g) (ht:∀C s H fp,xM (X.block (tgs++cap.map (·.1)) scope C s H fp) ifs tt) (he:∀C s H fp,PE (X.block (tgs++cap.map (·.1)) scope C s H fp) elt te)
  (hs:∀x,foldedSetIterable iter X.env x=pure x:=by intro _;rfl) (hsw:swapsWith (.ListComp elt [⟨tg,iter,ifs,0⟩] scope pos) (some (.Name x pos')) spos.line X.env=pure true:=by rfl)
  (hf:X.fn x=true\/X.env.scope.names.lookup x=some .local:=by walk_at "z"):PS X (.Assign [.Name x pos'] (.ListComp elt [⟨tg,iter,ifs,0⟩] scope pos) spos) (sO (lF wi g tt te (b_ tgs cap)) (fz j)):=by
 intro pins s σ H D I h;rw[exec_Assign_Name_used _ _ _ _ hsw];refine Qb (wpAny_standAt (Qb ?_));show wpAny _ _ (comprehension _ _ _ _ _ _ _ _ >>= _) _ _ _;refine Qb (thn (Q:=λ_ s'=>SP X pins D .next s') ?_ λ_ s' q=>Qf (Qf q));refine wpAny_comprehension_free (use:=some (assign (.Name x pos') X.env)) rfl hs (kz (B.cellAt I.ok)) B.kind B.locs (thn (hi pins s σ H _ I h) λv s1 h1=>thn h1 λitv s2 h2=>?_);obtain⟨it,fp,tn,J,H2,e,I2,T,st2,f2,q⟩:=h2;subst e;have lt2:∀b∈fp,b<s2.heap.objs.size:=λb hb=>let ⟨o,e,_⟩:=T.obj _ _ st2 b hb;Qm e;have hD:H2 s2.heap.objs.size=none:=I2.hok.fresh (Qg _);obtain⟨W,⟨m0,w0⟩,turn⟩:=q s2.heap.objs.size hD;refine wpAny_newObj_type ?_;have I3:Inv X pins σ (upd H2 s2.heap.objs.size (.lst [])) { s2 with heap:=s2.heap.push { cls:=.type "list", dict:=none,data:=.seq ([]:List Value).toArray } }:=I2.lnew (t':=s2.toks) (ys:=[]) (its:=[]) .nil (QN _);have st3:tn 0 (s2.heap.push { cls:=.type "list", dict:=none,data:=.seq ([]:List Value).toArray }):=T.keep _ _ _ st2 λb _ o e=>Qd _ e;have nD:∀b∈fp,b≠s2.heap.objs.size:=λb hb=>Qz (lt2 b hb);have f3:∀b∈fp,gF X pins (upd H2 s2.heap.objs.size (.lst [])) b:=λb hb=>⟨by rw[ak (nD b hb)];exact(f2 b hb).1,(f2 b hb).2⟩;generalize hs3:({ s2 with heap:=s2.heap.push { cls:=.type "list", dict:=none,data:=.seq ([]:List Value).toArray } }:Shared)=s3 at I3 st3 ⊢;have st3':tn 0 s3.heap:=by rw[<-hs3];exact st3
 have lt3:∀b∈fp,b<s3.heap.objs.size:=λb hb=>let ⟨o,e,_⟩:=T.obj _ _ st3' b hb;Qm e;generalize hH3:upd H2 s2.heap.objs.size (.lst [])=H3 at I3 f3 w0;generalize s2.heap.objs.size=DD at *;refine wpAny_newFunctionEnv B.noc (by intro y hy;simp at hy) (λh1 hns hsb=>?_) B.kind;have old:∀b o,s3.heap.get? b=some o->h1.get? b=some o:=λb o e=>hsb.extBut b o (Qz (Qm e)) (Qd _ e);have I4:=Inv.enter (tk:=s3.toks+([]:List (Str × Value)).length) (h1:=h1) B I3 f3 lt3 hns old;have st4:tn 0 h1:=T.keep _ _ _ st3' λb _ o e=>old b o e
 have fpB:∀{H':Hp},(∀b∈fp,H' b=none)->∀b∈fp,gF (X.block (tgs++cap.map (·.1)) scope s3.heap.objs.size s3 H3 fp) [] H' b:=λ{H'} hn b hb =>
  ⟨hn b hb,Qz (lt3 b hb),I4.ok.exfs b hb,.inl hb,λx c e=>(I4.ok.exf b hb).2 x c e,λp hp=>absurd (show p∈([]:List (Addr × Obj)) from hp) (by simp)⟩
 have loop:codeAny (model X.prog X.w) X.A (.compLoop (.ListComp elt [⟨tg,iter,ifs,0⟩] scope pos) 0 (.ref it) (.ref DD) (compEnvC scope (dy X.env scope.names []) s3.heap.objs.size X.env))
   (compPost (model X.prog X.w) X.A X.xe (some (assign (.Name x pos') X.env)) (λ_ s'=>SP X pins D .next s') (.ref DD) s3.heap.objs.size) { s3 with heap:=h1,toks:=s3.toks+([]:List (Str × Value)).length }:=by
  refine hG (λn s'=>∃i H' ys,Inv (X.block (tgs++cap.map (·.1)) scope s3.heap.objs.size s3 H3 fp) [] (b_ tgs cap σ) H' s'/\tn i s'.heap/\(∀b∈fp,H' b=none)/\W i n H' ys) ?_ m0 ⟨0,H3,[],I4,st4,λb hb=>(f3 b hb).1,w0⟩;rintro n s5 ⟨i,H5,ys,I5,st5,fr5,w5⟩;obtain⟨hl,ht5⟩:=turn i n H5 ys w5;rcases ht5 with⟨stop,qd⟩|⟨go,step⟩
  ·refine thn (T.done (X.block (tgs++cap.map (·.1)) scope s3.heap.objs.size s3 H3 fp) rfl rfl rfl hc i [] s5 _ H5 _ I5 (fpB fr5) st5 stop) λr s6 ⟨hr,I6⟩=>?_;subst hr;obtain⟨m6,n6,_⟩:=I6.loc;have IO:Inv X pins σ H5 s6:=Inv.leave (h2:=s6.heap) I3 f3 I6 ⟨rfl,λ_ _=>rfl⟩;have fC:gF X pins H5 s3.heap.objs.size:=⟨I6.free,(I3.fpOk (Qg _) (I3.hok.fresh (Qg _))).2⟩;obtain⟨f0,f1,f2',f3',f4,f5⟩:=fC;refine wpAny_assign_Name (lG IO hN hj hx (show aS (.ref DD) (.ref DD) from rfl) (λs7 I7 ⟨a,sb,ha⟩=>?_) hf)
   have na:s3.heap.objs.size≠a:=by
    rcases ha with z|z
    ·rw[z];exact f1
    exact λy=>f4 x a z y.symm
   obtain⟨o6,es6,ep6,ho6,r6⟩:=n6;refine⟨m6,⟨o6,es6,ep6,(sb.2 _ na).trans ho6,r6⟩,λh' hs'=>⟨_,H5,I7.turned (t':=s7.toks) (λb o hb q=>(hs'.2 b hb).trans q) f0 f1 f3' f4 f5,qd⟩⟩
  refine thn (T.item (X.block (tgs++cap.map (·.1)) scope s3.heap.objs.size s3 H3 fp) rfl rfl rfl hc i [] s5 _ H5 _ I5 (fpB fr5) st5 go) λr s6 ⟨u,hr,h6⟩=>?_;subst hr;refine thn h6 λ_ s7 ⟨x,H7,I7,r7,y7,st7,fr7⟩=>?_;have I7':=I7.pinned (fpB fr7) (T.obj _ _ st7)
  have again:∀{σ8:St} {H8:Hp} {s8:Shared} {ys8:List V},Inv (X.block (tgs++cap.map (·.1)) scope s3.heap.objs.size s3 H3 fp) ([]++ir fp s7.heap) σ8 H8 s8->wk (b_ tgs cap σ) σ8->(∃m',m'<n/\W (i+1) m' H8 ys8) ->
    ∃m,m<n/\∃i H' ys,Inv (X.block (tgs++cap.map (·.1)) scope s3.heap.objs.size s3 H3 fp) [] (b_ tgs cap σ) H' s8/\tn i s8.heap/\(∀b∈fp,H' b=none)/\W i m H' ys:=λ{σ8 H8 s8 ys8} I8 k8 ⟨m',hm,w8⟩=>by
   refine⟨m',hm,i+1,H8,ys8,I8.unpinned.weak (mo k8) (mt k8),T.keep _ _ _ st7 λb hb o e=>(I8.pin (b,o) (QO _ (QO _ (dB hb e)))).1,λb hb=>?_,w8⟩;obtain⟨o,e,d⟩:=T.obj _ _ st7 b hb;exact(I8.pin (b,o) (QO _ (QO _ (dB hb e)))).2.1
  refine thn (hg _ _ _ _ _ s7 _ H7 x u _ I7' r7 (step x H7 y7)) λ_ s8 ⟨σ8,H8,I8,k8,q8⟩=>?_;refine thn (ht _ _ _ _ _ s8 σ8 H8 _ I8 q8) λok s9 ⟨H9,I9,q9⟩=>?_
  cases ok with
  | false =>
   rw[QB Qn]at q9 ⊢;exact again I9 k8 q9
  | true =>
  rw[QF rfl]at q9 ⊢;refine thn (he _ _ _ _ _ s9 σ8 H9 _ I9 q9) λy sA ⟨yv,HA,IA,rA,hA,zA,qA⟩=>?_;exact thn (bp _ sA σ8 HA (.ref DD) [yv] (.ref DD) [y] (λv H'=>v=.non/\∃m',m'<n/\W (i+1) m' H' (ys++[yv])) IA rfl (.cons rA .nil) ⟨DD,ys,yv,rfl,rfl,hA,zA,rfl,qA⟩) λ_ sB ⟨_,HB,IB,_,_,qB⟩=>again IB k8 qB
 exact codeAny_compStart_list loop (T.self _ 0 _ _ _ st4 loop)
end
end L2
namespace L2
open PySem PySem.Spec PyProof.Rows
open AutoSeq1 (wpAny_loadPart')
section
variable {P:Program} {w:World} {A:Around} {E:Value->Shared->Prop} {s:Shared}
theorem t9 (l:Addr) (c:Int) (tc:Tok) (hc:Builtin.SmallTypes.fitsIndex c=true) (its:Array Value) (m:Nat) (dd:Option Addr) (ss:Array (Option Value)) :
  Meets (Builtin.«enumerate.__new__» ⟨[.type "enumerate", .ref l],[("start", .int c tc)]⟩) (λ_ R t=>t.heap.get? l=some { cls:=.type "list", dict:=dd,data:=.seq its m,slots:=ss } /\
   R (.ok (.ret (.ref (t.heap.push { cls:=.type "list_iterator", data:=.fields #[.ref l,.int 0 0] }).objs.size)))
    { t with heap:=(t.heap.push { cls:=.type "list_iterator", data:=.fields #[.ref l,.int 0 0] }).push { cls:=.type "enumerate", data:=.fields #[.none,.bool false,.ref t.heap.objs.size,rawInt c,.none,.none] } }):=by
 refine .of_wp λP w A R t ht=>?_;obtain⟨hp,g,d,tk,os⟩:=t;obtain⟨hl,h⟩:=ht;have sub:=sub_enumerate;have hL:Heap.IsList (Shared.heap ⟨hp,g,d,tk,os⟩) l its:=⟨_,hl,rfl,m,rfl⟩
 wp_walk using wpAny_loadPart' hl
 refine wpAny_stack_any λst=>Qf ?_;have nf:(!Builtin.SmallTypes.fitsIndex c)=false:=by rw[hc];rfl
 split
 rotate_left
 ·(wp_walk using wpAny_loadPart' hl,wpAny_pyIter_list hL);exact⟨_,rfl,h⟩
 rename_i k _ _ _ _ _
 cases (k==Value.type "enumerate") <;> ((wp_walk using wpAny_loadPart' hl,wpAny_pyIter_list hL);exact⟨_,rfl,h⟩)
theorem sK (a b:Value):checkTypeCall "enumerate" ⟨[a],[("start", b)]⟩=pure ():=by kernel_rfl
theorem vD (a b:Value):checkBuiltinCall "enumerate.__new__" ⟨[.type "enumerate", a],[("start", b)]⟩=pure ():=by kernel_rfl
theorem Dr (a b c:Value):argsOk "object.__init__" ⟨[a,b],[("start", c)]⟩:=by
 show Bind.checkArgs _ _ _=_
 kernel_rfl
theorem vA {T nid:String} {o a b:Value} (hl:typeLookup (.type T) "__init__" = pure (some (.builtin "object.__init__"))) (hm:Bind.madeBy (.type T)=pure (some nid)) (ne:(some nid != some "object.__new__")=true) :
  Meets (Builtin.«object.__init__» ⟨[o,a],[("start", b)]⟩) (λ_ R t=>t.TypeIs o T/\R (.ok (.ret .none)) t):=by
 refine .of_wp λP w A R t ⟨hT,hq⟩=>?_
 repeat (any_goals (first|assumption|wp_step))
 exact⟨_,rfl,hq⟩
end
end L2
namespace L2
open PySem PySem.Spec PyProof.Rows
variable {P:Program} {w:World} {A:Around} {E:Value->Shared->Prop} {s:Shared}
section
theorem rb {l:Addr} {c:Int} {tc:Tok} {its:Array Value} {Q:Value->Shared->Prop} (hc:Builtin.SmallTypes.fitsIndex c=true) (hL:s.heap.IsList l its)
  (h:∀h',IsEnum h' (s.heap.objs.size+1) s.heap.objs.size c .none->h'.IsListIter s.heap.objs.size l 0->(∀b o,s.heap.get? b=some o->h'.get? b=some o)->Q (.ref (s.heap.objs.size+1)) { s with heap:=h' }) :
  wpAny (model P w) A (call (.type "enumerate") [.ref l] [("start", .int c tc)]) Q E s:=by
 obtain⟨⟨k,dd,dt,ss⟩,hl,hk,m,hd⟩:=hL;have hk:k=.type "list" := hk;have hd:dt=.seq its m:=hd;subst hk hd;have ft:=F.called_enumerate;obtain⟨c0,tl,hmro⟩:=ft.mro;have hmade:=ft.made;have hsub:=ft.sub;have h1:=ft.notType;have h2:=ft.canCreate;have hct:=sK (.ref l) (.int c tc);refine wpAny_call (codeAny_of_tree ?_);show wpAny _ _ (callAny (.type "enumerate") _) _ _ _;refine Qf ⟨Code.quiet_builtin _ (by decide +kernel),Xp F.entry_type_call ?_⟩;rw[Around.under_plain (weight_type_call_type "enumerate" [.ref l] [("start", .int c tc)]) (units_type_call_type "enumerate" [.ref l] [("start", .int c tc)])]
 repeat (any_goals (first|assumption|wp_step))
 have hcn:=vD (.ref l) (.int c tc);refine codeAny_mono (codeAny_call_builtin ft.plain F.entry_enumerate_new (wpAny_of_eq hcn ((t9 l c tc hc its m dd ss) P w A.in1 (wants (λobj s₁=>s₁.TypeIs obj "enumerate" /\ Q obj s₁) E) s ⟨hl,?_⟩))) λr s₁ hr=>?_
 ·have hz:(s.heap.push { cls:=.type "list_iterator", data:=.fields #[.ref l,.int 0 0] }).objs.size=s.heap.objs.size+1:=Xd ..;show _/\_;rw[hz];have he:=Qp (s.heap.push { cls:=.type "list_iterator", data:=.fields #[.ref l,.int 0 0] }) (o:={ cls:=.type "enumerate", data:=.fields #[.none,.bool false,.ref s.heap.objs.size,rawInt c,.none,.none] }) rfl;rw[hz]at he;exact⟨⟨_,he,rfl⟩,h _ he ⟨_,Qd _ (Qp _ rfl),rfl,rfl⟩ λb o x=>Qd _ (Qd _ x)⟩
 cases r with
 | error e=>exact hr
 | ok fl =>
 cases fl with
 | ret obj =>
  obtain⟨hT,hq⟩:=hr;have hli:=ft.init.lookup;have hbi:=ft.init.bind obj
  repeat (any_goals (first|assumption|wp_step))
  refine codeAny_mono (codeAny_call_builtin ft.init.plain F.entry_object_init (ft.init.check _ _ _ _ _ _ _ _ hT (Dr obj _ _) ((vA ft.init.lookup ft.made (by decide)) P w A.in1 (wants (λr s₂=>r=.none/\Q obj s₂) E) s₁ ⟨hT,rfl,hq⟩))) λr₂ s₂ hr₂=>?_
  cases r₂ with
  | error e=>exact hr₂
  | ok fl₂ =>
  cases fl₂ with
  | ret r=>obtain⟨rfl,hq⟩:=hr₂;repeat (any_goals (first|assumption|wp_step))
  | _=>exact hr₂.elim
 | _=>exact hr.elim
end
section
variable {its:Array Value} {e it l:Addr}
theorem qS {i:Nat} {c:Int} {x old:Value} {Q:Value->Shared->Prop} (he:IsEnum s.heap e it c old) (hit:s.heap.IsListIter it l i) (hl:s.heap.IsList l its) (hx:its[i]?=some x) (hne:e≠it)
  (hQ:∀h',IsEnumOut h' e it (c+1) x s.heap.objs.size->h'.IsListIter it l (i+1)->h'.get? s.heap.objs.size=some { cls:=.type "tuple", data:=.seq #[.int c s.toks,x] } ->
   (∀b o,b≠e->b≠it->s.heap.get? b=some o->h'.get? b=some o)->Q (.ref s.heap.objs.size) { s with heap:=h',toks:=s.toks+1 }) :
  wpAny (model P w) A (Builtin.«enumerate.__next__» ⟨[.ref e],[]⟩) (λfin s'=>∃v,fin=.done (.ret v)/\Q v s') E s:=by
 obtain⟨hp,g,d,tk,os⟩:=s;show wpAny _ _ (field (.ref e) 2 >>= _) _ _ _;refine Qb (Xo he rfl (x:=.ref it) rfl (Qb (wpAny_nextOf_list_item hit hl hx λk1 i1 s1=>?_)));have s1:Heap.SameBut it hp k1:=s1;have e1:IsEnum k1 e it c old:=(s1.2 e hne).trans he;show wpAny _ _ (field (.ref e) 3 >>= _) _ _ ⟨k1,g,d,tk,os⟩;refine Qb (Xo e1 rfl (x:=rawInt c) rfl ?_);show wpAny _ _ (field (.ref e) 4 >>= _) _ _ ⟨k1,g,d,tk,os⟩;refine Qb (Xo e1 rfl (x:=.none) rfl ?_);show wpAny _ _ (mkInt c >>= _) _ _ ⟨k1,g,d,tk,os⟩;refine Qb (wpAny_mkInt ?_);show wpAny _ _ (setField (.ref e) 3 (rawInt (c+1)) >>= _) _ _ ⟨k1,g,d,tk+1,os⟩;refine Qb (Xk e1 (by simp) λk2 e2 s2=>?_);have s2:Heap.SameBut e k1 k2:=s2;have e2:IsEnum k2 e it (c+1) old:=e2;show wpAny _ _ (setField (.ref e) 4 .none >>= _) _ _ ⟨k2,g,d,tk+1,os⟩;refine Qb (Xk e2 (by simp) λk3 e3 s3=>?_);have s3:Heap.SameBut e k2 k3:=s3;have e3:IsEnum k3 e it (c+1) old:=e3;show wpAny _ _ (newTuple [.int c tk,x] >>= _) _ _ ⟨k3,g,d,tk+1,os⟩;refine Qb (wpAny_newTuple ?_);have e4:IsEnum (k3.push { cls:=.type "tuple", data:=.seq #[.int c tk,x] }) e it (c+1) old:=Qd _ e3;generalize hh:k3.push { cls:=.type "tuple", data:=.seq #[.int c tk,x] }=k4 at e4;have sz:k3.objs.size=hp.objs.size:=by rw[s3.1,s2.1,s1.1]
 have el:e<hp.objs.size:=Qm he;have t4:k4.get? hp.objs.size=some { cls:=.type "tuple", data:=.seq #[.int c tk,x] }:=by rw[<-hh,<-sz];exact Qp _ rfl
 have kp:∀b o,b≠e->b≠it->hp.get? b=some o->k4.get? b=some o:=λb o n1 n2 q=>by rw[<-hh];exact Qd _ (s3.extBut b o n1 (s2.extBut b o n1 (s1.extBut b o n2 q)))
 have i4:k4.IsListIter it l (i+1):=by
  obtain⟨o,ho,r⟩:=(i1.extBut s2.extBut (XF hne)).extBut s3.extBut (XF hne);exact⟨o,by rw[<-hh];exact Qd _ ho,r⟩
 show wpAny _ _ (Builtin.SmallTypes.ownedTupleIsFree (.ref e) >>= _) _ _ ⟨k4,g,d,tk+1,os⟩;rw[sz];refine Qb ?_;unfold Builtin.SmallTypes.ownedTupleIsFree;refine Qb (Xo e4 rfl (x:=.none) rfl (Qf ?_));simp only[if_true];refine Qb (XO (Qb (Xo e4 rfl (x:=old) rfl (Qb (Xk e4 (by simp) λk5 e5 s5=>?_)))));have s5:Heap.SameBut e k4 k5:=s5;have e5:IsEnum k5 e it (c+1) x:=e5;show wpAny _ _ (Builtin.SmallTypes.ownedTupleHandOut (.ref e) (.ref hp.objs.size) >>= _) _ _ ⟨k5,g,d,tk+1,os⟩;refine Qb ?_;unfold Builtin.SmallTypes.ownedTupleHandOut;refine Qb (Xk e5 (by simp) λk6 e6 s6=>?_);have s6:Heap.SameBut e k5 k6:=s6;have e6:IsEnumOut k6 e it (c+1) x hp.objs.size:=e6;refine Xk e6 (by simp) λk7 e7 s7=>?_;have s7:Heap.SameBut e k6 k7:=s7;have e7:IsEnumOut k7 e it (c+1) x hp.objs.size:=e7;have far:∀b o,b≠e->k4.get? b=some o->k7.get? b=some o:=λb o n q=>s7.extBut b o n (s6.extBut b o n (s5.extBut b o n q));exact Qb (wpAny_letGo (Qf ⟨_,rfl,hQ k7 e7 (((i4.extBut s5.extBut (XF hne)).extBut s6.extBut (XF hne)).extBut s7.extBut (XF hne)) (far _ _ (Nat.ne_of_gt el) t4) λb o n1 n2 q=>far b o n1 (kp b o n1 n2 q)⟩))
variable {Q:Option Value->Shared->Prop}
theorem mZ {i:Nat} {c:Int} {x old:Value} (he:IsEnum s.heap e it c old) (hit:s.heap.IsListIter it l i) (hl:s.heap.IsList l its) (hx:its[i]?=some x) (hne:e≠it)
  (hQ:∀h',IsEnumOut h' e it (c+1) x s.heap.objs.size->h'.IsListIter it l (i+1)->h'.get? s.heap.objs.size=some { cls:=.type "tuple", data:=.seq #[.int c s.toks,x] } ->
   (∀b o,b≠e->b≠it->s.heap.get? b=some o->h'.get? b=some o)->Q (some (.ref s.heap.objs.size)) { s with heap:=h',toks:=s.toks+1 }):wpAny (model P w) A (pyNext (.ref e)) Q E s:=by
 have ty:s.TypeIs (.ref e) "enumerate" := ⟨_,he,rfl⟩;unfold pyNext;refine Qb (wpAny_attempt (XS (name:=Str.ofString "__next__") ty F.slot_enumerate_next (XD F.slot_enumerate_next ty F.entry_enumerate_next (qS he hit hl hx hne λh' a b c k=>?_) (F.args_enumerate_next_1 _))));exact Qf (hQ h' a b c k)
theorem iq {i:Nat} {c:Int} {old:Value} (hh:A.handled=none) (he:IsEnum s.heap e it c old) (hit:s.heap.IsListIter it l i) (hl:s.heap.IsList l its) (hx:its[i]?=none)
  (hQ:∀h',Heap.ExtBut it s.heap h'->Q none { s with heap:=h' }):wpAny (model P w) A (pyNext (.ref e)) Q E s:=by
 have ty:s.TypeIs (.ref e) "enumerate" := ⟨_,he,rfl⟩;unfold pyNext;refine Qb (wpAny_attempt (XS (name:=Str.ofString "__next__") ty F.slot_enumerate_next (XD F.slot_enumerate_next ty F.entry_enumerate_next ?_ (F.args_enumerate_next_1 _))));show wpAny _ _ (field (.ref e) 2 >>= _) _ _ _;refine Qb (Xo he rfl (x:=.ref it) rfl (Qb (wpAny_nextOf_list_end hh hit hl hx λh' y hx' ⟨o,ho,ko⟩=>?_)));exact Qb (wpAny_isInstance (T := "StopIteration") (b:=true) ⟨o,ho,ko⟩ isSubtype_stop (Qf (hQ _ hx')))
end
noncomputable def wz (K:PySem.W.Frag) (a:Addr) (n:Int):It :=
 ⟨λi H=>∃xs x,SqL K H a xs/\xs[i]?=some x,λi H x H'=>∃T v,H T=none/\x=.ref T/\H'=upd H T (.tup [.int (n+(i:Nat)),v])/\∀xs,SqL K H a xs->xs[i]?=some v,λi H=>∃xs,SqL K H a xs/\xs.length<=i⟩
variable {K:PySem.W.Frag}
theorem pT {P:Program} {w:World} {elts:List Expr} {k:Nat} {pos:Pos} (a e it:Addr) (n:Int) (hne:e≠it) :
  Turn P w K (.Tuple elts k pos) (wz K a n) [e,it] e (λi h=>(∃old,IsEnum h e it (n+(i:Nat)) old)/\h.IsListIter it a i) where
 mem:=by simp
 obj:=λi h st b hb=>by
  obtain⟨⟨old,he⟩,o,ho,hc,hd⟩:=st;have z:b=e\/b=it:=by simpa using hb
  rcases z with z|z
  ·subst z
   exact⟨_,he,λv q=>by
    have q':Data.fields _=Data.cell v:=q
    cases q'⟩
  subst z;exact⟨o,ho,λv q=>by rw[hd]at q;cases q⟩
 keep:=λi h h' st kk=>by
  obtain⟨⟨old,he⟩,hl⟩:=st;exact⟨⟨old,kk e (by simp) _ he⟩,hl.at λo q=>kk it (by simp) o q⟩
 item:=by
  intro X hP hw hK hc i pins s σ H E I hf st hg;subst hP hw hK;obtain⟨xs,x,hq,hx⟩:=hg;obtain⟨its,rv,p,hz⟩:=I.list hq;obtain⟨u,hu,ru⟩:=rv.get hx;obtain⟨⟨old,he⟩,hl⟩:=st;have f1:=hf e (by simp);have f2:=hf it (by simp);refine mZ he hl p.isList (x:=u) (by simpa using hu) hne λh1 a1 a2 a3 a5=>⟨_,rfl,?_⟩;refine wpAny_letOwnedTupleGo_enum a1 λh2 b1 b2=>?_
  have nTe:s.heap.objs.size≠e:=λz=>by
   have q:=Qm (show s.heap.get? e=some _ from he);rw[<-z]at q;exact Nat.lt_irrefl _ q
  have keep2:∀b o,b≠e->b≠it->s.heap.get? b=some o->h2.get? b=some o:=λb o n1 n2 q=>b2.extBut b o n1 (a5 b o n1 n2 q);have tup2:h2.get? s.heap.objs.size=some { cls:=.type "tuple", data:=.seq #[.int (n+(i:Nat)) s.toks,u] }:=b2.extBut _ _ nTe a3
  have I2:Inv X pins σ (upd H s.heap.objs.size (.tup [.int (n+(i:Nat)),x])) { s with heap:=h2,toks:=s.toks+1 } :=
   I.turned2 keep2 f1 f2 (Qg _) ⟨(by show 2<=sizeLine;decide),[.int (n+(i:Nat)) s.toks,u],.cons ⟨_,rfl⟩ (.cons ru .nil),⟨_,tup2,rfl,_,rfl⟩⟩
  refine⟨.ref s.heap.objs.size,_,I2,rfl,⟨s.heap.objs.size,x,I.hok.fresh (Qg _),rfl,rfl,λys hy=>by rw[I.list_inj hy hq];exact hx⟩,⟨⟨u,?_⟩,(a2.extBut b2.extBut (XF hne))⟩,λb hb=>?_⟩
  ·have q:IsEnum h2 e it (n+(i:Nat)+1) u:=b1;have c:n+(((i+1:Nat):Nat):Int)=n+(i:Nat)+1:=by omega
   rw[c];exact q
  have z:b=e\/b=it:=by simpa using hb
  have nT:b≠s.heap.objs.size:=by
   rcases z with z|z
   ·rw[z];exact XF nTe
   rw[z];obtain⟨o,ho,_⟩:=hl;exact Qz (Qm ho)
  rw[ak nT];exact(hf b hb).1
 done:=by
  intro X hP hw hK hc i pins s σ H E I hf st hg;subst hP hw hK;obtain⟨xs,hq,hx⟩:=hg;obtain⟨its,rv,p,hz⟩:=I.list hq;obtain⟨⟨old,he⟩,hl⟩:=st;obtain⟨f0,f1,f2,f3,f4,f5⟩:=hf it (by simp);have hlen:=rv.length;exact iq (I.ok.hd hc) he hl p.isList (by simp;exact om4 hx hlen) λh' eb=>⟨rfl,I.turned (t':=s.toks) (λb o hb q=>eb b o hb q) f0 f1 f3 f4 f5⟩
 self:=λ_ _ _ _ _ st h=>by
  obtain⟨⟨old,he⟩,_⟩:=st;exact wpAny_pyIter_enum he h
section
variable {X:Cx} {elts:List Expr} {k:Nat} {tpos:Pos}
def z_ (K:PySem.W.Frag) (ta tk:TA):TI:=λσ H R=>ta σ H λvs H1=>tk σ H1 λzs H2=>∃a n,vs=[.ref a]/\zs=[.int n]/\(0<=n/\n<1000)/\(∃xs,SqL K H2 a xs)/\R (wz K a n) H2
variable {E Q:Value->Shared->Prop}
theorem kH {M:Model} {env:Env} {pos:Pos} {T:String} {e:Expr} {kws:List Keyword} {A:Around} {s:Shared}
  (h:wpAny M A (spliced (backTo pos (starEach [e] env))) (λvs s1=>wpAny M A (evalAll ((backToKw pos (keywordEach kws env)).map (·.2))) (λzs s2=>wpAny M A (call (.type T) vs (((backToKw pos (keywordEach kws env)).filterMap (·.1)).zip zs)) Q E s2) E s1) E s)
  (he:backTo pos (starEach [e] env)=(false,eval e env)::backTo pos (starEach [] env):=by rfl) (hp:(backTo pos (starEach [e] env)).any (·.1)=false:=by rfl) (ha:(backToKw pos (keywordEach kws env)).all (·.1.isSome)=true:=by rfl) (hk:(backToKw pos (keywordEach kws env)).any (·.1.isNone)=false:=by rfl) :
  wpAny M A (callWith pos (.type T) [] (backTo pos (starEach [e] env)) (backToKw pos (keywordEach kws env))) Q E s:=by
 unfold callWith;refine Qb (Q3 (Xm (show wpAny M A (evalArgs _ true _ _) (λa s1=>wpAny M A (call (.type T) a.pos a.kw) Q E s1) E s from ?_) (λa s1 h1=>Qb (wpAny_standAt ?_)) λ_ _ x=>x))
 ·rw[he]at h ⊢;exact evalArgs_kwB ha h
 simp only[hp,hk,Bool.or_false];refine Qb (Qf ?_);exact Qb (Xm h1 (λr s2 hr=>Qb (Q3 (wpAny_point (Qf hr)))) λ_ _ x=>x)
theorem uR {a b:Expr} {ta tk:TA} {p pos kp:Pos} (hg:Gl X "enumerate") (hm:X.mg "enumerate" = none) (ha:PA X [a] ta) (hb:PK X [⟨some "start", b,kp⟩] tk) (he:∀pos,backTo pos (starEach [a] X.env)=(false,eval a X.env)::backTo pos (starEach [] X.env):=by intro pos;rfl) :
  PI X (.Tuple elts k tpos) (.Call (.Name "enumerate" p) [a] [⟨some "start", b,kp⟩] pos) (z_ X.K ta tk):=by
 intro pins s σ H R I h;refine wpAny_Call_Name_kw (dO I hg hm boot_enumerate ?_);refine kH (thn (ha pos pins s σ H _ I h) λus s1 ⟨vs,H1,I1,r1,q1⟩=>thn (hb pos pins s1 σ H1 _ I1 q1) λws s2 ⟨zs,H2,I2,rz,q2⟩=>?_) (he pos) (by rw[he pos];rfl);obtain⟨l,n,e1,e2,⟨n0,n1⟩,⟨xs,hq⟩,q⟩:=q2;subst e1 e2
 cases r1 with
 | cons r rr =>
 cases rr;cases r;obtain⟨u,e,ru⟩:=eE rz;subst e;obtain⟨tc,e⟩:=ru;subst e;obtain⟨its,rv,pl,hz⟩:=I2.list hq;refine rb (c:=n) (tc:=tc) (by unfold Builtin.SmallTypes.fitsIndex;simp;omega) pl.isList λh' b1 b2 b4=>?_;refine wpAny_pyIter_enum b1 ?_;have I3:Inv X pins σ H2 { s2 with heap:=h' }:=I2.kept (t':=s2.toks) b4;refine⟨s2.heap.objs.size+1,[s2.heap.objs.size+1,s2.heap.objs.size],_,_,H2,rfl,I3,pT l (s2.heap.objs.size+1) s2.heap.objs.size n (by show @Ne Nat _ _;exact om5),⟨⟨_,by rw[show n+((0:Nat):Int)=n from by omega];exact b1⟩,b2⟩,λb hb=>?_,q⟩;have z:b=s2.heap.objs.size+1\/b=s2.heap.objs.size:=by simpa using hb
 have hle:s2.heap.objs.size<=b:=by
  rcases z with z|z
  ·rw[z];exact Nat.le_succ _
  rw[z];exact Qg _
 exact I2.fpOk hle (I2.hok.fresh hle)
end
theorem t5 {a:Addr} {n:Int} {xs:List V} {g:TG} {tb:TS} {D:Ends} {σ:St} {H:Hp} (Pv:Nat->St->Hp->Prop) (h0:Pv 0 σ H) (hl:∀i σ H,i<=xs.length->Pv i σ H->SqL K H a xs)
  (hs:∀i x σ H T,xs[i]?=some x->Pv i σ H->H T=none->g (.ref T) σ (upd H T (.tup [.int (n+(i:Nat)),x])) λσ2 H2=>tb { D with nx:=Pv (i+1),ct:=Pv (i+1),bk:=D.nx } σ2 H2) (hd:∀σ H,Pv xs.length σ H->D.nx σ H) :
  ∃W:Nat->Nat->St->Hp->Prop,(∃m,W 0 m σ H)/\∀i m σ H,W i m σ H ->
   ((wz K a n).stop i H/\D.nx σ H)\/((wz K a n).go i H/\∃N:St->Hp->Prop,(∀σ' H',N σ' H'->∃m',m'<m/\W (i+1) m' σ' H')/\∀x H',(wz K a n).yld i H x H'->g x σ H' λσ2 H2=>tb { D with nx:=N,ct:=N,bk:=D.nx } σ2 H2):=by
 refine⟨λi m σ H=>m=xs.length-i/\i<=xs.length/\Pv i σ H,⟨xs.length,by simp,QN _,h0⟩,?_⟩;rintro i m σ H ⟨rfl,hi,p⟩;have q:=hl i σ H hi p;by_cases hlt:i<xs.length
 ·refine .inr ⟨⟨xs,xs[i],q,by simp[hlt]⟩,Pv (i+1),λσ' H' p'=>⟨xs.length-(i+1),by exact om6 hlt,rfl,hlt,p'⟩,λx H' y=>?_⟩;obtain⟨T,v,hT,ex,eH,y⟩:=y;subst ex eH;exact hs i v σ H T (y xs q) p hT
 have e:i=xs.length:=by exact om0 hi hlt
 subst e;exact .inl ⟨⟨xs,q,Qg _⟩,hd σ H p⟩
theorem kn {H1:Hp} {D:Addr} {σ0:St} {g:TG} {te:TE} {tt:TT} {QD:Hp->Prop} {a:Addr} {xs:List V} (Pv:Nat->Hp->List V->Prop) (h0:Pv 0 (upd H1 D (.lst [])) []) (hD:∀i H ys,Pv i H ys->H D=some (.lst ys)/\SqL K H a xs)
  (hs:∀i x H ys,xs[i]?=some x->Pv i H ys->g x σ0 H λσ2 H2=>wk σ0 σ2/\tt σ2 H2 λb H3=>if b=true then te σ2 H3 (bV Pv xs.length D i ys) else ∃m',m'<xs.length-i/\(m'=xs.length-(i+1)/\i+1<=xs.length/\Pv (i+1) H3 ys)) (hd:∀H ys,Pv xs.length H ys->QD H) :
  ∃W:Nat->Nat->Hp->List V->Prop,(∃m,W 0 m (upd H1 D (.lst [])) [])/\∀i m H ys,W i m H ys->H D=some (.lst ys)/\(((Itl K a).stop i H/\QD H)\/((Itl K a).go i H/\∀x H',(Itl K a).yld i H x H'->g x σ0 H' λσ2 H2=>wk σ0 σ2/\tt σ2 H2 λb H3 =>
   if b=true then te σ2 H3 λv H4=>H4 D=some (.lst ys)/\ys.length<sizeLine/\∃m',m'<m/\W (i+1) m' (upd H4 D (.lst (ys++[v]))) (ys++[v]) else ∃m',m'<m/\W (i+1) m' H3 ys)):=by
 refine⟨λi m H ys=>m=xs.length-i/\i<=xs.length/\Pv i H ys,⟨xs.length,by simp,QN _,h0⟩,?_⟩;rintro i m H ys ⟨rfl,hi,p⟩;obtain⟨d1,d2⟩:=hD i H ys p;refine⟨d1,?_⟩;by_cases hlt:i<xs.length
 ·refine .inr ⟨⟨xs,xs[i],d2,by simp[hlt]⟩,λx H' y=>?_⟩;obtain⟨e,y⟩:=y;subst e;exact hs i x _ ys (y xs d2) p
 have e:i=xs.length:=by exact om0 hi hlt
 subst e;exact .inl ⟨⟨xs,d2,Qg _⟩,hd H ys p⟩
theorem v8 {x:V} (h:dw x=true):eqV x x=true:=by
 cases x <;> first|(simp[eqV];done)|(simp[dw]at h;done)|simp_all [eqV,dw]
theorem kL (n:Nat):((List.range n).all λ_=>true)=true:=QK.mpr λ_ _=>rfl
section
variable {K:PySem.W.Frag} {H:Hp} {Q:VK}
theorem v7 {n:Nat} {x:V} (h:dw x=true):EqD K H n x x true:=by
 have q:=EqD.flat (K:=K) (H:=H) (n:=n) h h;rwa [v8 h]at q
variable {xs ys:List V} {a b l:Addr}
theorem pE {n:Nat} (h1:SqL K H a xs) (h2:SqL K H b ys) (hl:xs.length=ys.length) (hi:∀(j:Nat) x y,xs[j]?=some x->ys[j]?=some y->EqD K H n x y true):EqD K H (n+1) (.ref a) (.ref b) true:=by
 by_cases e:a=b
 ·subst e;exact .same
 have q:=EqD.lists (e:=λ_=>true) h1 h2 hl hi e;rwa [kL]at q
theorem xB {n:Nat} (h1:SqT K H a xs) (h2:SqT K H b ys) (hl:xs.length=ys.length) (hi:∀(j:Nat) x y,xs[j]?=some x->ys[j]?=some y->EqD K H n x y true):EqD K H (n+1) (.ref a) (.ref b) true:=by
 by_cases e:a=b
 ·subst e;exact .same
 have q:=EqD.tups (e:=λ_=>true) h1 h2 hi e;rw[kL,hl,Bool.true_and,beq_self_eq_true]at q;exact q
theorem lV {n:Nat} (f:xs.all dw=true):∀(j:Nat) x y,xs[j]?=some x->xs[j]?=some y->EqD K H n x y true:=λj x y e1 e2=>by
 rw[e1]at e2;cases e2;exact v7 (QK.mp f x (Qi e1))
theorem yM (h1:SqL K H a xs) (h2:SqL K H b ys) (hl:xs.length=ys.length) (hi:∀(j:Nat) x y,xs[j]?=some x->ys[j]?=some y->EqD K H 8 x y true) (q:Q (.bl false) H):qm K true (.ref a) (.ref b) H Q:=by
 refine⟨a,b,xs,ys,λ_=>true,rfl,rfl,h1,h2,hi,?_⟩;rw[kL,hl,beq_self_eq_true];exact q
theorem yL (h1:SqT K H a xs) (h2:SqT K H b ys) (hl:xs.length=ys.length) (hi:∀(j:Nat) x y,xs[j]?=some x->ys[j]?=some y->EqD K H 8 x y true) (q:Q (.bl false) H):AF K true (.ref a) (.ref b) H Q:=by
 refine⟨a,b,xs,ys,λ_=>true,rfl,rfl,h1,h2,hi,?_⟩;rw[kL,hl,beq_self_eq_true];exact q
theorem r_eqNil {R:Bool->Hp->Prop} {σ:St} (hl:H l=some (.lst xs)) (q:∀H',am H H'->R (decide (xs.length=0)) H'):wJ ig σ H λy H2=>qm K false (.ref l) y H2 λx H'=>∃k,x=.bl k/\R k H':=by
 refine i_lst (aI ⟨by simp[sizeLine],λp hp=>?_⟩);refine⟨l,p,xs,[],λ_=>true,rfl,rfl,SqL.of (aj hp _ _ hl),SqL.of ag,λj x y _ e=>by simp at e,_,rfl,?_⟩
 have e:(if false=true then !(xs.length==([]:List V).length&&(List.range xs.length).all λ_=>true) else (xs.length==([]:List V).length&&(List.range xs.length).all λ_=>true))=decide (xs.length=0):=by
  rw[QB Qn,kL,Bool.and_true];rfl
 rw[e];exact q _ (aj hp)
end
end L2
namespace LY
open PySem LZ
section
variable {prog:Program} {w:World} {A:Around} {E:Value->Shared->Prop} {s:Shared}
end
structure ApartM (z TI TO i1 i2 l m d:Addr):Prop extends ApartD z TI TO i1 i2 l d where
 mz:m≠z
 mTO:m≠TO
 mi1:m≠i1
 mi2:m≠i2
 dm:d≠m
structure ZS (h:Heap) (z TI TO i1 i2 l d:Addr) (m:Addr) (xs ys:Array Value) (k:Nat):Prop where
 zf:(IsZ h z TI TO .none false/\∃a b,IsPair h TO a b)\/∃(T:Addr) (f1:Bool) (oT:Obj),IsZ h z TI TO (rawInt (T:Nat)) f1/\h.get? T=some oT/\T≠z/\T≠i1/\T≠i2/\T≠d
 ti:IsPair h TI (.ref i1) (.ref i2)
 a1:h.IsListIter i1 l k
 a2:h.IsListIter i2 m k
 li:h.IsList l xs
 mi:h.IsList m ys
section
variable {prog:Program} {w:World} {K:Type} [DecidableEq K] {knd:KeyKind prog w K} {A:Around} {R:Result->Shared->Prop}
end
end LY
namespace L2
open PySem PySem.Spec PyProof.Rows
section
variable {X:Cx} {elts:List Expr} {k:Nat} {tpos:Pos}
end
section
variable {X:Cx}
end
section
variable {X:Cx}
end
end L2
namespace LS
open PySem PySem.Spec PyProof.Rows
def Led (w:World) (t:SetTable) (n:Nat):Prop:=w.params.followText "set-order" = true\/(t.led=true/\(n≠0->t.plain=false))
theorem sQ (t:SetTable) (n:Nat):(t.orStandIn n).led=t.led/\(t.plain=false->(t.orStandIn n).plain=false):=by
 unfold SetTable.orStandIn
 split
 ·exact⟨rfl,id⟩
 exact⟨rfl,λ_=>rfl⟩
theorem qL (t:SetTable) (es:Array (Int × Value)) (h:Int) (x:Value):(layNew t es h x).2.1.led=t.led/\(t.plain=false->(layNew t es h x).2.1.plain=false):=by
 unfold layNew
 split
 ·exact sQ (t.put _).1 _
 exact⟨rfl,λ_=>rfl⟩
theorem vI {m f v:Nat} {l p:Bool} {hs:Array Int} {t:SetTable} {o:Array Nat} (h:SetTable.laid m f v l p hs=some (t,o)):t.led=l/\t.plain=p:=by
 unfold SetTable.laid at h
 cases e:SetTable.layClean m hs with
 | none=>rw[e]at h;cases h
 | some ow=>rw[e]at h;cases h;exact⟨rfl,rfl⟩
theorem sU (t:SetTable) (es:Array (Int × Value)) (n:Nat):(relayAll t es n).2.1.led=t.led/\(t.plain=false->(relayAll t es n).2.1.plain=false):=by
 unfold relayAll
 split
 ·rename_i t' o e
  obtain⟨e1,e2⟩:=vI e;dsimp only
  split
  ·exact⟨e1,λz=>e2.trans z⟩
  exact⟨rfl,λ_=>rfl⟩
 exact⟨rfl,λ_=>rfl⟩
def cJ (prog:Program) (w:World) (h:Heap) (a:Addr) (S:Str->Bool) (n:Nat):Prop:=∃o es ep t,h.get? a=some o/\o.ExactSet/\o.data=.set es ep t/\ElemsOf (strKind prog w) es.toList/\(∀k,S k=true↔∃e∈es.toList,(strKind prog w).is k e.2=true)/\es.size<scanBound/\t.fits es.size=true/\es.size=n/\Led w t es.size
section
variable {prog:Program} {w:World} {A:Around} {E:Value->Shared->Prop} {s:Shared} {a:Addr} {S:Str->Bool} {n:Nat}
variable {es' es:Array (Int × Value)}
theorem cJ.put {h:Heap} {o:Obj} {ep:Nat} {t:SetTable} (ho:h.get? a=some o) (hex:o.ExactSet) (hd:o.data=.set es ep t) {t':SetTable}
  (hel:ElemsOf (strKind prog w) es'.toList) (hm:∀k,S k=true↔∃e∈es'.toList,(strKind prog w).is k e.2=true) (hb:es'.size<scanBound) (hf:t'.fits es'.size=true) (hn:es'.size=n) (hl:Led w t' es'.size) :
  (h.update a (Obj.putSet es' t')).get? a=some { o with data:=.set es' (ep+1) t' }/\cJ prog w (h.update a (Obj.putSet es' t')) a S n:=by
 obtain⟨g,_⟩:=SetOf_store (knd:=strKind prog w) ho hex hd hel hm hb hf;exact⟨g,_,es',ep+1,t',g,hex,rfl,hel,hm,hb,hf,hn,hl⟩
theorem xI {k:Str} {tok:Tok} {Q:Bool->Shared->Prop} (hS:cJ prog w s.heap a S n) (hroom:n+1<scanBound)
  (h:∀h' b,Heap.SameBut a s.heap h'->cJ prog w h' a (λk'=>S k' || decide (k'=k)) (if S k then n else n+1)->Q b { s with heap:=h' }) :
  wpAny (model prog w) A (setAddHashed a (.str k tok) ((strKind prog w).hash k)) Q E s:=by
 obtain⟨o,es,ep,t,ho,hex,hd,hel,hm,hb,hf,hn,hl⟩:=hS;have hkey:(strKind prog w).is k (.str k tok)=true:=strKind_is _ _ _ _;have hsc:(Value.str k tok).scannable=true:=rfl;unfold setAddHashed setAddHashedIn;refine Q3 (Qb (wpAny_setState_of ho hd hf ?_));dsimp only;rw[byScan_of hsc hb hel];simp only[↓reduceIte];unfold setAddByScan;refine Qb (Qb (XO (Qb (wpAny_setScan_of hkey ho hd hf hel ?_))))
 cases hr:List.findIdx? (λe=>(strKind prog w).is k e.2) es.toList with
 | some j =>
  dsimp only;obtain⟨hj,hpj,_⟩:=List.findIdx?_eq_some_iff_getElem.mp hr;have hk:S k=true:=(hm k).mpr ⟨_,Xq hj,hpj⟩;refine Qf (Qf (h s.heap _ (Heap.SameBut.refl a s.heap) ⟨o,es,ep,t,ho,hex,hd,hel,λk'=>?_,hb,hf,by rw[hk];exact hn,hl⟩));rw[Bool.or_eq_true,decide_eq_true_eq,<-hm k'];exact⟨λz=>z.elim id λe=>e▸hk,.inl⟩
 | none =>
 dsimp only
 have hk:S k=false:=by
  cases hk:S k with
  | false=>rfl
  | true=>obtain⟨e,he,hp⟩:=(hm k).mp hk;have:=List.findIdx?_eq_none_iff.mp hr e he;rw[hp]at this;exact Bool.noConfusion this
 have hperm:=layNew_perm t es ((strKind prog w).hash k) (.str k tok);have hfits:=layNew_fits t es ((strKind prog w).hash k) (.str k tok);obtain⟨l1,l2⟩:=qL t es ((strKind prog w).hash k) (.str k tok);generalize hL:layNew t es ((strKind prog w).hash k) (.str k tok)=L at hperm hfits l1 l2 ⊢;obtain⟨es1,t1,wasDummy,gave⟩:=L;dsimp only at hperm hfits l1 l2 ⊢;rw[Array.toList_push]at hperm;have hel1:=(hel.push hkey hsc).perm hperm;have hm1:∀k',(S k' || decide (k'=k))=true↔∃e∈es1.toList,(strKind prog w).is k' e.2=true:=mem_push_iff hkey hm hperm;have hz:es1.size=n+1:=by rw[<-Qo,hperm.length_eq,Qj,Qo,hn];rfl
 have hb1:es1.size<scanBound:=by rw[hz];exact hroom
 rw[hk]at h
 have tail:∀(t2:SetTable) (s1:Shared) (g:Bool->Sem Unit),(∀(b:Bool) (s₁:Shared) (Q':Unit->Shared->Prop),Q' () s₁->wpAny (model prog w) A (g b) Q' E s₁)->s1=s->t2.fits es1.size=true->Led w t2 es1.size ->
   wpAny (model prog w) A (do
    storeSet a es1 t2
    if (!wasDummy&&t2.tooFull)=true then do
      g (relayAll t2 es1 (SetTable.grown es1.size)).2.2
      storeSet a (relayAll t2 es1 (SetTable.grown es1.size)).1 (relayAll t2 es1 (SetTable.grown es1.size)).2.1
      pure (some true)
     else pure (some true)) (λr s'=>∃h' b,r=some b/\s'={ s with heap:=h' }/\Heap.SameBut a s.heap h'/\cJ prog w h' a (λk'=>S k' || decide (k'=k)) (n+1)) E s1:=λt2 s1 g hg e f2 d2=>by
  subst e;refine Qb (wpAny_storeSet_of ho hd ?_ (fits_of_scanBound hb1));obtain⟨ho1,q1⟩:=cJ.put ho hex hd hel1 hm1 hb1 f2 hz d2;have k1:=XE s1.heap a (Obj.putSet es1 t2)
  split
  ·have hp:=relayAll_perm t2 es1 (SetTable.grown es1.size);have hfr:=relayAll_fits t2 es1 (SetTable.grown es1.size);obtain⟨r1,r2⟩:=sU t2 es1 (SetTable.grown es1.size);generalize hRl:relayAll t2 es1 (SetTable.grown es1.size)=Rl at hp hfr r1 r2 ⊢;obtain⟨es2,t3,gave2⟩:=Rl;dsimp only at hp hfr r1 r2 ⊢;have hz2:es2.size=es1.size:=by rw[<-Qo,hp.length_eq,Qo]
   refine Qb (hg _ _ _ (Qb (wpAny_storeSet_of ho1 rfl ?_ (fits_of_scanBound (by rw[hz2];exact hb1)))))
   obtain⟨_,q2⟩:=cJ.put (S:=λk'=>S k' || decide (k'=k)) (n:=n+1) ho1 hex rfl (hel1.perm hp) (λk'=>(hm1 k').trans ⟨λ⟨e,he,q⟩=>⟨e,hp.mem_iff.mpr he,q⟩,λ⟨e,he,q⟩=>⟨e,hp.mem_iff.mp he,q⟩⟩) (by rw[hz2];exact hb1) hfr (hz2.trans hz)
    (d2.imp id λz=>⟨r1.trans z.1,λy=>r2 (z.2 (by rw[<-hz2];exact y))⟩)
   exact Qf ⟨_,true,rfl,rfl,k1.trans (XE _ a _),q2⟩
  exact Qf ⟨_,true,rfl,rfl,k1,q1⟩
 have fin:∀(r:Option Bool) (s':Shared),(∃h' b,r=some b/\s'={ s with heap:=h' }/\Heap.SameBut a s.heap h'/\cJ prog w h' a (λk'=>S k' || decide (k'=k)) (n+1))->∃h' b,r=some b/\s'={ s with heap:=h' }/\Q b s':=λr s' ⟨h',b,e1,e2,e3,e4⟩=>⟨h',b,e1,e2,by rw[e2];exact h h' b e3 (by simpa using e4)⟩
 have gw:∀(b:Bool) {s₁:Shared} {Q':Unit->Shared->Prop},Q' () s₁->wpAny (model prog w) A (match b with|true=>rule "set.scan.the-table-gave-way" | false=>pure ()) Q' E s₁ :=
  λb s₁ Q' hq=>by cases b <;> first|exact Qf hq|exact XO hq
 refine Qb (gw _ ?_)
 split
 ·refine Qb ?_;rw[hashByValue_scannable 8 hsc];refine Qf ?_;refine Xm (tail _ s _ ?_ rfl ?_ ?_) (λr s' z=>?_) λ_ _ z=>z
  ·intro b s₁ Q' hq;cases b <;> first|exact Qf hq|exact XO hq
  ·exact SetTable.fits_plain_off hfits
  ·exact hl.imp id λz=>⟨l1.trans z.1,λ_=>rfl⟩
  obtain⟨h',b,rfl,rfl,q⟩:=fin r s' z;exact Qf q
 rename_i hp
 refine Qb (Qf ?_);simp only[↓reduceIte];refine Xm (tail _ s _ ?_ rfl hfits ?_) (λr s' z=>?_) λ_ _ z=>z
 ·intro b s₁ Q' hq;cases b <;> first|exact Qf hq|exact XO hq
 ·exact hl.imp id λz=>⟨l1.trans z.1,λ_=>by simpa using hp⟩
 obtain⟨h',b,rfl,rfl,q⟩:=fin r s' z;exact Qf q
theorem cJ.congr {h:Heap} {S':Str->Bool} {m:Nat} (q:cJ prog w h a S n) (e:∀k,S k=S' k) (f:n=m):cJ prog w h a S' m:=by
 obtain⟨o,es,ep,t,h1,h2,h3,h4,h5,h6,h7,h8,h9⟩:=q;exact⟨o,es,ep,t,h1,h2,h3,h4,λk=>by rw[<-e k];exact h5 k,h6,h7,h8.trans f,h9⟩
abbrev bare (led:Bool):Obj:={ cls:=.type "set", dict:=none,data:=.set #[] 0 (.fresh 0 0 led) }
theorem cJ.bare {h:Heap} (g:h.get? a=some (bare !(w.params.followText "set-order"))):cJ prog w h a (λ_=>false) 0 :=
 ⟨_,#[],0,_,g,⟨rfl,rfl,rfl⟩,rfl,fun e he=>by simp at he,fun k=>by simp,by decide,rfl,rfl,by
  unfold Led
  cases e:w.params.followText "set-order" with
  | true=>exact .inl rfl
  | false=>exact .inr ⟨rfl,λz=>absurd rfl z⟩⟩
theorem wn (x:Value) {Q₁:Value->Shared->Prop} (h:Q₁ (.ref s.heap.objs.size) { s with heap:=s.heap.push (LS.bare !(w.params.followText "set-order")) }) :
  codeAny (model prog w) A (.call (.builtin "set.__new__") ⟨[.type "set", x],[]⟩) (wants Q₁ E) s:=by
 refine codeAny_of_tree ?_;show wpAny _ A.in1 (do checkBuiltinCall "set.__new__" ⟨[.type "set", x],[]⟩;again (.builtin "set.__new__" ⟨[.type "set", x],[]⟩)) _ _ s;refine Qb (wpAny_of_eq (F.newCall_set_1 x) (Qf ⟨plainId_quiet F.plain_set_new _,Xp F.entry_set_new ?_⟩));rw[Xh F.plain_set_new _];unfold Builtin.«set.__new__» Builtin.Frozenset.newClass;have hsub:=sub_set_self;obtain⟨hp,g,d,tk,os⟩:=s;dsimp only
 wp_walk
 refine wpAny_askSetting (Qf ?_);dsimp only;simp only[newObj];exact Qb (wpAny_alloc (Qf (Qf h)))
end
theorem c7:Slot "set_iterator" "__next__" "set_iterator.__next__" :=
 .of (owner := "set_iterator") (n := "__next__") (by rw[typeLookup_type,XI];kernel_rfl) (by decide +kernel) (by decide +kernel) (by decide +kernel)
  (by first|exact .inl (by decide +kernel)|exact .inr (by decide +kernel)) (by rw[isSubtype_type];kernel_rfl)
theorem gM:Slot "set_iterator" "__iter__" "set_iterator.__iter__" :=
 .of (owner := "set_iterator") (n := "__iter__") (by rw[typeLookup_type,XI];kernel_rfl) (by decide +kernel) (by decide +kernel) (by decide +kernel)
  (by first|exact .inl (by decide +kernel)|exact .inr (by decide +kernel)) (by rw[isSubtype_type];kernel_rfl)
theorem lm:entryFor table "set_iterator.__next__" = some Builtin.«set_iterator.__next__»:=entryFor_of_tree (by kernel_rfl)
theorem lp:entryFor table "set_iterator.__iter__" = some Builtin.«dict_keyiterator.__iter__»:=entryFor_alias (id' := "dict_keyiterator.__iter__") (by kernel_rfl) rfl (by decide +kernel) (by kernel_rfl)
theorem kj:entryFor table "set.__iter__" = some Builtin.«frozenset.__iter__»:=entryFor_alias (id' := "frozenset.__iter__") (by kernel_rfl) rfl (by decide +kernel) (by kernel_rfl)
theorem oU:Manifest.owners.lookup (String.ofList ['r','o','t','a','r','e','t','i','_','t','e','s'].reverse)=some Manifest.sig_set_iterator:=by kernel_rfl
theorem nQ (a:Value):argsOk "set_iterator.__next__" ⟨[a],[]⟩:=by
 unfold argsOk;rw[signature?_of (id := "set_iterator.__next__") (n:=['_','_','t','x','e','n','_','_']) (o:=['r','o','t','a','r','e','t','i','_','t','e','s']) (by kernel_rfl) oU];kernel_rfl
theorem nR (a:Value):argsOk "set_iterator.__iter__" ⟨[a],[]⟩:=by
 unfold argsOk;rw[signature?_of (id := "set_iterator.__iter__") (n:=['_','_','r','e','t','i','_','_']) (o:=['r','o','t','a','r','e','t','i','_','t','e','s']) (by kernel_rfl) oU];kernel_rfl
def fU (h:Heap) (it a:Addr) (first:Value) (i n ep:Nat):Prop:=∃o,h.get? it=some o/\o.cls=.type "set_iterator" /\ o.data=.fields #[first,.int i 0,.ref a,.int n 0,.int ep 0]
def eM (h:Heap) (a:Addr) (es:Array (Int × Value)) (ep:Nat) (t:SetTable):Prop:=∃o,h.get? a=some o/\o.data=.set es ep t/\o.cls=.type "set" /\ t.fits es.size=true
section
variable {prog:Program} {w:World} {A:Around} {E:Value->Shared->Prop} {s:Shared} {a it:Addr} {es:Array (Int × Value)} {ep:Nat} {t:SetTable} {i:Nat} {first:Value}
variable {n:Nat}
theorem fU.typeIs (h:fU s.heap it a first i n ep):s.TypeIs (.ref it) "set_iterator" := let ⟨o,ho,hc,_⟩:=h;⟨o,ho,hc⟩
theorem fU.at {h h':Heap} (x:fU h it a first i n ep) (e:∀o,h.get? it=some o->h'.get? it=some o):fU h' it a first i n ep:=let ⟨o,ho,r⟩:=x;⟨o,e _ ho,r⟩
theorem eM.at {h h':Heap} (x:eM h a es ep t) (e:∀o,h.get? a=some o->h'.get? a=some o):eM h' a es ep t:=let ⟨o,ho,r⟩:=x;⟨o,e _ ho,r⟩
theorem nw {Q:Value->Shared->Prop} (hit:fU s.heap it a first i n ep) (h:Q (.ref it) s):wpAny (model prog w) A (pyIter (.ref it)) Q E s:=by
 refine wpAny_pyIter_slot hit.typeIs gM (XD gM hit.typeIs lp ?_ (nR _));show wpAny _ _ (ret (.ref it)) _ _ s;exact Qf ⟨_,rfl, "set_iterator", _,hit.typeIs,c7.lookup,h⟩
variable {Q:Option Value->Shared->Prop}
theorem jc (hit:fU s.heap it a first i n ep) (h:wpAny (model prog w) A.in1 (Builtin.«set_iterator.__next__» ⟨[.ref it],[]⟩) (λfin s'=>∃v,fin=Fin.done (Flow.ret v)/\wpAny (model prog w) A (pure (some v)) Q E s')
   (λe s'=>wpAny (model prog w) A (isInstance e (Value.type "StopIteration") >>= λb=>if b=true then pure none else throw e) Q E s') s):wpAny (model prog w) A (pyNext (.ref it)) Q E s :=
 Qb (wpAny_attempt (XS (name:=Str.ofString "__next__") hit.typeIs c7 (XD c7 hit.typeIs lm h (nQ _))))
theorem xW {h1:Heap} (hh:A.handled=none) (k:Heap.ExtBut it s.heap h1) (h:∀h',Heap.ExtBut it s.heap h'->Q none { s with heap:=h' }) :
  wpAny (model prog w) A.in1 (newExc (Value.type "StopIteration") [] >>= λe=>raiseNew (α:=Fin) e) (λfin s'=>∃v,fin=Fin.done (Flow.ret v)/\wpAny (model prog w) A (pure (some v)) Q E s')
   (λe s'=>wpAny (model prog w) A (isInstance e (Value.type "StopIteration") >>= λb=>if b=true then pure none else throw e) Q E s') { s with heap:=h1 }:=by
 refine Qb ?_;simp only[newExc,newTuple];refine Qb (wpAny_newObj_type ?_ (by size_fits));refine Qb (m:=firstArgMember _ _) (wpAny_of_eq (a:=Value.none) (by first|rfl|(simp only[firstArgMember];rfl)) ?_);refine wpAny_newObj_type ?_ (by size_fits);simp only[raiseNew];refine Qb (wpAny_handled ?_);rw[show A.in1.handled=none from hh];refine Qb (Qf (wpAny_throw ?_));refine Qb (wpAny_isInstance (T := "StopIteration") (b:=true) ⟨_,Qp _ rfl,rfl⟩ isSubtype_stop ?_);exact Qf (h _ ((k.push _).push _))
theorem lL {slot next:Nat} {x:Value} (hit:fU s.heap it a (.int slot 0) i es.size ep) (hs:eM s.heap a es ep t)
  (hw:∀(Q:Option (Value × Nat)->Shared->Prop) (E:Value->Shared->Prop),Q (some (x,next)) s->wpAny (model prog w) A.in1 (setNext a slot i ep) Q E s)
  (h:∀h',fU h' it a (.int next 0) (i+1) es.size ep->Heap.SameBut it s.heap h'->Q (some x) { s with heap:=h' }):wpAny (model prog w) A (pyNext (.ref it)) Q E s:=by
 obtain⟨o,ho,hc,hd⟩:=id hit;obtain⟨os,hos,hds,_,hf⟩:=id hs;refine jc hit ?_;unfold Builtin.«set_iterator.__next__»;refine Qb (Qf (Qb (wpAny_fieldsOf ho hd ?_)));dsimp only;refine Qb (wpAny_setEntries_of hos hds hf ?_);rw[QB (by simp)];refine Qb (hw _ _ ?_);dsimp only;refine Qb (wpAny_setField ho hd (by simp) ?_);have h1:=XH (Obj.mapFields (·.setIfInBounds 0 (rawInt (next:Int)))) ho (Obj.isFreed_of_fields (XQ hd _));have d1:=XQ hd (·.setIfInBounds 0 (rawInt (next:Int)));refine Qb (wpAny_setField h1 d1 (by simp) ?_);refine Qf ⟨_,rfl,Qf (h _ ⟨_,XH _ h1 (Obj.isFreed_of_fields (XQ d1 _)),(Obj.cls_mapFields ..).trans ((Obj.cls_mapFields ..).trans hc),by rw[XQ d1];simp[rawInt]⟩ ((XE ..).trans (XE ..)))⟩
theorem lM {slot:Nat} (hh:A.handled=none) (hit:fU s.heap it a (.int slot 0) i es.size ep) (hs:eM s.heap a es ep t)
  (hw:∀(Q:Option (Value × Nat)->Shared->Prop) (E:Value->Shared->Prop),Q none s->wpAny (model prog w) A.in1 (setNext a slot i ep) Q E s)
  (h:∀h',Heap.ExtBut it s.heap h'->Q none { s with heap:=h' }):wpAny (model prog w) A (pyNext (.ref it)) Q E s:=by
 obtain⟨o,ho,hc,hd⟩:=id hit;obtain⟨os,hos,hds,_,hf⟩:=id hs;refine jc hit ?_;unfold Builtin.«set_iterator.__next__»;refine Qb (Qf (Qb (wpAny_fieldsOf ho hd ?_)));dsimp only;refine Qb (wpAny_setEntries_of hos hds hf ?_);rw[QB (by simp)];refine Qb (hw _ _ ?_);dsimp only;refine Qb (wpAny_setField ho hd (by simp) ?_);exact xW hh (XE ..).extBut h
theorem qT {tp:Addr} {pl:List Nat} {p:Nat} {e:Int × Value} (hit:fU s.heap it a (.ref tp) i es.size ep) (hs:eM s.heap a es ep t) (ht:s.heap.get? tp=some { cls:=.type "tuple", data:=.seq (pl.map λ(i:Nat)=>rawInt i).toArray })
  (hp:pl[i]?=some p) (he:es[p]?=some e) (h:∀h',fU h' it a (.ref tp) (i+1) es.size ep->Heap.SameBut it s.heap h'->Q (some e.2) { s with heap:=h' }):wpAny (model prog w) A (pyNext (.ref it)) Q E s:=by
 obtain⟨o,ho,hc,hd⟩:=id hit;obtain⟨os,hos,hds,_,hf⟩:=id hs;refine jc hit ?_;unfold Builtin.«set_iterator.__next__»;refine Qb (Qf (Qb (wpAny_fieldsOf ho hd ?_)));dsimp only;refine Qb (wpAny_setEntries_of hos hds hf ?_);rw[QB (by simp)];refine Qb (wpAny_seqItems ht rfl ?_);dsimp only;rw[show (List.map (λ(i:Nat)=>rawInt (i:Int)) pl).toArray[(i:Int).toNat]?=some (rawInt (p:Int)) by rw[Xw,List.getElem?_toArray,Qh,hp];rfl];dsimp only[rawInt];unfold setNextDrawn;refine Qb (Qb (wpAny_setState_of hos hds hf ?_));dsimp only;rw[QB (by simp),Xw,he];refine Qb (Qf (Qf ?_));refine Qb (wpAny_setField ho hd (by simp) ?_);exact Qf ⟨_,rfl,Qf (h _ ⟨_,XH _ ho (Obj.isFreed_of_fields (XQ hd _)),(Obj.cls_mapFields ..).trans hc,by rw[XQ hd];simp⟩ (XE ..))⟩
theorem qU {tp:Addr} {pl:List Nat} (hh:A.handled=none) (hit:fU s.heap it a (.ref tp) i es.size ep) (hs:eM s.heap a es ep t) (ht:s.heap.get? tp=some { cls:=.type "tuple", data:=.seq (pl.map λ(i:Nat)=>rawInt i).toArray })
  (hp:pl[i]?=none) (h:∀h',Heap.ExtBut it s.heap h'->Q none { s with heap:=h' }):wpAny (model prog w) A (pyNext (.ref it)) Q E s:=by
 obtain⟨o,ho,hc,hd⟩:=id hit;obtain⟨os,hos,hds,_,hf⟩:=id hs;refine jc hit ?_;unfold Builtin.«set_iterator.__next__»;refine Qb (Qf (Qb (wpAny_fieldsOf ho hd ?_)));dsimp only;refine Qb (wpAny_setEntries_of hos hds hf ?_);rw[QB (by simp)];refine Qb (wpAny_seqItems ht rfl ?_);dsimp only;have en:(List.map (λ(i:Nat)=>rawInt (i:Int)) pl).toArray[(i:Int).toNat]?=none:=by rw[Xw,List.getElem?_toArray,Qh,hp,Option.map_none]
 rw[en];dsimp only;refine Qb (wpAny_setField ho hd (by simp) ?_);have h1:=XH (Obj.mapFields (·.setIfInBounds 0 (rawInt 0))) ho (Obj.isFreed_of_fields (XQ hd _));have d1:=XQ hd (·.setIfInBounds 0 (rawInt 0));refine Qb (wpAny_setField h1 d1 (by simp) ?_);have k2:Heap.ExtBut it s.heap ((s.heap.update it (Obj.mapFields (·.setIfInBounds 0 (rawInt 0)))).update it (Obj.mapFields (·.setIfInBounds 2 .none))):=((XE s.heap it _).trans (XE _ it _)).extBut;exact xW (s:=s) (it:=it) (h1:=(s.heap.update it (Obj.mapFields (·.setIfInBounds 0 (rawInt 0)))).update it (Obj.mapFields (·.setIfInBounds 2 .none))) hh k2 h
end
end LS
set_option maxHeartbeats 400000
namespace LS
open PySem PySem.Spec PyProof.Rows
theorem gx {α:Type}:∀{l:List α} {i:Nat} (h:i<l.length),(l[i]::l.eraseIdx i).Perm l
 | a::l,0,_=>.refl _
 | a::l,i+1,h=>by
  have hi:i<l.length:=by simpa using h
  have q:=gx (l:=l) (i:=i) hi;show (l[i]::a::l.eraseIdx i).Perm (a::l);exact(List.Perm.swap _ _ _).trans (q.cons a)
theorem rH {α:Type} (next:Nat->Nat):∀(fuel k:Nat) (left:List α) (out:Array α),left.length=fuel->(pickOrder.go next fuel k left out).toList.Perm (out.toList++left)
 | 0,k,left,out,h=>by
  obtain rfl:left=[]:=Xr.mp h;simp[pickOrder.go]
 | fuel+1,k,left,out,h=>by
  have lt:next k % left.length<left.length:=Nat.mod_lt _ (by omega);have e:left[next k % left.length]?=some left[next k % left.length]:=Qc lt;unfold pickOrder.go;rw[e];refine(rH next fuel (k+1) _ _ (by rw[List.length_eraseIdx_of_lt lt];omega)).trans ?_;rw[Array.toList_push,Xb];exact List.Perm.append_left _ (gx lt)
theorem iu {α:Type} (next:Nat->Nat) (xs:Array α):(pickOrder next xs).toList.Perm xs.toList:=by
 have:=rH next xs.size 0 xs.toList #[] (by simp);unfold pickOrder;simpa using this
section
variable {prog:Program} {w:World} {A:Around} {E:Value->Shared->Prop} {s:Shared} {a it:Addr} {es:Array (Int × Value)} {ep:Nat} {t:SetTable} {i:Nat}
theorem mn {src:Source} {n:Nat} {Q:Nat->Shared->Prop} (hn:n≠0) (h:∀i d,i<n->Q i { s with drawn:=d }):wpAny (model prog w) A (choose src n) Q E s:=λΓ p hΓ=>by
 show Sem.wp (model prog w) Γ (.choose src n .pure) _ _ p s;rw[Sem.wp_choose];refine⟨hn,?_⟩;rw[Sem.wp_pure];exact h _ _ (Nat.mod_lt _ (Nat.pos_of_ne_zero hn))
theorem fk {α:Type}:∀(n:Nat) (xs:List α) (s:Shared) (Q:List α->Shared->Prop),xs.length=n->(∀ys d,ys.Perm xs->Q ys { s with drawn:=d })->wpAny (model prog w) A (drawOrder n xs) Q E s
 | 0,xs,s,Q,h,q=>by
  obtain rfl:xs=[]:=Xr.mp h;exact Qf (q [] s.drawn .nil)
 | n+1,[],s,Q,h,q=>by cases h
 | n+1,x::xs,s,Q,h,q=>by
  unfold drawOrder;refine Qb (mn (by simp) λi d hi=>?_);rw[Qc hi];dsimp only;refine Qb (fk n _ _ _ (by rw[List.length_eraseIdx_of_lt hi];simp at h ⊢;omega) λys d2 pm=>Qf (q _ d2 ?_));exact(List.Perm.cons _ pm).trans (gx hi)
variable {Q:Option (Value × Nat)->Shared->Prop}
theorem lK {slot:Nat} (ht:w.params.followText "set-order" = true) (hs:eM s.heap a es ep t) (h:Q (((pickOrder (w.params.setOrder a ep) es)[i]?).map λe=>(e.2,slot)) s):wpAny (model prog w) A (setNext a slot i ep) Q E s:=by
 obtain⟨os,hos,hds,_,hf⟩:=id hs;unfold setNext setsByText;refine Qb (wpAny_setState_of hos hds hf ?_);dsimp only;refine Qb (Qb (wpAny_askSetting (Qf ?_)));rw[QF (show (Setting.params ⟨(model prog w).prog,(model prog w).w.params⟩).followText "set-order" = true from ht),QB (by simp)];unfold setWalk setsByText;refine Qb (Qb (wpAny_setState_of hos hds hf ?_));dsimp only;refine Qb (Qb (wpAny_askSetting (Qf ?_)));rw[QF (show (Setting.params ⟨(model prog w).prog,(model prog w).w.params⟩).followText "set-order" = true from ht)];refine Qb (wpAny_askSetting (Qf ?_));exact Qf h
theorem o0 {slot:Nat} (ht:w.params.followText "set-order" = false) (hs:eM s.heap a es ep t) (h1:es.size<=1) (hl:t.led=true)
  (h:Q (match es[SetTable.below t.place slot]?,t.place[SetTable.below t.place slot]? with|some (_,x),some j=>some (x,j+1)|_,_=>none) s):wpAny (model prog w) A (setNext a slot i ep) Q E s:=by
 obtain⟨os,hos,hds,_,hf⟩:=id hs;unfold setNext setsByText;refine Qb (wpAny_setState_of hos hds hf ?_);dsimp only;refine Qb (Qb (wpAny_askSetting (Qf ?_)));rw[QB (show ¬(Setting.params ⟨(model prog w).prog,(model prog w).w.params⟩).followText "set-order" = true by rw[show (Setting.params ⟨(model prog w).prog,(model prog w).w.params⟩).followText "set-order" = false from ht];exact Qn)];refine wpAny_ite_split (λhab=>?_) λ_=>?_
 ·have hab:(!t.plain&&decide (es.size>1))=true:=hab;simp at hab;omega
 refine Qb ?_;show wpAny _ _ (if (!t.led&&!es.isEmpty)=true then unsupported "set:maker-not-led" else pure ()) _ _ _;rw[QB (by rw[hl];simp)];exact Qf (Qf h)
theorem pP (hh:A.handled=none) (ht:w.params.followText "set-order" = true) (I:Addr) (ne:a≠I):Walks prog w A I [I,a] [I] es.size (λi v=>∃e,(pickOrder (w.params.setOrder a ep) es).toList[i]?=some e/\v=e.2) (λi h=>fU h I a (.int 0 0) i es.size ep/\eM h a es ep t) where
 sub:=λb hb=>by simp at hb;simp[hb]
 frame:=λ_ _ _ st hk=>⟨st.1.at λo e=>hk I (by simp) o e,st.2.at λo e=>hk a (by simp) o e⟩
 item:=λi s Q E hi st hQ=>by
  have z:(pickOrder (w.params.setOrder a ep) es).size=es.size:=by simpa using(iu (w.params.setOrder a ep) es).length_eq
  obtain⟨e,he⟩:∃e,(pickOrder (w.params.setOrder a ep) es)[i]?=some e:=⟨_,Q6 (by rw[z];exact hi)⟩;refine lL (slot:=0) (next:=0) (x:=e.2) st.1 st.2 (λQ E q=>lK ht st.2 (by rw[he];exact q)) λh' hit' hs'=>?_;exact hQ _ h' s.toks ⟨e,by rw[Qy];exact he,rfl⟩ ⟨hit',st.2.at λo e=>hs'.extBut a o ne e⟩ λb o hb e=>hs'.extBut b o (λh=>hb (by simp[h])) e
 done:=λs Q E st hQ=>by
  have z:(pickOrder (w.params.setOrder a ep) es).size=es.size:=by simpa using(iu (w.params.setOrder a ep) es).length_eq
  exact lM (slot:=0) hh st.1 st.2 (λQ E q=>lK ht st.2 (by rw[Array.getElem?_eq_none (by rw[z];exact Qg _)];exact q)) λh' he'=>hQ h' s.toks λb o hb e=>he' b o (λh=>hb (by simp[h])) e
 self:=λ_ _ _ _ st hQ=>nw st.1 hQ
theorem oa (hh:A.handled=none) (I tp:Addr) (pl:List Nat) (hp:pl.Perm (List.range es.size)) (ne:a≠I) (nt:tp≠I):Walks prog w A I [I,a,tp] [I] es.size (λi v=>∃e,(pl.filterMap λj=>es[j]?)[i]?=some e/\v=e.2)
  (λi h=>fU h I a (.ref tp) i es.size ep/\eM h a es ep t/\h.get? tp=some { cls:=.type "tuple", data:=.seq (pl.map λ(i:Nat)=>rawInt i).toArray }) where
 sub:=λb hb=>by simp at hb;simp[hb]
 frame:=λ_ _ _ st hk=>⟨st.1.at λo e=>hk I (by simp) o e,st.2.1.at λo e=>hk a (by simp) o e,hk tp (by simp) _ st.2.2⟩
 item:=λi s Q E hi st hQ=>by
  have pz:pl.length=es.size:=by simpa using hp.length_eq
  have lt:i<pl.length:=by omega
  have all:∀j∈pl,∃e,es[j]?=some e:=λj hj=>⟨_,Q6 (by simpa using hp.mem_iff.mp hj)⟩;obtain⟨e,he⟩:=all pl[i] (Xq lt)
  have fm:∀(l:List Nat) (i:Nat) (h:i<l.length),(∀j∈l,∃e,es[j]?=some e)->(l.filterMap λj=>es[j]?)[i]?=es[l[i]]?:=by
   intro l
   induction l with
   | nil=>intro i h;simp at h
   | cons x l ih =>
   intro i h al;obtain⟨e,he⟩:=al x Xj;rw[List.filterMap_cons_some he]
   cases i with
   | zero=>rw[List.getElem?_cons_zero];exact he.symm
   | succ i=>rw[List.getElem?_cons_succ];exact ih i (by simpa using h) λj hj=>al j (Qw _ hj)
  refine qT (p:=pl[i]) st.1 st.2.1 st.2.2 (Qc lt) he λh' hit' hs'=>?_;exact hQ _ h' s.toks ⟨e,by rw[fm pl i lt all];exact he,rfl⟩ ⟨hit',st.2.1.at λo e=>hs'.extBut a o ne e,hs'.extBut tp _ nt st.2.2⟩ λb o hb e=>hs'.extBut b o (λh=>hb (by simp[h])) e
 done:=λs Q E st hQ=>by
  have pz:pl.length=es.size:=by simpa using hp.length_eq
  exact qU hh st.1 st.2.1 st.2.2 (Xc (by omega)) λh' he'=>hQ h' s.toks λb o hb e=>he' b o (λh=>hb (by simp[h])) e
 self:=λ_ _ _ _ st hQ=>nw st.1 hQ
theorem mf (j k:Nat):SetTable.below #[j] k=if j<k then 1 else 0:=by
 unfold SetTable.below;simp[SetTable.below.go]
theorem sJ (hh:A.handled=none) (ht:w.params.followText "set-order" = false) (h1:es.size<=1) (hl:t.led=true) (I:Addr) (ne:a≠I):Walks prog w A I [I,a] [I] es.size (λi v=>∃e,es.toList[i]?=some e/\v=e.2)
  (λi h=>(∃slot:Nat,fU h I a (.int slot 0) i es.size ep/\(i=0->slot=0)/\(i=1->∃j,t.place=#[j]/\slot=j+1))/\eM h a es ep t) where
 sub:=λb hb=>by simp at hb;simp[hb]
 frame:=λ_ _ _ st hk=>let ⟨⟨sl,x,y⟩,z⟩:=st;⟨⟨sl,x.at λo e=>hk I (by simp) o e,y⟩,z.at λo e=>hk a (by simp) o e⟩
 item:=λi s Q E hi st hQ=>by
  obtain⟨⟨sl,x,y,_⟩,z⟩:=st;obtain rfl:i=0:=by omega
  obtain rfl:=y rfl;have e1:es.size=1:=by omega
  obtain⟨os,hos,hds,_,hf⟩:=id z;have pz:t.place.size=1:=by simp[SetTable.fits]at hf;omega
  obtain⟨j,hj⟩:=Array.size_eq_one_iff.mp pz;obtain⟨e,he⟩:=Array.size_eq_one_iff.mp e1;refine lL (slot:=0) (next:=j+1) (x:=e.2) x z (λQ E q=>o0 ht z h1 hl (by rw[hj,mf];simp[he];exact q)) λh' hit' hs'=>?_;exact hQ _ h' s.toks ⟨e,by rw[he];rfl,rfl⟩ ⟨⟨j+1,hit',λq=>by omega,λ_=>⟨j,hj,rfl⟩⟩,z.at λo e=>hs'.extBut a o ne e⟩ λb o hb e=>hs'.extBut b o (λh=>hb (by simp[h])) e
 done:=λs Q E st hQ=>by
  obtain⟨⟨sl,x,y1,y2⟩,z⟩:=st;refine lM hh x z (λQ E q=>o0 ht z h1 hl ?_) λh' he'=>hQ h' s.toks λb o hb e=>he' b o (λh=>hb (by simp[h])) e;by_cases e1:es.size=1
  ·obtain⟨j,hj,rfl⟩:=y2 e1;rw[hj,mf];simpa[e1] using q
  have e0:es=#[]:=by simpa using(show es.size=0 by omega)
  subst e0;simpa using q
 self:=λ_ _ _ _ st hQ=>nw st.1.choose_spec.1 hQ
end
end LS
set_option maxHeartbeats 4000000
namespace LS
open PySem PySem.Spec PyProof.Rows
def met (g:Nat->Str):Nat->List Str
 | 0=>[]
 | i+1=>if g i∈met g i then met g i else met g i++[g i]
theorem vG (g:Nat->Str):∀i,(met g i).length<=i
 | 0=>Qg _
 | i+1=>by
  have q:=vG g i;show (if g i∈met g i then met g i else met g i++[g i]).length<=i+1
  split
  ·omega
  simp;omega
theorem nk (g:Nat->Str) (x:Str):∀i,x∈met g i↔∃j,j<i/\g j=x
 | 0=>by simp[met]
 | i+1=>by
  have q:=nk g x i
  have e:x∈met g (i+1)↔x∈met g i\/x=g i:=by
   show x∈(if g i∈met g i then met g i else met g i++[g i])↔_;by_cases h:g i∈met g i
   ·rw[QF h];exact⟨.inl,λz=>z.elim id λz=>z▸h⟩
   rw[QB h];simp
  rw[e,q]
  constructor
  ·rintro(⟨j,a,b⟩|a)
   ·exact⟨j,by omega,b⟩
   exact⟨i,by omega,a.symm⟩
  rintro⟨j,a,b⟩;rcases Nat.lt_succ_iff_lt_or_eq.mp a with c|c
  ·exact .inl ⟨j,c,b⟩
  subst c;exact .inr b.symm
section
variable {prog:Program} {w:World} {A:Around} {R:Result->Shared->Prop} {I S:Addr} {fp wr:List Addr} {G:Array GenState->Array GenState->Prop} {n:Nat} {P:Nat->Value->Prop} {St:Nat->Shared->Prop}
abbrev iV (prog:Program) (w:World) (h:Heap) (S:Addr) (g:Nat->Str) (i:Nat):Prop:=cJ prog w h S (λx=>decide (x∈met g i)) (met g i).length
theorem iV.at {h h':Heap} {g:Nat->Str} {i:Nat} (q:iV prog w h S g i) (k:∀o,h.get? S=some o->h'.get? S=some o):iV prog w h' S g i:=by
 obtain⟨o,es,ep,t,e,r⟩:=q;exact⟨o,es,ep,t,k _ e,r⟩
theorem uE (W:WalksS prog w A.in1 I fp wr G n P St) (nS:S∉fp) (g:Nat->Str) (hg:∀i v,P i v->∃t,v=.str (g i) t) (hb:∀i,i<n->(met g i).length+1<scanBound) :
  ∀(m i:Nat) (s:Shared),n-i=m->i<=n->St i s->iV prog w s.heap S g i->(∀s',Moved (S::wr) G s s'->iV prog w s'.heap S g n->R (.ok (.ret .none)) s') ->
   codeAny (model prog w) A (.builtin "set.update.loop" ⟨[.ref S,.ref I],[]⟩) R s:=by
 have nW:S∉wr:=λz=>nS (W.sub _ z);have more:∀b∈wr,b∈S::wr:=λb z=>Qw _ z;intro m
 induction m with
 | zero =>
  intro i s em hi st q fin;obtain rfl:i=n:=by omega
  refine Xp F.entry_set_update_loop ?_;rw[Xh F.plain_set_update_loop _];show wpAny _ A.in1 (pyNext (.ref I) >>= _) _ _ s;exact Qb (W.done s _ _ st λs1 mv=>Qf (fin s1 (mv.mono more) (q.at λo e=>mv.heap S _ nW e)))
 | succ m ih =>
 intro i s em hi st q fin;have lt:i<n:=by omega
 refine Xp F.entry_set_update_loop ?_;rw[Xh F.plain_set_update_loop _];show wpAny _ A.in1 (pyNext (.ref I) >>= _) _ _ s;refine Qb (W.item i s _ _ lt st λv s1 hP st1 mv=>?_);obtain⟨t,rfl⟩:=hg i v hP;have q1:=q.at λo e=>mv.heap S _ nW e;show wpAny _ A.in1 (holding [Value.str (g i) t] (setAdd S (.str (g i) t)) >>= _) _ _ s1;refine Qb (Q3 ?_);unfold setAdd;refine Q3 (Qb ((strKind prog w).pyHash (k:=g i) (strKind_is _ _ _ _) ?_));have room:=hb i lt;refine xI (s:={ s1 with toks:=s1.toks+1 }) q1 room λh2 _ sb q2=>?_
 have q3:iV prog w h2 S g (i+1):=by
  refine cJ.congr q2 (λx=>?_) ?_
  ·show (decide (x∈met g i) || decide (x=g i))=decide (x∈(if g i∈met g i then met g i else met g i++[g i]));by_cases z:g i∈met g i
   ·rw[QF z];by_cases y:x=g i
    ·subst y;simp[z]
    simp[y]
   rw[QB z];simp
  show (if decide (g i∈met g i)=true then _ else _)=(if g i∈met g i then met g i else met g i++[g i]).length;by_cases z:g i∈met g i
  ·simp[z]
  simp[z]
 refine Qf ⟨plainId_quiet F.plain_set_update_loop _,ih (i+1) _ (by omega) lt (W.frame _ s1 _ _ st1 (Nat.le_succ _) λb z o e=>?_) q3 λs3 mv3 q4=>?_⟩
 ·rw[sb.2 b (λy:b=S=>nS (by rw[<-y];exact z))];exact e
 refine fin s3 (Moved.trans W.gtrans ((mv.mono more).then_heap (Nat.le_succ _) λb o z e=>?_) mv3) q4;rw[sb.2 b (λy:b=S=>z (by rw[y];exact Xj))];exact e
end
section
variable {prog:Program} {w:World} {A:Around} {E:Value->Shared->Prop} {s:Shared}
theorem nE {l:Addr} {its:Array Value} {g:Nat->Str} {Q:Value->Shared->Prop} (hh:A.handled=none) (hl:s.heap.IsList l its) (hi:∀(i:Nat) (v:Value),its[i]?=some v->∃t,v=.str (g i) t) (hb:∀i,i<its.size->(met g i).length+1<scanBound)
  (h:∀(h1:Heap) (tk:Nat),iV prog w h1 s.heap.objs.size g its.size->(∀b o,s.heap.get? b=some o->h1.get? b=some o)->Q (.ref s.heap.objs.size) { s with heap:=h1,toks:=tk }) :
  wpAny (model prog w) A (call (.type "set") [.ref l]) Q E s:=by
 obtain⟨cl,tl,mro⟩:=F.called_set.mro;have y1:=F.called_set.made;have y2:=F.called_set.sub;refine wpAny_call (codeAny_of_tree ?_);show wpAny _ _ (callAny (.type "set") ⟨[.ref l],[]⟩) _ _ _;refine Qf ⟨Code.quiet_builtin _ (by decide +kernel),Xp F.entry_type_call ?_⟩;rw[Around.under_plain (weight_type_call_type "set" [.ref l] []) rfl];have y3:=F.called_set.notType;have y4:=F.called_set.canCreate;have y5:=F.typeCall_set_1 (.ref l)
 repeat (any_goals (first|assumption|wp_step))
 refine codeAny_mono (wn (.ref l) (E:=E) (Q₁:=λv s1=>∃led:Bool,led=!(w.params.followText "set-order")/\v=.ref s.heap.objs.size/\s1={ s with heap:=s.heap.push (bare led) }) ⟨_,rfl,rfl,rfl⟩) λr s1 hr=>?_
 cases r with
 | error e=>exact hr
 | ok fl =>
 cases fl with
 | ret obj =>
  obtain⟨led,hled,rfl,rfl⟩:=hr;have hS:(s.heap.push (bare led)).get? s.heap.objs.size=some (bare led):=Qp _ rfl;have hT:Shared.TypeIs { s with heap:=s.heap.push (bare led) } (.ref s.heap.objs.size) "set" := ⟨_,hS,rfl⟩;have y6:=F.called_set.init.lookup;have y7:=F.called_set.init.bind (.ref s.heap.objs.size)
  repeat (any_goals (first|assumption|wp_step))
  refine codeAny_mono (codeAny_call_builtin (R:=wants (λv s2=>v=.none/\∃h1 tk,s2={ s with heap:=h1,toks:=tk }/\iV prog w h1 s.heap.objs.size g its.size/\∀b o,s.heap.get? b=some o->h1.get? b=some o) E) F.called_set.init.plain F.entry_set_init (check_set_init_1 hT ?_)) λr2 s2 hr2=>?_
  ·obtain⟨ol,hol,hcl,nl,hdl⟩:=hl;obtain⟨ocls,odict,odata,oslots⟩:=ol;simp only at hcl hdl;subst hcl;subst hdl;have hol1:(s.heap.push (bare led)).get? l=some { cls:=.type "list", dict:=odict,data:=.seq its nl,slots:=oslots }:=Qd _ hol;have y8:=F.sub_list_set;have y9:=F.sub_list_frozenset;have y0:(Value.type "list" == Value.type "dict")=false:=by decide
   have hl1:(s.heap.push (bare led)).IsList l its:=⟨_,hol1,rfl,nl,rfl⟩;unfold Builtin.«set.__init__» noKeywords Builtin.Frozenset.updateFrom;generalize hPI:pyIter=PI
   wp_walk
   subst hPI;refine wpAny_pyIter_list hl1 ?_;refine Qb (wpAny_runValue ?_);have lS:l<s.heap.objs.size:=Qm hol
   have nI:l≠(s.heap.push (bare led)).objs.size:=by
    rw[Xd];exact Qz (Nat.lt_succ_of_lt lS)
   have nF:s.heap.objs.size∉[(s.heap.push (bare led)).objs.size,l]:=by
    rw[Xd];simp only[QV,QA,List.not_mem_nil,or_false,not_or];exact⟨Qz (Nat.lt_succ_self _),Nat.ne_of_gt lS⟩
   refine uE ((Walks.list (show A.in1.in1.in1.handled=none by simp[hh]) _ l nI its).toS) nF g hi hb (its.size-0) 0 _ (by omega) (QN _) ⟨⟨_,Qp _ rfl,rfl,rfl⟩,(hl1.push _)⟩ ?_ λs3 mv q=>?_
   ·have e:((s.heap.push (bare led)).push { cls:=.type "list_iterator", data:=.fields #[.ref l,.int 0 0] }).get? s.heap.objs.size=some (bare led):=Qd _ hS;exact cJ.congr (cJ.bare (by rw[e,hled])) (λ_=>by simp[met]) rfl
   obtain⟨h3,g3,d3,tk3,os3⟩:=s3;obtain rfl:g3=s.gens:=mv.gens;obtain rfl:d3=s.drawn:=mv.drawn;obtain rfl:os3=s.os:=mv.os;show wpAny _ _ _ _ _ _;refine Qf ?_;show wpAny _ _ (ret Value.none) _ _ _;refine Qf ⟨rfl,h3,tk3,rfl,q,λb o e=>?_⟩;have lb:=Qm e;have z1:b≠s.heap.objs.size:=Qz lb
   have z2:b≠(s.heap.push (bare led)).objs.size:=by
    rw[Xd];exact Qz (Nat.lt_succ_of_lt lb)
   exact mv.heap b o (by simp only[QV,QA,List.not_mem_nil,or_false,not_or];exact⟨z1,z2⟩) (Qd _ (Qd _ e))
  cases r2 with
  | error e=>exact hr2
  | ok fl2 =>
  cases fl2 with
  | ret r =>
   obtain⟨rfl,h1,tk,rfl,q,k⟩:=hr2
   repeat (any_goals (first|assumption|wp_step))
   exact h _ _ q k
  | _=>exact hr2.elim
 | _=>exact hr.elim
end
end LS
namespace L2
open PySem PySem.Spec PyProof.Rows
def uniq (ts:List Str):Nat:=(LS.met (λi=>ts.getD i Str.empty) ts.length).length
section
variable {X:Cx} {a:Expr} {ta:TA} {p p1 pos pos1:Pos}
end
end L2
namespace LS
open PySem
end LS
namespace L2
open PySem
end L2
set_option maxHeartbeats 400000
namespace LS
open PySem PySem.Spec PyProof.Rows PySem.Calls
theorem uz {prog:Program} {w:World} {k:Str} {v:Value} (h:(PySem.strKind prog w).is k v=true):∃t,v=.str k t:=by
 cases v <;> simp[PySem.strKind,Value.isStrOf]at h;exact⟨_,by rw[h]⟩
section
variable {prog:Program} {w:World} {A:Around} {E:Value->Shared->Prop} {s:Shared} {a:Addr} {S:Str->Bool} {n:Nat}
structure Ord (S:Str->Bool) (n:Nat) (od:List (Int × Value)):Prop where
 len:od.length=n
 txt:∀e∈od,∃x t,e.2=.str x t
 mem:∀x,S x=true↔∃e∈od,∃t,e.2=.str x t
variable {Q:Value->Shared->Prop}
theorem uF (hh:A.handled=none) (q:cJ prog w s.heap a S n)
  (h:∀h' d I od fp St,Ord S n od->(∀b o,s.heap.get? b=some o->h'.get? b=some o)->s.heap.objs.size<=I->(∀b∈fp,b=a\/s.heap.objs.size<=b)->Walks prog w A I fp [I] n (λi v=>∃e,od[i]?=some e/\v=e.2) St->St 0 h'->Q (.ref I) { s with heap:=h',drawn:=d }) :
  wpAny (model prog w) A (pyIter (.ref a)) Q E s:=by
 obtain⟨o,es,ep,t,ho,hex,hd,hel,hm,hb,hf,hn,hl⟩:=q;have hT:s.TypeIs (.ref a) "set" := ⟨o,ho,hex.1⟩
 have od:∀l:List (Int × Value),l.Perm es.toList->Ord S n l:=λl p=>⟨by rw[p.length_eq,Qo];exact hn,λe he=>by
   obtain⟨⟨k,hk,_⟩,_⟩:=hel e (p.mem_iff.mp he);obtain⟨t,ht⟩:=uz hk
   exact⟨k,t,ht⟩,λx=>(hm x).trans ⟨λ⟨e,he,z⟩=>⟨e,p.mem_iff.mpr he,uz z⟩,λ⟨e,he,t,z⟩=>⟨e,p.mem_iff.mp he,by rw[z];exact strKind_is _ _ _ _⟩⟩⟩
 have hlt:=Qm ho;subst hn;refine wpAny_pyIter_slot hT F.slot_set_iter (XD F.slot_set_iter hT kj ?_ (F.args_set_iter_1 _));unfold Builtin.«frozenset.__iter__» Builtin.Frozenset.slot0 slotArgs;simp only[List.isEmpty_nil,Bool.not_true,QT,↓reduceIte,bind_assoc,List.length_nil,bne_self_eq_false];unfold Builtin.Frozenset.addrOf Builtin.Frozenset.sizeOf;refine Qb (Qf ?_)
 try dsimp only
 refine Qb (Qf ?_);refine Qb (Qb (wpAny_setEntries_of ho hd hf (Qf ?_)));unfold setDrawn setsByText;refine Qb (Qb (wpAny_setState_of ho hd hf ?_));dsimp only;refine Qb (Qb (wpAny_askSetting (Qf ?_)));show wpAny _ _ (pure (!(w.params.followText "set-order")&&(!t.plain&&decide (es.size>1)))) _ _ _;refine Qf ?_;have hs0:eM s.heap a es ep t:=⟨o,ho,hd,hex.1,hf⟩
 have plainway:∀(oI:Obj),oI={ cls:=.type "set_iterator", data:=.fields #[.int 0 0,.int 0 0,.ref a,.int es.size 0,.int ep 0] }->fU (s.heap.push oI) s.heap.objs.size a (.int ((0:Nat):Int) 0) 0 es.size ep/\eM (s.heap.push oI) a es ep t:=λoI e=>by
  subst e;exact⟨⟨_,Qp _ rfl,rfl,rfl⟩,hs0.at λo e=>Qd _ e⟩
 refine wpAny_ite_split (λhab=>?_) λhab=>?_
 ·simp only[Xl,Bool.not_eq_true',decide_eq_true_eq]at hab;refine Qb (fk es.size (List.range es.size) s _ (by simp) λpl d pm=>?_);refine Qb (wpAny_newTuple ?_ (by rw[Qa,pm.length_eq,List.length_range];exact fits_of_scanBound hb));unfold setEpoch;have ho1:(s.heap.push { cls:=.type "tuple", data:=.seq (pl.map λ(i:Nat)=>rawInt i).toArray }).get? a=some o:=Qd _ ho;refine Qb (Qb (wpAny_setState_of (s:={ s with heap:=s.heap.push { cls:=.type "tuple", data:=.seq (pl.map λ(i:Nat)=>rawInt i).toArray },drawn:=d }) ho1 hd hf (Qf ?_)));unfold newFields;refine Qb (wpAny_newObj_type ?_ (by size_fits));refine Qf ⟨_,rfl, "set_iterator", _,⟨_,Qp _ rfl,rfl⟩,c7.lookup,?_⟩;have ne:a≠(s.heap.push { cls:=.type "tuple", data:=.seq (pl.map λ(i:Nat)=>rawInt i).toArray }).objs.size:=by rw[Xd];exact Qz (Nat.lt_succ_of_lt hlt)
  have nt:s.heap.objs.size≠(s.heap.push { cls:=.type "tuple", data:=.seq (pl.map λ(i:Nat)=>rawInt i).toArray }).objs.size:=by rw[Xd];exact Qz (Nat.lt_succ_self _)
  refine h _ _ _ (pl.filterMap λj=>es[j]?) _ _ (od _ ((pm.filterMap _).trans (by rw[filterMap_getElem?_range]))) (λb o e=>Qd _ (Qd _ e)) (by rw[Xd];exact Nat.le_succ _) (λb hb=>?_) (oa (ep:=ep) (t:=t) hh _ _ pl pm ne nt) ?_
  ·simp only[QV,List.not_mem_nil,or_false]at hb;rcases hb with rfl|rfl|rfl
   ·exact .inr (by rw[Xd];exact Nat.le_succ _)
   ·exact .inl rfl
   exact .inr (Qg _)
  exact⟨⟨_,Qp _ rfl,rfl,rfl⟩,hs0.at λo e=>Qd _ (Qd _ e),Qd _ (Qp _ rfl)⟩
 refine Qb (Qf ?_);unfold setEpoch;refine Qb (Qb (wpAny_setState_of ho hd hf (Qf ?_)));unfold newFields;refine Qb (wpAny_newObj_type ?_ (by size_fits));refine Qf ⟨_,rfl, "set_iterator", _,⟨_,Qp _ rfl,rfl⟩,c7.lookup,?_⟩;obtain⟨i0,s0⟩:=plainway _ rfl;have ne:a≠s.heap.objs.size:=Qz hlt
 have fpok:∀b∈[s.heap.objs.size,a],b=a\/s.heap.objs.size<=b:=λb hb=>by
  simp only[QV,List.not_mem_nil,or_false]at hb;rcases hb with rfl|rfl
  ·exact .inr (Qg _)
  exact .inl rfl
 cases ht:w.params.followText "set-order" with
 | true=>exact h _ s.drawn _ _ _ _ (od _ (iu (w.params.setOrder a ep) es)) (λb o e=>Qd _ e) (Qg _) fpok (pP (ep:=ep) (t:=t) hh ht _ ne) ⟨i0,s0⟩
 | false =>
 rcases hl with z|⟨z1,z2⟩
 ·rw[ht]at z;cases z
 have h1:es.size<=1:=by
  rw[ht]at hab;by_cases e0:es.size=0
  ·omega
  rw[z2 e0]at hab;simp at hab;omega
 exact h _ s.drawn _ _ _ _ (od _ (.refl _)) (λb o e=>Qd _ e) (Qg _) fpok (sJ (ep:=ep) hh ht h1 z1 _ ne) ⟨⟨0,i0,λ_=>rfl,λz=>by cases z⟩,s0⟩
theorem vU {r:Addr} {Q:Bool->Shared->Prop} (hT:s.TypeIs (.ref r) "set") (h:Q false s):wpAny (model prog w) A (Builtin.List.listLengthHint (.ref r)) Q E s:=by
 unfold Builtin.List.listLengthHint;refine Qb (wpAny_specialOf hT PySem.F.slot_set_len.lookup ?_);generalize hid:("set.__len__" : String)=id0
 wp_delta
 rw[show splitId id0=some ("set", "__len__") from by subst hid;decide +kernel];subst hid;refine Qb (wpAny_isInstance (T := "set") (b:=true) hT (by rw[isSubtype_type];kernel_rfl) ?_);refine wpAny_ite_split (λhab=>absurd hab (by decide)) (λ_=>?_);refine wpAny_ite_split (λ_=>?_) (λhab=>absurd (by decide +kernel) hab);refine Qb (wpAny_typeOf hT ?_);exact Qf h
theorem pI {R:List Value->Shared->Prop} (hh:A.handled=none) (q:cJ prog w s.heap a S n)
  (h:∀g tk d od,Ord S n od->(∀b o,s.heap.get? b=some o->g.get? b=some o)->s.heap.objs.size<=g.objs.size->R (od.map (·.2)) { s with heap:=g,toks:=tk,drawn:=d }):wpAny (model prog w) A (collect (.ref a)) R E s:=by
 obtain⟨o,es,ep,t,ho,hex,hd,hel,hm,hb,hf,hn,hl⟩:=id q;have hlt:=Qm ho;have nz:n<=sizeLine:=fits_of_scanBound (by rw[<-hn];exact hb);unfold collect;refine Qb (wpAny_runValue (Xp entry_proto_collect' ?_));rw[Xh PySem.F.plain_proto_collect _];refine Qb (wpAny_newObj_type (Qf ⟨plainId_quiet PySem.F.plain_list_iadd _,Xp entry_list_iadd' ?_⟩));rw[Xh PySem.F.plain_list_iadd _];show wpAny _ _ (Builtin.List.listExtendWith (.ref s.heap.objs.size) (.ref a) (.ref s.heap.objs.size)) _ _ { s with heap:=s.heap.push { cls:=.type "list", data:=.seq ([]:List Value).toArray } };generalize hL:({ cls:=.type "list", data:=.seq ([]:List Value).toArray }:Obj)=L;have ho1:(s.heap.push L).get? a=some o:=Qd _ ho;have q1:cJ prog w (s.heap.push L) a S n:=⟨o,es,ep,t,ho1,hex,hd,hel,hm,hb,hf,hn,hl⟩;have hS:(s.heap.push L).get? s.heap.objs.size=some L:=Qp _ (by rw[<-hL];rfl);have nS:s.heap.objs.size≠a:=Nat.ne_of_gt hlt;unfold Builtin.List.listExtendWith;refine Qb (wpAny_typeOf (T := "set") (s:={ s with heap:=s.heap.push L }) ⟨o,ho1,hex.1⟩ ?_);have h1:Builtin.List.listSameRef (.ref s.heap.objs.size) (.ref a)=false:=by simp[Builtin.List.listSameRef,nS]
 have h2:(Value.type "set" == Value.type "list")=false:=by decide
 have h3:(Value.type "set" == Value.type "tuple")=false:=by decide
 simp only[h1,h2,h3,Bool.or_false,QT,if_false];refine Qb (uF (A:=A.in1) (s:={ s with heap:=s.heap.push L }) hh q1 λh' d I od fp St om k hI hfp W st=>?_);have k':∀b o,s.heap.get? b=some o->h'.get? b=some o:=λb o e=>k b o (Qd _ e);have szL:(s.heap.push L).objs.size=s.heap.objs.size+1:=Xd ..;have nI:s.heap.objs.size≠I:=by have:=hI;simp only[szL]at this;omega
 have hI':s.heap.objs.size<=I:=by simp only[szL]at hI;omega
 have nF:s.heap.objs.size∉fp:=λz=>by
  rcases hfp _ z with y|y
  ·exact nS y
  simp only[szL]at y;omega
 have hS1:h'.get? s.heap.objs.size=some L:=k _ _ hS;refine Qb (Q3 (vU (s:={ s with heap:=h',drawn:=d }) ⟨o,k' a o ho,hex.1⟩ ?_))
 have key:∀(g:Heap) (c₁ tk:Nat),St 0 g->(∀b o,b≠s.heap.objs.size->h'.get? b=some o->g.get? b=some o)->g.get? s.heap.objs.size=some { cls:=.type "list", data:=.seq #[] c₁ } ->
   codeAny (model prog w) A (.builtin "list.extend.loop" ⟨[.ref s.heap.objs.size,.ref I,.ref s.heap.objs.size],[]⟩) (λr s'=>∃(g:Heap) (tk:Nat) (acc:Array Value) (c:Nat),r=.ok (.ret (.ref s.heap.objs.size))/\s'={ s with heap:=g,toks:=tk,drawn:=d } /\
   (∀b o,s.heap.get? b=some o->g.get? b=some o)/\g.get? s.heap.objs.size=some { cls:=.type "list", dict:=none,data:=.seq acc c,slots:=#[] }/\PySem.ItemsOf (λi v=>∃e,od[i]?=some e/\v=e.2) acc n) { s with heap:=g,toks:=tk,drawn:=d }:=by
  intro g c₁ tk hst hk hS₁;refine codeAny_extend_loopS W.toS nz _ nF _ n 0 _ #[] c₁ rfl (QN _) hst hS₁ (ItemsOf.nil _) λs' acc' c' hm hS' hacc=>?_;rw[Moved.eq_with hm];refine⟨s'.heap,s'.toks,acc',c',rfl,rfl,λb o e=>hm.heap b o (λhmem=>?_) (hk b o (Qz (Qm e)) (k' b o e)),hS',hacc⟩;rcases QV.mp hmem with e'|hmem
  ·exact absurd (Qm e) (by rw[e'];exact Nat.lt_irrefl _)
  exact absurd (Qm e) (by rw[QA.mp hmem];exact Nat.not_lt.mpr hI')
 have all:∀(acc:Array Value),PySem.ItemsOf (λi v=>∃e,od[i]?=some e/\v=e.2) acc n->acc.toList=od.map (·.2):=λacc ⟨z1,z2⟩=>by
  refine List.ext_getElem? λi=>?_;rw[Qy,Qh];by_cases hi:i<n
  ·obtain⟨e,e1,e2⟩:=z2 i acc[i] (Q6 (by omega));rw[Q6 (by omega),e1,e2];rfl
  rw[Array.getElem?_eq_none (by omega),Xc (by rw[om.len];omega)];rfl
 subst hL;refine wpAny_ite_split (λ_=>?_) (λ_=>Qf ⟨plainId_quiet PySem.F.plain_extend_loop _,codeAny_mono (key h' 0 s.toks st (λb o _ e=>e) hS1) λr s' y=>?_⟩)
 ·refine Qb (XO ?_);refine Qb ?_;show wpAny _ _ (updateSeq s.heap.objs.size (·.push .none) >>= λ_=>updateSeq s.heap.objs.size (·.pop)) _ _ _;refine Qb (wpAny_updateSeq hS1 rfl ?_);have hS₂:=XH (Obj.mapSeq (·.push Value.none)) hS1 rfl;refine wpAny_updateSeq (hz:=by seq_fits) hS₂ rfl ?_;have hS₃:=XH (Obj.mapSeq (·.pop)) hS₂ rfl;refine Qf ⟨plainId_quiet PySem.F.plain_extend_loop _,codeAny_mono (key _ _ s.toks ?_ (λb o hb e=>?_) hS₃) λr s' y=>?_⟩
  ·refine W.frame 0 _ _ st λb hb o e=>?_;have hbS:b≠s.heap.objs.size:=λh=>nF (h▸hb);exact(Xf _ _ (XF hbS)).trans ((Xf _ _ (XF hbS)).trans e)
  ·exact(Xf _ _ (XF hb)).trans ((Xf _ _ (XF hb)).trans e)
  obtain⟨g,tk,acc,c,rfl,rfl,kk,at',it⟩:=y;exact Qb (wpAny_load at' (Qf (by rw[all acc it];exact h g tk d od om kk (Xv (Qm at')))))
 obtain⟨g,tk,acc,c,rfl,rfl,kk,at',it⟩:=y;exact Qb (wpAny_load at' (Qf (by rw[all acc it];exact h g tk d od om kk (Xv (Qm at')))))
theorem iL:∀(as bs:List Str),as.Nodup->(∀x∈as,x∈bs)->bs.length<=as.length->as.Perm bs
 | [],bs,_,_,h=>by
  obtain rfl:bs=[]:=Xr.mp (by simpa using h);exact .nil
 | a::as,bs,nd,h,z=>by
  obtain⟨n1,n2⟩:=Q5.mp nd;have ha:=h a Xj;have p:=List.perm_cons_erase ha;have q:=iL as (bs.erase a) n2 (λx hx=>(List.mem_erase_of_ne λ(e:x=a)=>n1 (e▸hx)).mpr (h x (Qw _ hx))) (by rw[List.length_erase_of_mem ha];simp at z;omega);exact(q.cons a).trans p.symm
theorem qg {ts:List Str} (hh:A.handled=none) (nd:ts.Nodup) (q:cJ prog w s.heap a (λx=>decide (x∈ts)) ts.length)
  (h:∀D h' tk d (out:Array Value) m ss,(∀b o,s.heap.get? b=some o->h'.get? b=some o)->s.heap.objs.size<=D->h'.get? D=some (seqObj "list" out m)->StrsAre out.toList ss->ss.Perm ts->ss.Pairwise L2.leT->Q (.ref D) { s with heap:=h',toks:=tk,drawn:=d }) :
  wpAny (model prog w) A (call (.builtin "sorted") [.ref a]) Q E s:=by
 obtain⟨_,es,_,_,_,_,_,_,_,hb,_,hn,_⟩:=id q;refine Calls.call_function_entry kind_sorted plain_sorted entry_sorted (args_sorted1 _) ?_;unfold Builtin.«sorted»;refine Qb (m:=checkCount "sorted" 1 1 _) (Qf ?_);refine Qb (pI (A:=A.in1) hh q λh1 tk d od om k1 z1=>?_);have len:(od.map (·.2)).length=ts.length:=by rw[Qa,om.len]
 have len':(od.map (·.2)).length<=100000:=by unfold scanBound at hb;omega
 have alls:∀v∈od.map (·.2),∃x t,v=.str x t:=λv hv=>by
  obtain⟨e,he,rfl⟩:=Qk.mp hv;exact om.txt e he
 have sa:=strsAre_map _ alls
 have pm:((od.map (·.2)).map strOf).Perm ts:=(iL ts _ nd (λx hx=>by
  obtain⟨e,he,t,z⟩:=(om.mem x).mp (by simpa using hx)
  exact Qk.mpr ⟨e.2,Qk.mpr ⟨e,he,rfl⟩,by rw[z];rfl⟩) (by rw[Qa,len];exact Qg _)).symm
 generalize hv:od.map (·.2)=vs at len len' alls sa pm ⊢;refine Qb (wpAny_newList ?_ (by rw[XG];omega));have hoL:(h1.push (seqObj "list" vs.toArray 0)).get? h1.objs.size=some (seqObj "list" vs.toArray 0):=Qp _ rfl;refine Qb (Q3 (XD (s:={ s with heap:=h1.push (seqObj "list" vs.toArray 0),toks:=tk,drawn:=d }) slot_list_sort ⟨_,hoL,rfl⟩ entry_list_sort (Tm.jZ hoL (Tm.kB sa) len' λout p1 p2=>⟨_,rfl,?_⟩) (args_list_sort _)));obtain⟨m,at'⟩:=Tm.ga (vs:=vs) (out:=out) hoL;obtain⟨ss,so,pm2,st⟩:=L2.jA sa p1 p2;exact Qf ⟨_,rfl,h _ _ _ _ out m ss (λb o e=>Tm.fD (Qz (QC (Qm e) z1)) (Qd _ (k1 b o e))) z1 at' so (pm2.trans pm) st⟩
end
theorem iz (g:Nat->Str):∀i,(met g i).Nodup
 | 0=>List.nodup_nil
 | i+1=>by
  have q:=iz g i;show (if g i∈met g i then met g i else met g i++[g i]).Nodup
  split
  ·exact q
  rename_i h
  exact Xy.mpr ⟨q,by simp,λx hx y hy e=>h (by simp at hy;rw[<-hy,<-e];exact hx)⟩
end LS
namespace L2
open PySem PySem.Spec PyProof.Rows
theorem Inv.drawn {X:Cx} {pins:List (Addr × Obj)} {σ:List (Option V)} {H:Hp} {s:Shared} (I:Inv X pins σ H s) (d:Drawn):Inv X pins σ H { s with drawn:=d }:=⟨I.ok,I.os,I.bare,I.base,I.loc,I.cell,I.free,I.freeC,I.pin,I.hok,I.len⟩
section
variable {X:Cx} {a:Expr} {ta:TA} {p p1 pos pos1:Pos}
def xK (ts ss:List Str):Prop:=ss.Nodup/\(∀x,x∈ss↔x∈ts)/\ss.Pairwise leT
def sN (K:PySem.W.Frag) (ta:TA):TE:=λσ H Q=>ta σ H λvs H1=>∃l ts,vs=[.ref l]/\SqL K H1 l (ts.map V.str)/\ts.length<=100000/\(∀us:List Str,us.Nodup->(∀x∈us,x∈ts)->us.length<4000)/\∀(p:Addr) (ss:List Str),H1 p=none->xK ts ss->Q (.ref p) (upd H1 p (.lst (ss.map V.str)))
def oo (K:PySem.W.Frag) (ta:TA):TE:=λσ H Q=>ta σ H λvs H1=>∃l ts,vs=[.ref l]/\SqL K H1 l (ts.map V.str)/\ts.length<4000/\∀(p:Addr) (ss:List Str),H1 p=none->xK ts ss->Q (.ref p) (upd H1 p (.lst (ss.map V.str)))
theorem yJ:∀(us ts:List Str),us.Nodup->(∀x∈us,x∈ts)->us.length<=ts.length
 | [],_,_,_=>QN _
 | x::us,ts,nd,h=>by
  have hx:=h x (by simp);have:=yJ us (ts.erase x) (Q5.mp nd).2 λy hy=>(List.mem_erase_of_ne λe:y=x=>(Q5.mp nd).1 (by rw[<-e];exact hy)).mpr (h y (Qw _ hy));rw[List.length_erase_of_mem hx]at this;have:=List.length_pos_of_mem hx;simp only[QQ];omega
theorem oS (hc:X.calm=true) (hg:Gl X "sorted") (hm:X.mg "sorted" = none) (hg1:Gl X "set") (hm1:X.mg "set" = none) (ha:PA X [a] ta) (hs:starEach [a] X.env=[(false,eval a X.env)]:=by rfl)
  (he:starEach [.Call (.Name "set" p1) [a] [] pos1] X.env=[(false,eval (.Call (.Name "set" p1) [a] [] pos1) X.env)]:=by rfl) :
  PE X (.Call (.Name "sorted" p) [.Call (.Name "set" p1) [a] [] pos1] [] pos) (sN X.K ta):=by
 intro pins s σ H Q I h;refine wpAny_Call_Name_kw (dO I hg hm PyProof.Rows.boot_sorted ?_);refine PyProof.Rows.callWith_builtin1 ?_ he rfl;rw[he];show wpAny _ _ (spliced ((false,eval (.Call (.Name "set" p1) [a] [] pos1) X.env)::backTo pos [])) _ _ s;refine Calls.spliced_cons ?_;refine Call_ (dO I hg1 hm1 PyProof.Rows.boot_set (Xe (thn (ha pos1 pins s σ H _ I h) λus s1 z=>?_) hs rfl));obtain⟨vs,H1,I1,r1,l,ts,e,hl,hsm,hfw,q⟩:=z;subst e;obtain⟨u1,e,ru1⟩:=eE r1;subst e;cases ru1;obtain⟨its,rv,pl,_⟩:=I1.list hl;have hlen:its.length=ts.length:=by rw[<-rv.length,Qa]
 refine LS.nE (its:=its.toArray) (g:=λi=>ts.getD i Str.empty) (I1.ok.hd hc) pl.isList (λi v hv=>?_) (λi hi=>?_) λh3 tk q3 kept=>?_
 ·have hv':its[i]?=some v:=by simpa using hv
  have hi:i<ts.length:=by
   have:=(Qe.mp hv').1;omega
  have e1:(ts.map V.str)[i]?=some (.str (ts.getD i Str.empty)):=by
   rw[Qh,Qc hi,QL,Qc hi];rfl
  obtain⟨u,hu,ru⟩:=rv.get e1;rw[hv']at hu;cases hu;obtain⟨t,e2⟩:=ru;exact⟨t,e2⟩
 ·rw[Ql,hlen]at hi
  have:=hfw _ (LS.iz (λi=>ts.getD i Str.empty) i) λx hx=>by
   obtain⟨j,hj,e⟩:=(LS.nk _ x i).mp hx;rw[<-e,QL,Qc (show j<ts.length by omega)];exact Xq _
  unfold scanBound;omega
 refine Calls.spliced_nil ?_;have hz:its.toArray.size=ts.length:=by rw[Ql];exact hlen
 rw[hz]at q3
 have mm:∀x,x∈LS.met (λi=>ts.getD i Str.empty) ts.length↔x∈ts:=λx=>by
  rw[LS.nk]
  constructor
  ·rintro⟨j,hj,rfl⟩;rw[QL,Qc hj];exact Xq hj
  intro hx;obtain⟨j,hj,e⟩:=List.getElem_of_mem hx;exact⟨j,hj,by rw[QL,Qc hj];exact e⟩
 have nd:=LS.iz (λi=>ts.getD i Str.empty) ts.length;have ml:=LS.vG (λi=>ts.getD i Str.empty) ts.length;have q3:LS.cJ X.prog X.w h3 s1.heap.objs.size (λx=>decide (x∈LS.met (λi=>ts.getD i Str.empty) ts.length)) (LS.met (λi=>ts.getD i Str.empty) ts.length).length:=q3;generalize LS.met (λi=>ts.getD i Str.empty) ts.length=us at q3 mm nd ml;have I2:=I1.kept (t':=tk) kept;refine LS.qg (s:={ s1 with heap:=h3,toks:=tk }) (I1.ok.hd hc) nd q3 λD h' tk2 d out m ss k2 hD at' so pm st=>?_;have lo:ss.length<=ts.length:=by rw[pm.length_eq];exact ml
 exact⟨.ref D,_,(I2.drawn d).laid (o:=.lst (ss.map V.str)) (t':=tk2) k2 hD ⟨by rw[Qa,XG];omega,out.toList,m,gh so,at'⟩,rfl,q _ ss (I2.hok.fresh hD) ⟨pm.nodup_iff.mpr nd,λx=>(pm.mem_iff).trans (mm x),st⟩⟩
theorem qo (hc:X.calm=true) (hg:Gl X "sorted") (hm:X.mg "sorted" = none) (hg1:Gl X "set") (hm1:X.mg "set" = none) (ha:PA X [a] ta) (hs:starEach [a] X.env=[(false,eval a X.env)]:=by rfl)
  (he:starEach [.Call (.Name "set" p1) [a] [] pos1] X.env=[(false,eval (.Call (.Name "set" p1) [a] [] pos1) X.env)]:=by rfl) :
  PE X (.Call (.Name "sorted" p) [.Call (.Name "set" p1) [a] [] pos1] [] pos) (oo X.K ta):=by
 have ha2:PA X [a] (λσ H R=>∃A:List V->Hp->Prop,ta σ H A/\∀vs H1,A vs H1->R vs H1):=λpos pins s σ H R I ⟨A,h,k⟩=>Xm (ha pos pins s σ H A I h) (λus s1 ⟨vs,H1,I1,r,q⟩=>⟨vs,H1,I1,r,k _ _ q⟩) λ_ _ z=>z;intro pins s σ H Q I h;exact oS hc hg hm hg1 hm1 ha2 hs he pins s σ H Q I ⟨_,h,λvs H1 ⟨l,ts,e,hl,z,q⟩=>⟨l,ts,e,hl,by omega,λus nd su=>XA (yJ us ts nd su) z,q⟩⟩
end
end L2
set_option maxHeartbeats 4000000
namespace L2
open PySem PySem.Spec PyProof.Rows
theorem iE {H1:Hp} {D:Addr} {σ0:St} {g:TG} {te:TE} {QD:Hp->Prop} {a:Addr} {o:Obj} {kvs:List (Key × V)} (Pv:Nat->Hp->List V->Prop) (h0:Pv 0 (upd H1 D (.lst [])) []) (hD:∀i H ys,Pv i H ys->H D=some (.lst ys)/\H a=some (.frz o (.dK kvs)))
  (hs:∀i k v H ys,kvs[i]?=some (k,v)->Pv i H ys->g (kV k) σ0 H λσ2 H2=>wk σ0 σ2/\ie σ2 H2 λb H3=>if b=true then te σ2 H3 (bV Pv kvs.length D i ys) else ∃m',m'<kvs.length-i/\(m'=kvs.length-(i+1)/\i+1<=kvs.length/\Pv (i+1) H3 ys)) (hd:∀H ys,Pv kvs.length H ys->QD H) :
  ∃W:Nat->Nat->Hp->List V->Prop,(∃m,W 0 m (upd H1 D (.lst [])) [])/\∀i m H ys,W i m H ys->H D=some (.lst ys)/\(((Itd a o kvs).stop i H/\QD H)\/((Itd a o kvs).go i H/\∀x H',(Itd a o kvs).yld i H x H'->g x σ0 H' λσ2 H2=>wk σ0 σ2/\ie σ2 H2 λb H3 =>
   if b=true then te σ2 H3 λv H4=>H4 D=some (.lst ys)/\ys.length<sizeLine/\∃m',m'<m/\W (i+1) m' (upd H4 D (.lst (ys++[v]))) (ys++[v]) else ∃m',m'<m/\W (i+1) m' H3 ys)):=by
 refine⟨λi m H ys=>m=kvs.length-i/\i<=kvs.length/\Pv i H ys,⟨kvs.length,by simp,QN _,h0⟩,?_⟩;rintro i m H ys ⟨rfl,hi,p⟩;obtain⟨d1,d2⟩:=hD i H ys p;refine⟨d1,?_⟩;by_cases hlt:i<kvs.length
 ·refine .inr ⟨⟨d2,hlt⟩,λx H' y=>?_⟩;obtain⟨e,k,v,hk,ex⟩:=y;subst e ex;exact hs i k v _ ys hk p
 have e:i=kvs.length:=by exact om0 hi hlt
 subst e;exact .inl ⟨⟨d2,Qg _⟩,hd H ys p⟩
end L2
namespace Tm
open PySem PyProof.Rows
@[reducible] def intK:PyProof.Rows.KeyKind where
 α:=Int
 blt a b:=decide (a<b)
 irrefl a:=by simp
 trans a b c h1 h2:=by simp only[decide_eq_true_eq] at *;exact Int.lt_trans h1 h2
 negTrans a b c h:=by
  simp only[decide_eq_true_eq] at *;by_cases hab:a<b
  ·exact .inl hab
  exact .inr (Int.lt_of_le_of_lt (Int.not_lt.mp hab) h)
 total a b h1 h2:=by simp only[decide_eq_false_iff_not] at *;exact Int.le_antisymm (Int.not_lt.mp h2) (Int.not_lt.mp h1)
 keyOf v:=match v with|.int x _=>some x|_=>none
 dflt:=0
section
variable {prog:Program} {w:World}
end
end Tm
namespace L2
open PySem PySem.Spec PyProof.Rows
section
variable {X:Cx}
end
end L2
namespace Tm
open PySem PyProof.Rows PySem.W
def nr (a b:List Nat × Int):Bool:=decide (a.1<b.1) || (decide (a.1=b.1)&&decide (a.2<b.2))
variable {a b:List Nat × Int}
theorem eT:nr a b=true↔a.1<b.1\/(a.1=b.1/\a.2<b.2):=by simp[nr]
theorem np:nr a b=false↔¬(a.1<b.1\/(a.1=b.1/\a.2<b.2)):=by rw[<-eT];simp
theorem rS (a:List Nat × Int):nr a a=false:=by
 rw[np];rintro(h|⟨_,h⟩)
 ·exact List.lt_irrefl _ h
 exact Int.lt_irrefl _ h
def vP:List Value->Option (List Nat × Int)
 | [.str z _,.int i _]=>some (z.cps.toList,i)
 | _=>none
def lW:Data->Option (List Nat × Int)
 | .seq its _=>vP its.toList
 | _=>none
def nh (h:Heap):Value->Option (List Nat × Int)
 | .ref a=>(h.get? a).bind λo=>lW o.data
 | _=>none
theorem yf {h:Heap} {a:Addr} {o:Obj} {its:Array Value} {n:Nat} {z:Str} {t:Tok} {i:Int} {u:Tok} (g:h.get? a=some o) (d:o.data=.seq its n) (e:its.toList=[.str z t,.int i u]):nh h (.ref a)=some (z.cps.toList,i):=by
 show (h.get? a).bind (λo=>lW o.data)=_;rw[g];show lW o.data=_;rw[d];show vP its.toList=_;rw[e];rfl
theorem xt {l:List Value} {k:List Nat × Int} (e:vP l=some k):∃z t i u,l=[.str z t,.int i u]/\k=(z.cps.toList,i):=by
 unfold vP at e
 split at e
 ·exact⟨_,_,_,_,rfl,(Q2 e).symm⟩
 cases e
theorem wc {d:Data} {k:List Nat × Int} (e:lW d=some k):∃its n,d=.seq its n/\vP its.toList=some k:=by
 unfold lW at e
 split at e
 ·exact⟨_,_,rfl,e⟩
 cases e
noncomputable def rM (h:Heap):PyProof.Rows.KeyKind where
 α:=List Nat × Int
 blt:=nr
 irrefl a:=rS a
 trans a b c h1 h2:=by
  rw[eT] at *;rcases h1 with h1|⟨e1,h1⟩ <;> rcases h2 with h2|⟨e2,h2⟩
  ·exact .inl (List.lt_trans h1 h2)
  ·exact .inl (e2▸h1)
  ·exact .inl (e1▸h2)
  exact .inr ⟨e1.trans e2,Int.lt_trans h1 h2⟩
 negTrans a b c h:=by
  rw[eT] at *;rw[eT];by_cases h1:a.1<b.1
  ·exact .inl (.inl h1)
  by_cases h2:b.1<c.1
  ·exact .inr (.inl h2)
  have l1:=List.not_lt.mp h1;have l2:=List.not_lt.mp h2;rcases h with h|⟨e,h⟩
  ·exact absurd (List.lt_of_le_of_lt (List.le_trans l2 l1) h) (List.lt_irrefl _)
  have e1:a.1=b.1:=List.le_antisymm (e▸l2) l1;by_cases h3:a.2<b.2
  ·exact .inl (.inr ⟨e1,h3⟩)
  exact .inr (.inr ⟨e1▸e,by omega⟩)
 total a b h1 h2:=by
  rw[np] at *;have e:a.1=b.1:=List.le_antisymm (List.not_lt.mp λz=>h2 (.inl z)) (List.not_lt.mp λz=>h1 (.inl z))
  have:a.2=b.2:=by
   have x1:¬a.2<b.2:=λz=>h1 (.inr ⟨e,z⟩);have x2:¬b.2<a.2:=λz=>h2 (.inr ⟨e.symm,z⟩);omega
  exact Prod.ext e this
 keyOf:=nh h
 dflt:=([],0)
theorem ng {h:Heap} {v:Value} {k:List Nat × Int} (e:nh h v=some k):∃(a:Addr) (o:Obj) (its:Array Value) (n:Nat) (z:Str) (t:Tok) (i:Int) (u:Tok),v=.ref a/\h.get? a=some o/\o.data=.seq its n/\its.toList=[.str z t,.int i u]/\k=(z.cps.toList,i):=by
 unfold nh at e
 split at e
 ·rename_i a
  cases g:h.get? a with
  | none=>rw[g]at e;cases e
  | some o =>
  rw[g]at e;have e:lW o.data=some k:=e;obtain⟨its,n,d,e⟩:=wc e;obtain⟨z,t,i,u,e1,e2⟩:=xt e;exact⟨a,o,its,n,z,t,i,u,rfl,g,d,e1,e2⟩
 cases e
section
variable {prog:Program} {w:World}
theorem wW {h:Heap} {A:Around} {s:Shared} (keep:∀v k,nh h v=some k->nh s.heap v=some k):iH (rM h) (tuples' true) prog w A s:=by
 intro E x y a b Q ha hb hq;obtain⟨ax,o1,is1,n1,z1,t1,i1,u1,rfl,g1,d1,l1,rfl⟩:=ng (keep _ _ ha);obtain⟨ay,o2,is2,n2,z2,t2,i2,u2,rfl,g2,d2,l2,rfl⟩:=ng (keep _ _ hb);have hq:Q (nr (z1.cps.toList,i1) (z2.cps.toList,i2)) s:=hq;refine kat_lt g1 d1 g2 d2 ?_
 have ez:decide (is1.size<is2.size)=false:=by
  have x1:=congrArg List.length l1;have x2:=congrArg List.length l2;rw[Qo]at x1 x2;rw[x1,x2];rfl
 rw[ez,l1,l2];refine kat_cons (eqBool_str (kat_go (λe=>kat_yes ?_) (λe=>kat_no ?_)))
 ·have e:z1=z2:=by simpa using e
  subst e;refine kat_cons (wpAny_eqBool_int (kat_go (λe=>kat_yes (kat_nil ?_)) (λe=>kat_no ?_)))
  ·have e:i1=i2:=by simpa using e
   subst e;rw[rS]at hq;exact hq
  refine kat_one _ _ (lt_int ?_)
  have:nr (z1.cps.toList,i1) (z1.cps.toList,i2)=decide (i1<i2):=by
   rw[Bool.eq_iff_iff,eT,XR];exact⟨λh=>h.elim (λh=>absurd h (List.lt_irrefl _)) (·.2),λh=>.inr ⟨rfl,h⟩⟩
  rw[this]at hq;exact hq
 have e:¬z1=z2:=by simpa using e
 have ne:¬z1.cps.toList=z2.cps.toList:=λz=>e (by cases z1;cases z2;exact congrArg Str.mk (Array.toList_inj.mp z));refine oneLt_str ?_
 have:nr (z1.cps.toList,i1) (z2.cps.toList,i2)=decide (z1.cps.toList<z2.cps.toList):=by
  rw[Bool.eq_iff_iff,eT,XR];exact⟨λh=>h.elim id (λh=>absurd h.1 ne),λh=>.inl h⟩
 rw[this]at hq;exact hq
def mj (h:Heap) (bs:List Addr) (kf:Addr->Str × Int):Prop:=∀b∈bs,∃(o:Obj) (its:Array Value) (n:Nat) (t u:Tok),h.get? b=some o/\o.cls=.type "tuple" /\ o.data=.seq its n/\its.toList=[.str (kf b).1 t,.int (kf b).2 u]
variable {kf:Addr->Str × Int}
theorem uQ {h:Heap} {bs:List Addr} (p:mj h bs kf) {b:Addr} (hb:b∈bs):nh h (.ref b)=some ((kf b).1.cps.toList,(kf b).2):=by
 obtain⟨o,its,n,t,u,g,_,d,l⟩:=p b hb;exact yf g d l
theorem rh {h:Heap} {kf:Addr->Str × Int}:∀{bs:List Addr},mj h bs kf->∃fs:List Value,fs.length=bs.length/\KatTups h (bs.map Value.ref) fs/\∀f∈fs,∃z t,f=.str z t
 | [],_=>⟨[],rfl,.nil,λf hf=>nomatch hf⟩
 | b::bs,p=>by
  obtain⟨fs,l,k,hf⟩:=rh (bs:=bs) λc hc=>p c (Qw _ hc);obtain⟨o,its,n,t,u,g,hc,d,li⟩:=p b (by simp);refine⟨.str (kf b).1 t::fs,by rw[QQ,l,QQ],.cons g hc d (by rw[<-Qy,li];rfl) k,λf h=>?_⟩;rcases QV.mp h with rfl|h
  ·exact⟨_,_,rfl⟩
  exact hf f h
theorem uc {h0 h:Heap} {a:Addr} {bs:List Addr} (k0:∀b o,h0.get? b=some o->h.get? b=some o) (p:mj h0 bs kf) (na:∀b o,h0.get? b=some o->b≠a):Can prog w (rM h0) (tuples' true) h a (bs.map Value.ref) where
 key v hv:=by
  obtain⟨b,hb,rfl⟩:=Qk.mp hv;exact⟨((kf b).1.cps.toList,(kf b).2),uQ p hb⟩
 lt A s ks:=wW λv k e=>by
  obtain⟨b,o,its,n,z,t,i,u,rfl,g,d,l,rfl⟩:=ng e;exact yf (ks _ _ (na _ _ g) (k0 _ _ g)) d l
 kind h2 A E s Q ks hq:=by
  have p':mj s.heap bs kf:=λb hb=>by
   obtain⟨o,its,n,t,u,g,hc,d,l⟩:=p b hb;exact⟨o,its,n,t,u,ks _ _ (na _ _ g) (k0 _ _ g),hc,d,l⟩
  obtain⟨fs,l,kt,hf⟩:=rh p';rw[Qa]at h2;refine kat_kind (T:=.type "str") kt (by omega) (λf hf'=>?_) (by decide) hq;obtain⟨z,t,rfl⟩:=hf f hf';exact Looks.of_pure rfl
end
end Tm
namespace L2
open PySem PySem.Spec PyProof.Rows
section
variable {X:Cx}
theorem lI:∀(cs:List Addr),aY (cs.map V.ref) (cs.map Value.ref)
 | []=>.nil
 | _::cs=>.cons rfl (lI cs)
theorem sZ:∀{ys zs:List Value},ys.Perm zs->∀l:List Addr,zs=l.map Value.ref->∃l':List Addr,l'.Perm l/\ys=l'.map Value.ref:=by
 intro ys zs h
 induction h with
 | nil=>intro l e;cases l with
  | nil=>exact⟨[],.refl _,rfl⟩
  | cons a l=>cases e
 | cons x _ ih=>intro l e;cases l with
  | nil=>cases e
  | cons a l =>
   rw[QI]at e;cases e;obtain⟨l',h1,h2⟩:=ih l rfl;exact⟨a::l',h1.cons a,by rw[h2];rfl⟩
 | swap x y zs=>intro l e;match l,e with
  | a::b::l,e =>
   cases e;exact⟨b::a::l,.swap _ _ _,rfl⟩
 | trans _ _ ih1 ih2 =>
 intro l e;obtain⟨l2,h1,h2⟩:=ih2 l e;obtain⟨l3,h3,h4⟩:=ih1 l2 h2;exact⟨l3,h3.trans h1,h4⟩
end
end L2
namespace Tm
open PySem PyProof.Rows PySem.W
theorem qY {prog:Program} {w:World} {h:Heap} {a:Addr} {bs:List Addr} {kf:Addr->Str × Int} (p:mj h bs kf) (na:a=h.objs.size) (l:Obj):Can prog w (rM h) (tuples' true) (h.push l) a (bs.map Value.ref) :=
 uc (λb o e=>Qd _ e) p λb o e=>by rw[na];exact Qz (Qm e)
end Tm
namespace L2
open PySem PySem.Spec PyProof.Rows
section
variable {X:Cx}
def og (a:Addr):Obj:={ cls:=.type "dict_items", data:=.fields #[.ref a] }
def uv (tl:TE):TE:=λσ H Q=>tl σ H λx H1=>∃a kvs,x=.ref a/\H1 a=some (.dK kvs)/\∀r,H1 r=none->Q (.ref r) (upd H1 r (dN (og a)))
theorem uU {l:Expr} {tl:TE} {apos pos:Pos} (hl:PE X l tl) (hbase:attributeBase l "items" X.env (eval l X.env)=eval l X.env:=by rfl) (hline:(apos.endLine==pos.line)=true:=by rfl):PE X (.Call (.Attribute l "items" apos) [] [] pos) (uv tl):=by
 intro pins s σ H Q I h;refine wpAny_Call_method (T := "dict") (id := "dict.items") hbase rfl hline F.plainAttrs_dict F.slot_dict_items F.type_dict_items (thn (hl pins s σ H _ I h) λv s1 ⟨x,H1,I1,r1,q1⟩=>?_);obtain⟨a,kvs,e,hz,q⟩:=q1;subst e;cases r1;obtain⟨z,hm,vs,rel,dd⟩:=se I1.hok hz;refine⟨dd.typeIs,dd.mapOf.noDict,?_⟩;show wpAny _ _ (callWith pos (.builtin "dict.items") [.ref a] [] []) _ _ s1;refine method_meetsIn F.slot_dict_items F.entry_dict_items rfl (PySem.evalArgs_none ⟨rfl,dd.typeIs,F.args_dict_items_1 _,_,meets_dict_items (bn X.prog X.w) a hm,⟨vs,dd⟩,?_⟩);exact⟨.ref s1.heap.objs.size,_,I1.laid (t':=s1.toks) (o:=dN (og a)) (λb o e=>Qd _ e) (Qg _) (sE (Qp _ rfl)),rfl,q _ (I1.hok.fresh (Qg _))⟩
def bG (ps:List (Str × Int)):List (Key × V):=ps.map λp=>((Sum.inr p.1:Key),V.int p.2)
def zc (K:PySem.W.Frag):List V->Hp->VK->Prop:=λxs H Q=>∃(r a:Addr) (ps:List (Str × Int)),xs=[.ref r]/\H r=some (dN (og a))/\H a=some (.dK (bG ps))/\ps.length<=100000/\ps≠[] /\
 ∀(p:Addr) (bs:List Addr) (kf:Addr->Str × Int) (H2:Hp),am H H2->H p=none->(bs.map kf).Perm ps->bs.Pairwise (λx y=>leT (kf x).1 (kf y).1)->(∀b∈bs,H2 b=some (.tup [.str (kf b).1,.int (kf b).2]))->H2 p=some (.lst (bs.map V.ref))->Q (.ref p) H2
theorem Inv.laidAll {pins:List (Addr × Obj)} {σ:St} {H H':Hp} {s:Shared} {h':Heap} {t':Nat} (I:Inv X pins σ H s) (k:∀b u,s.heap.get? b=some u->h'.get? b=some u) (old:∀b,b<s.heap.objs.size->H' b=H b) (new:∀b u,s.heap.objs.size<=b->H' b=some u->bt X.prog X.w H' h' b u) :
  Inv X pins σ H' { s with heap:=h',toks:=t' }:=by
 have sm:∀b u,H b=some u->H' b=some u:=λb u e=>by rw[old b (I.hok.lt e)];exact e
 refine I.un ⟨λb u q _ _ _=>k b u q,λb u q _ _ _=>⟨u.slots,k b u q⟩,λb u q n _=>by rw[old b (Qm q)];exact n,λb u q _=>⟨u,k b u q⟩,λb xs q=>sm _ _ q,λb u xs q=>sm _ _ q,λb ps q=>⟨#[],by rw[sm _ _ q];simp⟩⟩ λb u e=>?_;by_cases c:b<s.heap.objs.size
 ·exact(I.hok b u (by rw[<-old b c];exact e)).stay (λc v _ q=>k c v q) (λ_ q=>sm _ _ q) λ_ _ q=>sm _ _ q
 exact new b u (Nat.le_of_not_lt c) e
theorem q_ (hc:X.calm=true):eB X (.builtin "sorted") (zc X.K):=by
 intro pins s σ H xs us Q I r h;obtain⟨rv,a,ps,rfl,hr,ha,hz,ne,q⟩:=h;obtain⟨u,rfl,ru⟩:=eE r;cases ru;obtain⟨er,_⟩:=(show bt X.prog X.w H s.heap rv (dN (og a)) from I.hok rv _ hr);obtain⟨z,hm,vs,rel,dd⟩:=se I.hok ha;obtain⟨ep,da⟩:=dd.dictAt;have lv:vs.length=ps.length:=by rw[<-KV.len rel];unfold bG;rw[Qa]
 refine Tm.ik (s:=s) (κ:=Tm.rM) (kd:=tuples' true) (G:=λh' us=>∃(as:List Addr) (kf:Addr->Str × Int),us=as.map Value.ref/\as.map kf=ps/\Tm.mj h' as kf/\∀b∈as,s.heap.objs.size<=b)
  (λA E R hA hR=>PySem.W.kdx_collect (knd:=bn X.prog X.w) (kvs:=vs) (ep:=ep) hA ⟨_,er,rfl,rfl⟩ da (by rw[lv,XG];exact Q0 hz (by decide)) λh' tk as k la g=>?_) (I.ok.hd hc) (λh' us D k g eD=>?_) λD h' tk us h1 out m k1 g1 k2 hle hD at' p1 p2=>?_
 ·have nd:as.Nodup:=g.rise.imp λh=>Qz h;refine hR h' tk _ k ?_ ⟨as,λb=>ps.getD (as.idxOf b) ("", 0),rfl,?_,?_,λb hb=>Xv (g.above b hb)⟩
  ·obtain⟨b,hb⟩:∃b,b∈as:=List.exists_mem_of_length_pos (by rw[la,lv];exact List.length_pos_iff.mpr ne);exact Xv (Nat.lt_trans (g.above b hb) (g.there hb))
  ·refine List.ext_getElem? λi=>?_;rw[Qh];by_cases c:i<as.length
   ·rw[Qc c];show some (ps.getD (as.idxOf as[i]) ("", 0))=_;rw[nd.idxOf_getElem,QL,Qc (by omega)];rfl
   rw[Xc (by omega),Xc (by omega)];rfl
  intro b hb;obtain⟨j,hj,rfl⟩:=Qq.mp hb;obtain⟨key,kk,x,e1,e2,e3⟩:=g.pairs j _ (Qc hj);have hp:j<ps.length:=by omega
  obtain⟨u,e4,e5⟩:=KV.get (i:=j) (k:=Sum.inr (ps[j]).1) (v:=V.int (ps[j]).2) rel (by unfold bG;rw[Qh,Qc hp];rfl);rw[e1]at e4;cases e4;obtain⟨tu,rfl⟩:=e5;rcases bA (show iO (Sum.inr (ps[j]).1) key=true from e2) with⟨i,t,z,_⟩|⟨y,t,z,rfl⟩
  ·cases z
  cases z;dsimp only;rw[nd.idxOf_getElem,QL,Qc hp];exact⟨_,_,_,t,tu,e3,rfl,rfl,rfl⟩
 ·obtain⟨as,kf,rfl,e,p,_⟩:=g;have la:as.length=ps.length:=by rw[<-e,Qa]
  exact⟨by rw[Qa,la];exact hz,Tm.qY p eD _⟩
 obtain⟨as,kf,rfl,e,p,ab⟩:=g1;obtain⟨bs,pm,eo⟩:=sZ p1 as rfl;have la:as.length=ps.length:=by rw[<-e,Qa]
 have lb:bs.length=ps.length:=pm.length_eq.trans la;have mem:∀{b},b∈bs->b∈as:=λhb=>pm.mem_iff.mp hb
 have neD:∀{b},b∈bs->b≠D:=λ{b} hb zz=>by
  obtain⟨o,_,_,_,_,g,_⟩:=p b (mem hb);exact absurd (Qm g) (by rw[zz];exact Nat.not_lt.mpr hD)
 let H2:Hp:=λb=>if b=D then some (.lst (bs.map V.ref)) else if b∈bs then some (.tup [.str (kf b).1,.int (kf b).2]) else H b;have h2D:H2 D=some (.lst (bs.map V.ref)):=QF rfl;have h2b:∀b∈bs,H2 b=some (.tup [.str (kf b).1,.int (kf b).2]):=λb hb=>(QB (neD hb)).trans (QF hb);have h2o:∀b,b<s.heap.objs.size->H2 b=H b:=λb hb=>(QB (Qz (QC hb hle))).trans (QB λzz=>absurd (ab b (mem zz)) (Nat.not_le.mpr hb));refine⟨.ref D,H2,I.laidAll (t':=tk) (λb o g=>k2 b o (k1 b o g)) h2o λb u hb e=>?_,rfl,q D bs kf H2 (λb u e=>by rw[h2o b (I.hok.lt e)];exact e) (I.hok.fresh hle) (by rw[<-e];exact pm.map _) ?_ h2b h2D⟩
 ·by_cases cD:b=D
  ·subst cD;rw[h2D]at e;cases e;exact⟨by rw[Qa,lb,XG];exact Q0 hz (by decide),out.toList,m,by rw[eo];exact lI bs,at'⟩
  by_cases cb:b∈bs
  ·rw[h2b b cb]at e;cases e;obtain⟨o,its,n,t,u,g,hc',hd,l⟩:=p b (mem cb);exact⟨by simp[XG],its.toList,by rw[l];exact .cons ⟨t,rfl⟩ (.cons ⟨u,rfl⟩ .nil),o,k2 _ _ g,hc',n,by rw[hd]⟩
  have:H2 b=H b:=(QB cD).trans (QB cb);rw[this,I.hok.fresh hb]at e;cases e
 rw[eo,List.pairwise_map]at p2;refine p2.imp_of_mem λ{x y} hx hy h=>?_;have h:Tm.nr ((Tm.nh h1 (.ref y)).getD ([],0)) ((Tm.nh h1 (.ref x)).getD ([],0))=false:=h;rw[Tm.uQ p (mem hx),Tm.uQ p (mem hy)]at h;exact λz=>(Tm.np.mp h) (.inl z)
end
section
variable {X:Cx}
def ze:List V->Hp->VK->Prop:=λxs H Q=>∃a kvs,xs=[.ref a]/\Rd H a (.dK kvs)/\∀l,H l=none->Q (.ref l) (upd H l (.lst (kvs.map λp=>kV p.1)))
theorem kG (hc:X.calm=true):eB X (.type "list") ze:=by
 intro pins s σ H xs us Q I r h;obtain⟨a,kvs,rfl,rd,q⟩:=h;obtain⟨u,rfl,ru⟩:=eE r;cases ru;obtain⟨z,hm,vs,rel,dd⟩:=iQ I.hok rd;obtain⟨ep,da⟩:=dd.dictAt;have lv:=KV.len rel;refine PySem.W.kdl_call (PySem.W.kdl_dict (knd:=bn X.prog X.w) (kvs:=vs) (ep:=ep) hm) (I.ok.hd hc) da (by rw[<-lv];exact z) λh' tk acc c k at' it=>?_
 have rv:aY (kvs.map λp=>kV p.1) acc.toList:=by
  refine paired_get (by rw[Qa,show acc.toList.length=acc.size from Qo,it.1,lv]) λj x y e1 e2=>?_;obtain⟨k',x',e3,e4⟩:=it.2 j y (by rw[<-Qy];exact e2);rw[Qh]at e1
  cases e5:kvs[j]? with
  | none=>rw[e5]at e1;cases e1
  | some p =>
  rw[e5]at e1;cases e1;obtain⟨u,hu,_⟩:=KV.get (i:=j) (k:=p.1) (v:=p.2) rel e5;rw[e3]at hu;cases hu;exact vQ e4
 exact⟨.ref s.heap.objs.size,_,I.laid (o:=.lst (kvs.map λp=>kV p.1)) (t':=tk) k (Qg _) ⟨by rw[Qa];exact z,acc.toList,c,rv,at'⟩,rfl,q _ (I.hok.fresh (Qg _))⟩
end
end L2
namespace L2
open PySem PySem.Spec PyProof.Rows
open AutoSeq1 (wpAny_loadPart')
section
variable {A:Around} {s:Shared} {l:Addr}
end
section
variable {X:Cx}
def gj (y z:Str):Str:=if stripSame y.cps.contains true true z then z else stripped y.cps.contains true true z
def zb:V->List V->Hp->VK->Prop:=λx vs H Q=>∃(z y:Str),x=.str z/\vs=[.str y]/\z.length<=sizeLine/\Q (.str (gj y z)) H
theorem vF:MtR X "str.strip" zb:=by
 intro pins s σ H x vs v us Q I rx rv h;obtain⟨z,y,rfl,rfl,hz,q⟩:=h;obtain⟨t,rfl⟩:=rx;obtain⟨u1,rfl,u,rfl⟩:=eE rv;refine call_gives F.slot_str_strip (typeIs_str _ _ _) F.entry_str_strip (F.args_str_strip_2 _ _) (gives_str_strip_chars z y t u) ?_;unfold gj at q;cases c:stripSame y.cps.contains true true z
 ·rw[c,QB (by decide)]at q;rw[QB (by decide)];exact⟨fits_stripped _ _ _ hz,⟨.str _,H,I.tok _,⟨_,rfl⟩,q⟩⟩
 rw[c,QF rfl]at q;rw[QF rfl];exact⟨.str _,H,I,⟨_,rfl⟩,q⟩
theorem ut {p:Nat->Bool}:∀{xs:List Nat},(∀x∈xs,p x=true)->xs.takeWhile p=xs
 | [],_=>rfl
 | x::xs,h=>by rw[List.takeWhile_cons,QF (h x (by simp)),ut λy hy=>h y (Qw _ hy)]
theorem ur {p:Nat->Bool}:∀{xs:List Nat} {i:Nat} {x:Nat},xs[i]?=some x->p x=false->(xs.takeWhile p).length<=i
 | y::xs,0,x,e,h=>by
  cases e;rw[List.takeWhile_cons,h];exact Qg 0
 | y::xs,i+1,x,e,h=>by
  rw[List.takeWhile_cons];have:=ur (xs:=xs) (i:=i) (x:=x) (by simpa using e) h
  split
  ·rw[QQ];omega
  exact QN _
theorem sP {y z:Str}:(gj y z=Str.empty)↔∀c∈z.cps.toList,y.cps.contains c=true:=by
 have zl:z.cps.toList.length=z.length:=Qo ..
 have nil:∀w:Str,w=Str.empty↔w.length=0:=λw=>⟨λh=>by rw[h];rfl,λh=>by
  obtain⟨a⟩:=w
  exact congrArg Str.mk (Array.size_eq_zero_iff.mp h)⟩
 constructor
 ·intro h c hc;by_cases hb:y.cps.contains c=true
  ·exact hb
  have hb:y.cps.contains c=false:=by simpa using hb
  exfalso;rw[nil]at h;obtain⟨i,hi,ei⟩:=Qq.mp hc;have e1:z.cps.toList[i]?=some c:=by rw[Qc hi,ei]
  have lo:=ur e1 hb;unfold gj at h
  split at h
  ·omega
  unfold stripped stripHi stripLo at h;simp only[if_true]at h;generalize hL:(z.cps.toList.takeWhile y.cps.contains).length=L at *
  have e2:((z.cps.toList.drop L).reverse)[z.length-1-i]?=some c:=by
   rw[List.getElem?_reverse (by rw[Q4];omega),Q4,XN];rw[show L+(z.cps.toList.length-L-1-(z.length-1-i))=i by omega];exact e1
  have hi2:=ur e2 hb;rw[size_strSub _ _ _ (by omega)]at h;omega
 intro h;rw[nil];unfold gj;have e1:=ut h
 split
 ·rename_i c
  unfold stripSame at c;simp only[Xl,beq_iff_eq]at c;have:=c.1;unfold stripLo at this;rw[QF rfl,e1]at this;omega
 unfold stripped stripHi stripLo;simp only[if_true];rw[e1,size_strSub _ _ _ (by omega)];omega
end
end L2
namespace K2
open PySem L2
abbrev IvF:=Nat->St->Hp->Prop
abbrev IvC:=Nat->Hp->List V->Prop
abbrev IvJ:=St->Hp->Prop
variable {X:Cx}
theorem je {K:PySem.W.Frag} (h:X.K=K):IxR X (oN K):=by subst h;exact aU
variable {H H':Hp} {σ:St} {td ty tv tl:TE}
theorem io {D:Ends} (q:tv σ H λv H1=>td σ H1 λx H2=>ty σ H2 λy H3=>∃a H4,x=.ref a/\hX H3 a y v H4/\D.nx σ H4):xY td ty tv D σ H:=q
theorem De {Q:VK} (q:ty σ H λy H1=>td σ H1 λx H2=>∃a o,x=.ref a/\cL H2 a y o/\Q (.bl o.isSome) H2):Aw ty td σ H Q:=q
theorem dJ {Q:VK} (q:ty σ H λy H1=>td σ H1 λx H2=>∃a o,x=.ref a/\cL H2 a y o/\Q (.bl (!o.isSome)) H2):rp ty td σ H Q:=q
theorem rD {t:TS} {D:Ends} {a:Addr} {u:HO} (r:Rd H a u) (f:Fz u) (q:∀o,t (xN D H a o u) σ (upd H a (.frz o u))):Ar t D σ H:=⟨a,u,r,f,q⟩
theorem fg {R:It->Hp->Prop} (q:tl σ H λx H1=>∃a o kvs,x=.ref a/\H1 a=some (.frz o (.dK kvs))/\R (Itd a o kvs) H1):vT tl σ H R:=q
theorem ke {K:PySem.W.Frag} (h:X.K=K):IxR X (wP K):=by subst h;exact aH
structure Txt (K:PySem.W.Frag) (mg:Str->Option Value) (TT:Addr):Prop where
 n_len:mg "len" = none
 n_range:mg "range" = none
 n_max:mg "max" = none
 n_min:mg "min" = none
 n_int:mg "int" = none
 n_list:mg "list" = none
 n_str:mg "str" = none
 n_isinstance:mg "isinstance" = none
 n_all:mg "all" = none
 n_set:mg "set" = none
 n_dict:mg "dict" = none
 n_enumerate:mg "enumerate" = none
 n_sorted:mg "sorted" = none
 n_tuple:mg "tuple" = none
 n_bool:mg "bool" = none
 n_zip:mg "zip" = none
 n_reversed:mg "reversed" = none
 n_abs:mg "abs" = none
 tURNED:mg "TURNED" = some (.ref TT)
 tab:rl K TT [("0", .flat (.str "1")),("1", .flat (.str "0"))]
inductive Rl where
 | w (n:Str)|no (r:Rl)|an (a b:Rl)|orr (a b:Rl)
def Rl.ok (ns:List Str):Rl->Prop
 | .w n=>n∈ns
 | .no r=>r.ok ns
 | .an a b=>a.ok ns/\b.ok ns
 | .orr a b=>a.ok ns/\b.ok ns
def Rl.dep:Rl->Nat
 | .w _=>1
 | .no r=>r.dep+1
 | .an a b=>max a.dep b.dep+1
 | .orr a b=>max a.dep b.dep+1
def Rl.val (f:Str->Bool):Rl->Bool
 | .w n=>f n
 | .no r=>!r.val f
 | .an a b=>a.val f&&b.val f
 | .orr a b=>a.val f || b.val f
inductive RAt (H:Hp):V->Rl->Prop where
 | w {a:Addr} {n:Str}:H a=some (.tup [.str "wire", .str n])->RAt H (.ref a) (.w n)
 | no {a:Addr} {v:V} {r:Rl}:H a=some (.tup [.str "not", v])->RAt H v r->RAt H (.ref a) (.no r)
 | an {a:Addr} {v u:V} {r s:Rl}:H a=some (.tup [.str "and", v,u])->RAt H v r->RAt H u s->RAt H (.ref a) (.an r s)
 | orr {a:Addr} {v u:V} {r s:Rl}:H a=some (.tup [.str "or", v,u])->RAt H v r->RAt H u s->RAt H (.ref a) (.orr r s)
def dj (H H':Hp):Prop:=∀b xs,H b=some (.tup xs)->H' b=some (.tup xs)
theorem am.tups (S:am H H'):dj H H':=λb xs e=>S b _ e
theorem RAt.mono (hs:dj H H') {v:V} {r:Rl} (h:RAt H v r):RAt H' v r:=by
 induction h with
 | w e=>exact .w (hs _ _ e)
 | no e _ ih=>exact .no (hs _ _ e) ih
 | an e _ _ i1 i2=>exact .an (hs _ _ e) i1 i2
 | orr e _ _ i1 i2=>exact .orr (hs _ _ e) i1 i2
def GAt (H:Hp) (v:V) (g:Str × Rl):Prop:=∃b rv,v=.ref b/\H b=some (.tup [.str g.1,rv])/\RAt H rv g.2
theorem GAt.mono (hs:dj H H') {v:V} {g:Str × Rl} (h:GAt H v g):GAt H' v g:=let ⟨b,rv,e,h1,h2⟩:=h;⟨b,rv,e,hs _ _ h1,h2.mono hs⟩
structure NAt (H:Hp) (a li lg:Addr) (ins:List Str) (vs:List V) (gs:List (Str × Rl)):Prop where
 ha:H a=some (.tup [.ref li,.ref lg])
 hi:H li=some (.lst (ins.map V.str))
 hg:H lg=some (.lst vs)
 gates:Paired (GAt H) vs gs
theorem kg {H:Hp}:∀{vs:List V} {gs:List (Str × Rl)},Paired (GAt H) vs gs->∀x∈vs,∃a,x=V.ref a
 | _,_,.nil=>λx hx=>nomatch hx
 | _,_,.cons h t=>λx hx=>by
  rcases QV.mp hx with e|hx
  ·obtain⟨b,_,e',_⟩:=h;exact⟨b,e.trans e'⟩
  exact kg t x hx
theorem be {H H':Hp} (hs:dj H H'):∀{vs:List V} {gs:List (Str × Rl)},Paired (GAt H) vs gs->Paired (GAt H') vs gs
 | _,_,.nil=>.nil
 | _,_,.cons h t=>.cons (h.mono hs) (be hs t)
theorem NAt.same {a li lg:Addr} {ins:List Str} {vs:List V} {gs:List (Str × Rl)} (S:am H H') (h:NAt H a li lg ins vs gs):NAt H' a li lg ins vs gs:=⟨S _ _ h.ha,S _ _ h.hi,S _ _ h.hg,be (am.tups S) h.gates⟩
def ap (ins:List Str) (gs:List (Str × Rl)):List Str:=ins++gs.map (·.1)
structure NetOk (ins:List Str) (gs:List (Str × Rl)):Prop where
 nd:(ap ins gs).Nodup
 i4:ins.length<=4
 g1:1<=gs.length
 g7:gs.length<=7
 rules:∀g∈gs,g.2.ok (ap ins gs)/\g.2.dep<=10
structure StOk (n:Nat) (z:Str):Prop where
 len:z.cps.size=n
 signs:∀c∈z.cps.toList,c=48\/c=49
def sg (b:Bool):V:=if b then .str "1" else .str "0"
def sgn (names:List Str) (z:Str) (n:Str):Bool:=z.cps.getD (names.idxOf n) 0==49
def DFn (kvs:List (Key × V)) (names:List Str) (f:Str->Bool):Prop:=∀n∈names,ba kvs (Sum.inr n:Key)=some (sg (f n))
theorem eQ {K:PySem.W.Frag} (h:X.K=K):eB X (.builtin "len") (λxs H Q=>∃p ys,xs=[.ref p]/\(SqL K H p ys\/SqT K H p ys)/\Q (.int ys.length) H):=by subst h;exact aJ
variable {pos p:Pos} {es a:List Expr}
theorem ni {K:PySem.W.Frag} {k:Nat} {t:TGs} {n:Nat} (hK:X.K=K) (hc:X.calm=true) (h:PGs X es t)
  (hn:(assignEach es X.env).length=n:=by rfl) (hst:(assignEach es X.env).findIdx? (·.1)=none:=by rfl):PG X (.Tuple es k pos) (Aa K n t):=by subst hK;exact iw hc h hn hst
theorem d9 {A B:TS} {D:Ends} (J:St->Hp->Prop) (h:∀(R:St->Hp->Prop),(∀σ H,J σ H->R σ H)->A { D with nx:=R } σ H) (hJ:∀σ H,J σ H->B D σ H):wI A B D σ H:=h (B D) hJ
variable {env:Env}
theorem se_tup {n:Nat}:starEach (.Tuple a n p::es) env=(false,eval (.Tuple a n p) env)::starEach es env:=by rfl
theorem se_lst:starEach (.List a p::es) env=(false,eval (.List a p) env)::starEach es env:=by rfl
theorem se_call {f:Expr} {k:List Keyword}:starEach (.Call f a k p::es) env=(false,eval (.Call f a k p) env)::starEach es env:=by rfl
theorem aL {c:Const} {n:Nat}:starEach (.Constant c n p::es) env=(false,eval (.Constant c n p) env)::starEach es env:=by rfl
theorem ae {x:Str}:starEach (.Name x p::es) env=(false,eval (.Name x p) env)::starEach es env:=by rfl
theorem se_bin {a b:Expr} {o:Operator}:starEach (.BinOp a o b p::es) env=(false,eval (.BinOp a o b p) env)::starEach es env:=by rfl
theorem se_lc {a:Expr} {g:List Comprehension} {sc:Scope}:starEach (.ListComp a g sc p::es) env=(false,eval (.ListComp a g sc p) env)::starEach es env:=by rfl
theorem se_sub {a b:Expr}:starEach (.Subscript a b p::es) env=(false,eval (.Subscript a b p) env)::starEach es env:=by rfl
theorem iM {α β:Type} {F:α->β->Prop}:∀{xs:List α} {ys:List β} {x:α} {y:β},Paired F xs ys->F x y->Paired F (xs++[x]) (ys++[y])
 | _,_,_,_,.nil,h=>.cons h .nil
 | _,_,_,_,.cons h t,g=>.cons h (iM t g)
theorem bK {α β:Type} {F G:α->β->Prop} (h:∀a b,F a b->G a b):∀{xs:List α} {ys:List β},Paired F xs ys->Paired G xs ys
 | _,_,.nil=>.nil
 | _,_,.cons a t=>.cons (h _ _ a) (bK h t)
theorem paired_get {α β:Type} {F:α->β->Prop}:∀{xs:List α} {ys:List β} {i:Nat} {x:α},Paired F xs ys->xs[i]?=some x->∃y,ys[i]?=some y/\F x y
 | _,_,_,_,.nil,e=>by simp at e
 | _,_,0,_,.cons r _,e=>by simp at e;subst e;exact⟨_,rfl,r⟩
 | _,_,i+1,x,.cons _ t,e=>by
  obtain⟨u,h1,h2⟩:=paired_get (i:=i) (x:=x) t (by simpa using e);exact⟨u,by simpa using h1,h2⟩
theorem ifT {c:Bool} {A B:Prop} (hc:c=true) (h:A):if c=true then A else B:=by rw[QF hc];exact h
theorem ifF {c:Bool} {A B:Prop} (hc:c=false) (h:B):if c=true then A else B:=by subst hc;exact ck h
theorem aQ {D:Addr} {o:HO} (S:am H H') (hD:H D=none):am H (upd H' D o):=λb u e=>by rw[ak (aD e hD)];exact S b u e
theorem aZ {p:Addr} {o:HO} (h:H p=none) (e:upd H p o=H'):am H H'/\H' p=some o:=by
 subst e;exact⟨aj h,ag⟩
theorem aN {α β:Type} {F:α->β->Prop}:∀{xs:List α} {ys:List β},Paired F xs ys->xs.length=ys.length
 | _,_,.nil=>rfl
 | _,_,.cons h t=>by simp[aN t]
end K2
namespace K2
open PySem L2
abbrev SqLofQ:=@SqL.of
abbrev i_cQ:=@i_c
abbrev i_cbQ:=@dL
abbrev i_consQ:=@aq
abbrev i_ixLQ:=@a_
abbrev i_nilQ:=@aI
abbrev i_opQ:=@br
abbrev i_testQ:=@bi
abbrev i_varQ:=@ai
abbrev iteFQ:=@ck
abbrev iteTQ:=@bX
abbrev pa_consQ:=@aa
abbrev pa_nilQ:=@ad
abbrev pe_intQ:=@af
abbrev pe_lstQ:=@bx
abbrev pe_strQ:=@aM
abbrev pe_tupQ:=@bh
abbrev pss_oneQ:=@a8
abbrev s_asgQ:=@ce
abbrev s_nameQ:=@az
abbrev s_retQ:=@ca
abbrev se_conQ:=@aL
abbrev se_nameQ:=@ae
local macro_rules | `(tactic| walk_at "vc") => `(tactic| first
 | ((refine' (?zz : (?zA → ?zG) → ?zA → ?zG) ?zr ?_); (case zr => with_reducible exact s_seqT); (case zz => exact fun _ q => q); intro D') | ((refine' (?zz : (?zA → ?zG) → ?zA → ?zG) ?zr ?_); (case zr => with_reducible first | exact s_asgQ | exact s_drop | exact s_retQ | exact s_if | exact s_sub | exact s_next | exact i_cQ | exact i_opQ | exact i_testQ | exact i_tB | exact i_and | exact i_or | exact i_not | exact i_andV | exact i_orV | exact i_notV | exact i_ifE | exact i_nilQ | exact i_consQ | exact i_cbQ | exact i_tup | exact i_lst | exact i_bm | exact i_sl | exact i_nopart | exact i_part | exact s_for | exact s_rng1 | exact s_list | exact s_str | exact i_dget | exact i_yes | exact i_un); (case zz => exact fun _ q => q))   | (with_reducible refine s_nameQ ?_)
 | ((with_reducible refine' i_varQ ?hv ?_); (case hv => exact rfl))   | (with_reducible first | refine i_rI0 ?_ | refine i_call ?_ | refine s_strI ?_ | refine iteFQ ?_ | refine iteTQ ?_ | refine i_rU ?_)
 | ((with_reducible show ∃ i, V.int _ = V.int i ∧ _); (refine ⟨_, rfl, ?_⟩)) | ((with_reducible show ∃ k, V.bl _ = V.bl k ∧ _); (refine ⟨_, rfl, ?_⟩)) | ((with_reducible show (∃ i, [V.bl _] = [V.int i] ∧ _) ∨ _); (refine Or.inr ⟨_, rfl, ?_⟩))
 | ((with_reducible refine' i_ixLQ ?ha ?hb ?_); (case ha => exact SqLofQ (by assumption)); (case hb => exact rfl)) | ((with_reducible refine' i_ixT ?ha ?hb ?_); (case ha => assumption); (case hb => exact rfl))
 | ((with_reducible show ∃ p _, [V.ref _] = [V.ref p] ∧ (SqL _ _ _ _ ∨ SqT _ _ _ _) ∧ _); (refine' ⟨_, _, rfl, Or.inl (SqLofQ ?ha), ?_⟩); (case ha => assumption)) | ((with_reducible refine' s_setL ?ha ?hb ?_); (case ha => assumption); (case hb => exact rfl))
 | ((with_reducible refine' i_eq ?ha ?_); (case ha => exact rfl)) | ((with_reducible refine' i_ne ?ha ?_); (case ha => exact rfl))
 | ((with_reducible show ∃ z, V.str _ = V.str z ∧ _); (refine ⟨_, rfl, ?_⟩))
 | ((with_reducible refine' i_rI ?hv ?_); (case hv => first | decide | (dsimp only; omega) | exact .inl ⟨by omega, by omega⟩ | exact .inr ⟨by omega, by omega⟩ | exact ⟨by decide, by decide⟩ | exact ⟨by decide, by decide, by decide⟩ | exact ⟨by omega, by omega⟩))
 | ((with_reducible show ∃ i, [V.int _] = [V.int i] ∧ _); (refine ⟨_, rfl, ?_⟩))
 | ((with_reducible show tyV _ "list" _ _ ∧ _); (refine' ⟨i_tyL ?ha, ?_⟩); (case ha => assumption)))
local macro_rules | `(tactic| walk_at "p") => `(tactic| repeat' (with_reducible first | (refine' pss_oneQ ?_; rotate_left 1) | (refine' pss_cons ?_ ?_; rotate_left 2) | exact pss_nil | (refine' ps_if ?_ ?_ ?_; rotate_left 3)))
local macro_rules | `(tactic| walk_at "b") => `(tactic| ((first | (refine' pss_oneQ ?_; rotate_left 1) | (refine' pss_cons ?_ ?_; rotate_left 2)); walk_at "p"))
local macro_rules | `(tactic| walk_at "f") => `(tactic| (refine' ps_for PassesOwn.never rfl ?_ ?_ ?_ (fun _ => rfl); rotate_left 3))
local macro_rules | `(tactic| walk_at "q") => `(tactic| repeat' (with_reducible first | exact pe_strQ | exact pe_intQ | exact pa_nilQ | (refine' pe_tupQ ?_; rotate_left 1) | (refine' pe_lstQ ?_; rotate_left 1) | (refine' pa_consQ ?_ ?_ se_conQ; rotate_left 2) | (refine' pa_consQ ?_ ?_ se_tup; rotate_left 2) | (refine' pa_consQ ?_ ?_ se_nameQ; rotate_left 2) | (refine' pa_consQ ?_ ?_ se_sub; rotate_left 2) | (refine' pa_consQ ?_ ?_ se_bin; rotate_left 2) | (refine' pa_consQ ?_ ?_ se_lst; rotate_left 2) | (refine' pa_consQ ?_ ?_ se_call; rotate_left 2) | (refine' pa_consQ ?_ ?_ se_lc; rotate_left 2)))
local macro_rules | `(tactic| walk_at "l") => `(tactic| (intro vs H Q E h; repeat (first | (obtain ⟨e, _⟩ := h; subst e; rfl) | (obtain ⟨_, h⟩ := h))))
local macro_rules | `(tactic| walk_at "e") => `(tactic| ((try dsimp only [cxOf, Cx.nox, Cx.wish]); (conv in (L2.start _ _) => simp only [L2.start, QI, List.map_nil, QQ, List.length_nil, List.replicate_succ, List.replicate_zero, List.cons_append, List.nil_append, Nat.reduceAdd, Nat.reduceSub]); have big : 100000 < sizeLine := by decide))
local macro_rules | `(tactic| walk_at "s") => `(tactic| (with_reducible first | refine s_seq ?_ | refine s_if ?_ | refine s_next ?_ | refine i_or ?_ | refine s_nameQ ?_ | refine s_retQ ?_))
local macro_rules|`(tactic|walk_at "w")=>`(tactic|repeat walk_at "vc")
local macro_rules|`(tactic|walk_at "k")=>`(tactic|exact⟨rfl,rfl,rfl,by decide +kernel,rfl,by decide +kernel,by decide +kernel⟩)
def mB:Sp:=λvs H Q _=>∃a li lg ins gvs gs,vs=[.ref a]/\NAt H a li lg ins gvs gs/\NetOk ins gs/\∀l H',am H H'->H l=none->H' l=some (.lst ((ap ins gs).map V.str))->Q (.ref l) H'
def mF:Sp:=λvs H Q _=>∃a li lg ins gvs gs,vs=[.ref a]/\NAt H a li lg ins gvs gs/\NetOk ins gs/\∀l H',am H H'->H l=none->H' l=some (.lst ((gs.map (·.1)).map V.str))->Q (.ref l) H'
variable {gvs vs ys us:List V} {a li lg f T b l p q F a' li' lg':Addr} {i n j t m B:Nat} {Q:VK} {H H' H1 H2 H3 H4:Hp} {σ:St} {K:PySem.W.Frag}
theorem ub {c:Int} {vals:List V} (hσ:σ[i]?=some (some (.ref a))) (ha:H a=some (.tup [.ref li,.ref lg])) (hg:H lg=some (.lst gvs)) (hs:gvs.length<=1000)
  (hx:∀(j:Nat) x,gvs[j]?=some x->∃b ys v,x=.ref b/\H b=some (.tup ys)/\atI ys c=some v/\vals[j]?=some v) (hl:vals.length=gvs.length)
  (q:∀D H',H D=none->am H H'->H' D=some (.lst vals)->Q (.ref D) H') :
  lF (pB K (tOp (oN K) (cX i) (tC (V.int 1)))) (fz 0) ie (tOp (oN K) (cX 0) (tC (V.int c))) (b_ [Str.ofString "gate"] []) σ H Q:=by
 refine bS (s_list (br (ai hσ (i_c (i_ixT ha rfl ⟨lg,rfl,⟨_,SqL.of hg⟩,λD hD=>?_⟩)))));have big:1000<sizeLine:=by decide
 refine bU (xs:=gvs) (λn H' ys=>am H H'/\H' D=some (.lst ys)/\ys=vals.take n) ⟨aj hD,ag,by simp⟩ (λn H' ys p=>⟨p.2.1,SqL.of (p.1 _ _ hg)⟩) (λn x H' ys e p=>?_) (λH' ys p=>?_)
 ·obtain⟨S,hd,rfl⟩:=p;obtain⟨b,zs,v,rfl,hb,hv,hv2⟩:=hx n x e;have hn:n<gvs.length:=(Qe.mp e).1;refine az ⟨trivial,?_⟩;refine i_yes (bX ?_);refine br (ai rfl (i_c (i_ixT (S _ _ hb) hv (bV.mk hd hn (by rw[Qs];omega) ⟨aQ S hD,ag,?_⟩))));rw[QP,hv2];rfl
 obtain⟨S,hd,rfl⟩:=p;exact q D H' hD S (by rw[hd,Qt (by omega)])
theorem dA {α β:Type} {F:α->β->Prop}:∀{xs:List α} {ys:List β},Paired F xs ys->∀(j:Nat) x,xs[j]?=some x->∃y,ys[j]?=some y/\F x y
 | _,_,.nil=>λj x e=>by simp at e
 | _,_,.cons (a:=a) (b:=b) h t=>λj x e=>by
  cases j with
  | zero=>simp at e;subst e;exact⟨_,rfl,h⟩
  | succ j=>simp at e;obtain⟨y,e',f⟩:=dA t j x e;exact⟨y,by simpa using e',f⟩
variable {gs:List (Str × Rl)} {ins ns ms xs zs ss:List Str}
theorem qX {Q:VK} (hσ:σ[i]?=some (some (.ref a))) (NA:NAt H a li lg ins gvs gs) (ok:NetOk ins gs)
  (q:∀D H',H D=none->am H H'->H' D=some (.lst ((gs.map (·.1)).map V.str))->Q (.ref D) H') :
  lF (pB K (tOp (oN K) (cX i) (tC (V.int 1)))) (fz 0) ie (tOp (oN K) (cX 0) (tC (V.int 0))) (b_ [Str.ofString "gate"] []) σ H Q:=by
 have l:=aN NA.gates;have g7:=ok.g7;refine ub (vals:=(gs.map (·.1)).map V.str) hσ NA.ha NA.hg (by omega) (λj x e=>?_) (by simp[l]) q;obtain⟨g,e',b,rv,rfl,hb,hr⟩:=dA NA.gates j x e;exact⟨b,_,_,rfl,hb,rfl,by simp[e']⟩
theorem lC (ok:NetOk ins gs):(ins.map V.str).length+((gs.map (·.1)).map V.str).length<=sizeLine:=by
 have g7:=ok.g7;have i4:=ok.i4;have big:1000<sizeLine:=by decide
 simp only[Qa];omega
theorem lB (ins:List Str) (gs:List (Str × Rl)):ins.map V.str++(gs.map (·.1)).map V.str=(ap ins gs).map V.str:=by unfold ap;rw[Qr]
variable {P:Program} {w:World} {K:PySem.W.Frag} {mg:Str->Option Value} {base:Heap} {TT:Addr}
section
theorem oK:FnScope ["net"] ["net"] (aA (top 8)):=by walk_at "k"
theorem vp {f:Addr} {fd:FuncData} (Fu:Fun K "gates_of" "gates_of" (top 8) f fd) (T:Txt K mg TT):FnOk P w K mg base CX0 1 f fd ["net"] mF:=by
 have S:=oK;refine Fu.ok S (by walk_at "l") (λcdv A outer s H vs Q E hr h=>?_);obtain⟨a,li,lg,ins,gvs,gs,rfl,NA,ok,k⟩:=h;refine⟨_,(a8 (aE (dr (tgs:=["gate"]) (cap:=[]) rfl ⟨rfl,rfl,rfl,rfl,rfl,rfl⟩ (bu (aC aU (pv 0) af (λ_ _=>rfl))) (λ_ _ _ _=>(bj (i:=0) (show List.Nodup [("gate" : Str)] by decide +kernel) rfl (by walk_at "z"))) (λ_ _ _ _=>bq) (λ_ _ _ _=>(aC (je (K:=K) rfl) (pv 0) af (λ_ _=>rfl)))))),?_⟩;walk_at "e";refine qX (Q:=Q) rfl NA ok λD H2 hD s2 h2=>?_;exact k D H2 s2 hD h2
theorem oz:FnScope ["net"] ["net"] (aA (top 9)):=by walk_at "k"
theorem vk {f:Addr} {fd:FuncData} (Fu:Fun K "wires_of" "wires_of" (top 9) f fd) (T:Txt K mg TT) (f_gates_of:Fn P w K mg base "gates_of" ["net"] 1 mF):FnOk P w K mg base CX0 2 f fd ["net"] mB:=by
 have S:=oz;refine Fu.ok S (by walk_at "l") (λcdv A outer s H vs Q E hr h=>?_);obtain⟨a,li,lg,ins,gvs,gs,rfl,NA,ok,k⟩:=h;obtain⟨ha,hi,hg,gts⟩:=id NA;refine⟨_,(a8 (aE (av jR (d6 dU (by rfl) T.n_list Xu (aa (aC aU (pv 0) af (λ_ _=>rfl)) ad)) (aP f_gates_of hr (aa (pv 0) ad))))),?_⟩;walk_at "e";walk_at "w";intro l hl;have s1:=aj (o:=.lst (ins.map V.str)) hl;have NA1:=NA.same s1;walk_at "w";refine⟨a,li,lg,ins,gvs,gs,rfl,NA1,ok,λD H2 s2 hD h2=>?_⟩;have hl2:H2 l=some (.lst (ins.map V.str)):=s2 _ _ ag;refine pA hl2 h2 (lC ok) λp hp=>?_;have hs:am H (upd H2 p (HO.lst (ins.map V.str++(gs.map (·.1)).map V.str))):=s1.trans (s2.trans (aj hp));refine k p _ hs (am.free (s1.trans s2) hp) ?_;rw[ag,lB]
end
def jz (v:V):Sp:=λvs H Q _=>∃a li lg ins gvs gs z,vs=[.ref a,.str z]/\NAt H a li lg ins gvs gs/\NetOk ins gs/\StOk (ap ins gs).length z/\∀H',am H H'->Q v H'
def stB (n:Nat) (z:Str):Bool:=decide (z.cps.size=n)&&z.cps.toList.all λc=>c==48 || c==49
variable {z y s x h:Str}
theorem mw:stB n z=true↔StOk n z:=by
 unfold stB;rw[Xl,XR,QK];exact⟨λh=>⟨h.1,λc hc=>by simpa using h.2 c hc⟩,λh=>⟨h.len,λc hc=>by simpa using h.signs c hc⟩⟩
def uC:Sp:=λvs H Q _=>∃(z:Str) (m:Nat),vs=[.str z,.int (m:Int)]/\z.length<=1000/\∀H',am H H'->Q (.bl (stB m z)) H'
def i8:Sp:=λvs H Q _=>∃a li lg ins gvs gs z,vs=[.ref a,.str z]/\NAt H a li lg ins gvs gs/\NetOk ins gs/\z.length<=1000/\∀H',am H H'->Q (.bl (stB (ap ins gs).length z)) H'
theorem zY (c:Nat):PyProof.Rows.KTD.inKeys (⟨#[c]⟩:Str) [(("0" : Str),PyProof.Rows.KTD.Dat.flat (PyData.str "1")),("1", .flat (.str "0"))]=(c==48 || c==49):=by
 by_cases h:c=48
 ·subst h;decide +kernel
 by_cases h2:c=49
 ·subst h2;decide +kernel
 rw[beq_false_of_ne h,beq_false_of_ne h2];have e:∀d:Nat,c≠d->decide ((⟨#[c]⟩:Str)=⟨#[d]⟩)=false:=λd n=>QU λz=>n (by cases z;rfl);show (decide ((⟨#[c]⟩:Str)=⟨#[48]⟩) || (decide ((⟨#[c]⟩:Str)=⟨#[49]⟩) || false))=false;rw[e 48 h,e 49 h2];rfl
section
theorem sT:FnScope ["thing", "many"] ["thing", "many"] (aA (top 7)):=by walk_at "k"
variable {fd:FuncData} {f:Addr}
theorem zP (Fu:Fun K "is_row" "is_row" (top 7) f fd) (T:Txt K mg TT):FnOk P w K mg base CX0 1 f fd ["thing", "many"] uC:=by
 have S:=sT;refine Fu.ok S (by walk_at "l") (λcdv A outer s H vs Q E hr h=>?_);obtain⟨z,m,rfl,hz,k⟩:=h
 refine⟨_,(pss_cons (ps_if (PW.pt (dq (c8 (cK (aB bB (by rfl) T.n_isinstance QY (aa (pv 0) (aa (c_ (v:=.ty "str") (by rfl) T.n_str PyProof.Rows.boot_str rfl) ad))))) (cR (aG fL (aB dW (by rfl) T.n_len QH (aa (pv 0) ad)) (pv 1) (aK _))))) (a8 (aE bR)) pss_nil)
  (a8 (aE (aB (fR rfl) (by rfl) T.n_all PyProof.Rows.boot_all (aa (dr (tgs:=["sign"]) (cap:=[]) rfl ⟨rfl,rfl,rfl,rfl,rfl,rfl⟩ (zi (pv 0)) (λ_ _ _ _=>(bj (i:=0) (show List.Nodup [("sign" : Str)] by decide +kernel) rfl (by walk_at "z"))) (λ_ _ _ _=>bq) (λ_ _ _ _=>(c9 (s_ T.tab) (pv 0) (rK (v:=.ref TT) (by rfl) T.tURNED rfl) rfl))) ad))))),?_⟩
 walk_at "e";walk_at "w";refine⟨_,_,_,_,rfl,TyOf.str z,dh "str", ?_⟩;refine⟨_,rfl,ck ?_⟩;have big:1000<sizeLine:=by decide
 walk_at "w";refine⟨_,rfl,(by omega),?_⟩;walk_at "w";by_cases cz:z.length=m
 case neg =>
  refine ifT (by rw[QU λh=>cz (by injection h with h;omega)];rfl) ?_;walk_at "w"
  have e:stB m z=false:=by
   unfold stB;rw[QU (show ¬z.cps.size=m from cz)];rfl
  have:=k H (am.refl _);rwa [e]at this
 refine ifF (by rw[cz];simp) ?_;walk_at "w";refine bS ?_;walk_at "w";intro D hD;let I1:IvC:=λn H' ys=>am H H'/\H' D=some (.lst ys)/\ys=((z.cps.toList.take n).map λc=>c==48 || c==49).map V.bl;refine wj I1 ⟨aj hD,ag,rfl⟩ (λn H' ys p=>p.2.1) (λn H' ys hn p=>?_) (λH' ys p=>?_)
 ·obtain⟨Sm,hd,rfl⟩:=p;refine az ⟨trivial,i_yes (bX ?_)⟩;refine br (ai rfl (i_c ⟨_,rfl,rfl,?_⟩));have zl:z.cps.size=z.length:=rfl;refine bV.mk hd hn (by rw[Qa,Qa,Qs];omega) ⟨aQ Sm hD,ag,?_⟩
  have e:z.cps.toList[n]?=some (z.cps.getD n 0):=by
   rw[Qy,Q6 hn];simp[Array.getD,hn]
  rw[QP,e,XB,Qr,Qr];exact congrArg (λb=>((z.cps.toList.take n).map λc=>c==48 || c==49).map V.bl++[V.bl b]) (zY _)
 obtain⟨Sm,hd,rfl⟩:=p;refine aI ⟨_,_,rfl,SqL.of hd,?_⟩
 have e:(((z.cps.toList.take z.cps.size).map λc=>c==48 || c==49)).all id=stB m z:=by
  unfold stB;rw[Q7 (show z.cps.size=m from cz),Bool.true_and,List.all_map,Qt (by rw[Qo];exact Qg _)];rfl
 rw[e];exact k H' Sm
theorem jH:FnScope ["net", "thing"] ["net", "thing"] (aA (top 10)):=by walk_at "k"
theorem xh (Fu:Fun K "is_standing" "is_standing" (top 10) f fd) (T:Txt K mg TT) (f_is_row:Fn P w K mg base "is_row" ["thing", "many"] 1 uC):FnOk P w K mg base CX0 2 f fd ["net", "thing"] i8:=by
 have S:=jH;refine Fu.ok S (by walk_at "l") (λcdv A outer s H vs Q E hr h=>?_);obtain⟨a,li,lg,ins,gvs,gs,z,rfl,NA,ok,st,k⟩:=h;obtain⟨ha,hi,hg,gts⟩:=id NA;refine⟨_,(a8 (aE (aP f_is_row hr (aa (pv 1) (aa (av aV (aB aJ (by rfl) T.n_len QH (aa (aC aU (pv 0) af (λ_ _=>rfl)) ad)) (aB aJ (by rfl) T.n_len QH (aa (aC aU (pv 0) af (λ_ _=>rfl)) ad))) ad))))),?_⟩;walk_at "e"
 have hz:(ap ins gs).length=ins.length+gs.length:=by
  unfold ap;rw[Qj,Qa]
 have lg:=aN NA.gates;walk_at "w";refine⟨z,(ap ins gs).length,?_,st,λH' Sm=>k H' Sm⟩;rw[Qa,lg,hz];rfl
theorem gN:FnScope ["net", "thing"] ["net", "thing"] (aA (top 11)):=by walk_at "k"
theorem vv (Fu:Fun K "check_standing" "check_standing" (top 11) f fd) (T:Txt K mg TT) (f_is_standing:Fn P w K mg base "is_standing" ["net", "thing"] 2 i8):FnOk P w K mg base CX0 3 f fd ["net", "thing"] (jz .non):=by
 have S:=gN;refine Fu.ok S (by walk_at "l") (λcdv A outer s H vs Q E hr h=>?_);obtain⟨a,li,lg,ins,gvs,gs,z,rfl,NA,ok,st,k⟩:=h;refine⟨_,(a8 (ps_if (c8 (cK (aP f_is_standing hr (aa (pv 0) (aa (pv 1) ad))))) sW pss_nil)),?_⟩;walk_at "e";walk_at "w";have w11:(ap ins gs).length<=11:=by unfold ap;rw[Qj,Qa];have:=ok.i4;have:=ok.g7;omega
 have zl:z.length=(ap ins gs).length:=st.len;refine⟨a,li,lg,ins,gvs,gs,z,rfl,NA,ok,by omega,λH' Sm=>⟨_,rfl,?_⟩⟩;rw[mw.mpr st];exact ck (k H' Sm)
def eG (d:Nat):Sp:=λvs H Q _=>∃v a kvs r ns g,vs=[v,.ref a]/\RAt H v r/\r.dep<=d/\r.ok ns/\H a=some (.dK kvs)/\DFn kvs ns g/\Q (.bl (r.val g)) H
theorem gv {k:Nat} {ps:List Str} {sp:Sp} (h:∀vs H Q E,sp vs H Q E->False):FnOk P w K mg base CX0 k f fd ps sp :=
 ⟨λvs H Q E q=>(h vs H Q E q).elim,λ_ _ _ _ _ _ vs Q E _ _ _ _ q=>(h _ _ _ _ q).elim⟩
theorem si (r:Rl):1<=r.dep:=by cases r <;> simp[Rl.dep]
theorem qh (b:Bool):decide (sg b=V.str "1")=b:=by
 cases b
 ·decide +kernel
 decide +kernel
theorem kX:FnScope ["rule", "signs", "kind"] ["rule", "signs"] (aA (top 12)):=by walk_at "k"
theorem oX {f:Addr} {fd:FuncData} (Fu:Fun K "rule_holds" "rule_holds" (top 12) f fd) (T:Txt K mg TT) (hm:mg "rule_holds" = some (.ref f)) (hk:PySem.W.keepIn K (.ref f)=true) (hb:hZ K fd ["rule", "signs"] []):∀d,FnOk P w K mg base CX0 d f fd ["rule", "signs"] (eG d)
 | 0=>gv λvs H Q E ⟨v,a,kvs,r,ns,g,_,_,h,_⟩=>by have:=si r;omega
 | d+1=>by
  have S:=kX;have f_rule_holds:Fn P w K mg base "rule_holds" ["rule", "signs"] d (eG d):=⟨f,fd,oX Fu T hm hk hb d,hm,hk,hb⟩;refine Fu.ok S (λvs H Q E h=>?_) (λcdv A outer s H vs Q E hr h=>?_)
  ·obtain⟨v,a,kvs,r,ns,g,rfl,_⟩:=h;rfl
  obtain⟨v,a,kvs,r,ns,g,rfl,ra,hd,rok,ha,hf,q⟩:=h;have hu:=du hr
  refine⟨_,(pss_cons (aF 2 S.nd (aC aU (pv 0) af (λ_ _=>rfl)))
  (pss_cons (ps_if (aG cA (pv 2) aM (aK _)) (a8 (aE (c9 cA (bC hu (pv 1) (aC aU (pv 0) af (λ_ _=>rfl)) (λ_ _=>rfl)) aM (aK _)))) pss_nil)
  (pss_cons (ps_if (aG cA (pv 2) aM (aK _)) (a8 (aE (qp (aP f_rule_holds hr (aa (aC aU (pv 0) af (λ_ _=>rfl)) (aa (pv 1) ad)))))) pss_nil)
  (pss_cons (ps_if (aG cA (pv 2) aM (aK _)) (a8 (aE (fK (aP f_rule_holds hr (aa (aC aU (pv 0) af (λ_ _=>rfl)) (aa (pv 1) ad))) (fI (aP f_rule_holds hr (aa (aC aU (pv 0) af (λ_ _=>rfl)) (aa (pv 1) ad))))))) pss_nil)
  (a8 (aE (yh (aP f_rule_holds hr (aa (aC aU (pv 0) af (λ_ _=>rfl)) (aa (pv 1) ad))) (fI (aP f_rule_holds hr (aa (aC aU (pv 0) af (λ_ _=>rfl)) (aa (pv 1) ad))))))))))),?_⟩
  walk_at "e"
  cases ra with
  | @w b n hb =>
   walk_at "w";refine ifT (by decide +kernel) ?_;walk_at "w";have hv:ba kvs (Sum.inr n:Key)=some (sg (g n)):=hf n rok;refine⟨a,sg (g n),rfl,by rw[<-hv];exact cL.k (k:=Sum.inr n) ha,?_⟩;walk_at "w";refine i_eq (by cases g n <;> rfl) ?_;rw[qh];exact q
  | @no b u r hb hr1 =>
   walk_at "w";refine ifF (by decide +kernel) ?_;walk_at "w";refine ifT (by decide +kernel) ?_;walk_at "w";exact⟨u,a,kvs,r,ns,g,rfl,hr1,by simp only[Rl.dep]at hd;omega,rok,ha,hf,⟨_,rfl,q⟩⟩
  | @an b u x r1 r2 hb hr1 hr2 =>
   walk_at "w";refine ifF (by decide +kernel) ?_;walk_at "w";refine ifF (by decide +kernel) ?_;walk_at "w";refine ifT (by decide +kernel) ?_;walk_at "w";simp only[Rl.dep]at hd;refine⟨u,a,kvs,r1,ns,g,rfl,hr1,by omega,rok.1,ha,hf,⟨_,rfl,?_⟩⟩;have e:Rl.val g (Rl.an r1 r2)=(r1.val g&&r2.val g):=rfl;rw[e]at q
   cases hv:r1.val g with
   | false=>rw[hv]at q;exact ck q
   | true =>
   rw[hv]at q;refine bX ?_;walk_at "w";exact⟨x,a,kvs,r2,ns,g,rfl,hr2,by omega,rok.2,ha,hf,q⟩
  | @orr b u x r1 r2 hb hr1 hr2 =>
  walk_at "w";refine ifF (by decide +kernel) ?_;walk_at "w";refine ifF (by decide +kernel) ?_;walk_at "w";refine ifF (by decide +kernel) ?_;walk_at "w";simp only[Rl.dep]at hd;refine⟨u,a,kvs,r1,ns,g,rfl,hr1,by omega,rok.1,ha,hf,⟨_,rfl,?_⟩⟩;have e:Rl.val g (Rl.orr r1 r2)=(r1.val g || r2.val g):=rfl;rw[e]at q
  cases hv:r1.val g with
  | true=>rw[hv]at q;exact bX q
  | false =>
  rw[hv]at q;refine ck ?_;walk_at "w";exact⟨x,a,kvs,r2,ns,g,rfl,hr2,by omega,rok.2,ha,hf,q⟩
def my (d:Nat):Sp:=λvs H Q _=>∃v a kvs r ns g,vs=[v,.ref a]/\RAt H v r/\r.dep<=d/\r.ok ns/\H a=some (.dK kvs)/\DFn kvs ns g/\Q (sg (r.val g)) H
theorem kW:FnScope ["rule", "signs"] ["rule", "signs"] (aA (top 13)):=by walk_at "k"
theorem vj (Fu:Fun K "rule_worth" "rule_worth" (top 13) f fd) (T:Txt K mg TT) (f_rule_holds:Fn P w K mg base "rule_holds" ["rule", "signs"] 10 (eG 10)):FnOk P w K mg base CX0 11 f fd ["rule", "signs"] (my 10):=by
 have S:=kW;refine Fu.ok S (by walk_at "l") (λcdv A outer s H vs Q E hr h=>?_);obtain⟨v,a,kvs,r,ns,g,rfl,ra,hd,rok,ha,hf,q⟩:=h;refine⟨_,(a8 (aE (uV (cK (aP f_rule_holds hr (aa (pv 0) (aa (pv 1) ad)))) aM aM))),?_⟩;walk_at "e";walk_at "w";refine⟨v,a,kvs,r,ns,g,rfl,ra,hd,rok,ha,hf,⟨_,rfl,?_⟩⟩
 cases hv:r.val g with
 | true=>rw[hv]at q;exact bX q
 | false=>rw[hv]at q;exact ck q
end
theorem fo {k:Key}:∀{qs kvs:List (Key × V)},k∉qs.map (·.1)->ba (bw kvs qs) k=ba kvs k
 | [],kvs,_=>rfl
 | q::qs,kvs,h=>by
  simp only[QI,QV,not_or]at h;show ba (bw (cg kvs q.1 q.2) qs) k=_;rw[fo h.2,oh,QB h.1]
theorem fB {k:Key} {v:V}:∀{qs kvs:List (Key × V)},(qs.map (·.1)).Nodup->(k,v)∈qs->ba (bw kvs qs) k=some v
 | [],kvs,_,h=>nomatch h
 | q::qs,kvs,nd,h=>by
  rw[QI,Q5]at nd;show ba (bw (cg kvs q.1 q.2) qs) k=_;rcases QV.mp h with e|h
  ·subst e;rw[fo nd.1,oh,QF rfl]
  exact fB nd.2 h
theorem n5 (ns:List Str) (z:Str):(cY ns z).map (·.1)=ns.map Sum.inr:=by
 unfold cY;rw[QW];have e:((λx:Key × V=>x.1)∘λp:Str × Nat=>((Sum.inr p.1:Key),fv z p.2))=(λp:Str × Nat=>(Sum.inr p.1:Key)):=rfl;rw[e];have e2:(λp:Str × Nat=>(Sum.inr p.1:Key))=(Sum.inr:Str->Key)∘Prod.fst:=rfl;rw[e2,<-QW,List.zipIdx_map_fst]
theorem tM (h:ns.Nodup):(ns.map (Sum.inr:Str->Key)).Nodup:=by
 induction ns with
 | nil=>exact List.nodup_nil
 | cons a r ih =>
 rw[Q5]at h;rw[QI,Q5];refine⟨λm=>?_,ih h.2⟩;obtain⟨x,hx,e⟩:=Qk.mp m;cases e;exact h.1 hx
theorem i9 (st:StOk n z) (hi:i<n):fv z i=sg (z.cps.getD i 0==49):=by
 have hl:=st.len;have e:z.cps.getD i 0=z.cps[i]'(by omega):=by simp[Array.getD,hl,hi]
 have:z.cps.getD i 0=48\/z.cps.getD i 0=49:=by
  rw[e];exact st.signs _ (by simp)
 unfold fv;rcases this with e|e
 ·rw[e];decide +kernel
 rw[e];decide +kernel
theorem sf (nd:ns.Nodup) (st:StOk ns.length z):DFn (bw [] (cY ns z)) ns (sgn ns z):=λn hn=>by
 have hi:ns.idxOf n<ns.length:=List.idxOf_lt_length_of_mem hn;have e:ns[ns.idxOf n]?=some n:=by rw[Qc hi];exact congrArg some (List.getElem_idxOf hi)
 have hm:((Sum.inr n:Key),fv z (ns.idxOf n))∈cY ns z:=by
  unfold cY;refine Qk.mpr ⟨(n,ns.idxOf n),?_,rfl⟩;rw[List.mem_zipIdx_iff_getElem?];exact e
 rw[fB (by rw[n5];exact tM nd) hm,i9 st hi];rfl
def ii:Sp:=λvs H Q _=>∃a li lg ins gvs gs z,vs=[.ref a,.str z]/\NAt H a li lg ins gvs gs/\NetOk ins gs/\StOk (ap ins gs).length z /\
 ∀d H' kvs,am H H'->H' d=some (.dK kvs)->DFn kvs (ap ins gs) (sgn (ap ins gs) z)->Q (.ref d) H'
section
theorem oA:FnScope ["net", "standing"] ["net", "standing"] (aA (top 14)):=by walk_at "k"
theorem qu {f:Addr} {fd:FuncData} (Fu:Fun K "signs_in" "signs_in" (top 14) f fd) (T:Txt K mg TT) (f_wires_of:Fn P w K mg base "wires_of" ["net"] 2 mB):FnOk P w K mg base CX0 3 f fd ["net", "standing"] ii:=by
 have S:=oA;refine Fu.ok S (by walk_at "l") (λcdv A outer s H vs Q E hr h=>?_);obtain⟨a,li,lg,ins,gvs,gs,z,rfl,NA,ok,st,k⟩:=h;refine⟨_,(a8 (aE (rL rfl (by rfl) T.n_dict (by rfl) T.n_zip (aa (aP f_wires_of hr (aa (pv 0) ad)) (aa (pv 1) ad))))),?_⟩;walk_at "e"
 have wl:(ap ins gs).length<1000:=by
  have i4:=ok.i4;have g7:=ok.g7;unfold ap;rw[Qj,Qa];omega
 walk_at "w";show bY _ _ _ _ _;walk_at "w";refine⟨a,li,lg,ins,gvs,gs,rfl,NA,ok,λl H1 S1 hl h1=>?_⟩;walk_at "w";refine⟨l,ap ins gs,z,rfl,SqL.of h1,by rw[st.len];omega,wl,λd hd=>?_⟩;exact k d _ _ (S1.trans (aj hd)) ag (sf ok.nd st)
end
def dP (z:Str) (i:Nat):Str:=if (z.cps.getD i 0==49)=true then "0" else "1"
def fu (z:Str) (i:Nat):Str:=(Txt.slice z none (some (i:Int))++dP z i)++Txt.slice z (some ((i:Int)+1)) none
def js:Sp:=λvs H Q _=>∃(z:Str) (n i:Nat),vs=[.str z,.int (i:Int)]/\StOk n z/\i<n/\n<=11/\Q (.str (fu z i)) H
section
theorem nN {n:Nat} {z:Str} (st:StOk n z) {i:Nat} (hi:i<n):atI z.cps.toList ((i:Nat):Int)=some (z.cps.getD i 0):=by
 have hl:=st.len;refine cC ?_;simp[Array.getD,hl,hi]
theorem mL:FnScope ["standing", "place"] ["standing", "place"] (aA (top 15)):=by walk_at "k"
theorem tw {f:Addr} {fd:FuncData} (Fu:Fun K "turned_at" "turned_at" (top 15) f fd) (T:Txt K mg TT):FnOk P w K mg base CX0 1 f fd ["standing", "place"] js:=by
 have S:=mL;refine Fu.ok S (by walk_at "l") (λcdv A outer s H vs Q E hr h=>?_);obtain⟨z,n,i,rfl,st,hi,hn,k⟩:=h;refine⟨_,(a8 (aE (av cG (av cG (bJ fE (pv 0) cw (cu (pv 1))) (aC (xr T.tab) (rK (v:=.ref TT) (by rfl) T.tURNED rfl) (aC eP (pv 0) (pv 1) (λ_ _=>rfl)) (λ_ _=>rfl))) (bJ fE (pv 0) (cu (av aV (pv 1) af)) cw)))),?_⟩;walk_at "e";have hz:z.length=n:=st.len;have big:1000<sizeLine:=by decide
 walk_at "w";have s1:=Txt.slice_le z none (some (i:Int));have s2:=Txt.slice_le z (some ((i:Int)+1)) none
 have fl:(dP z i).length=1:=by
  unfold dP
  split
  ·decide +kernel
  decide +kernel
 refine iP (by omega) ?_;refine br (i_c ?_);refine br (ai rfl (ai rfl (gd (by omega) (nN st hi) ?_)));have e:=i9 st hi;unfold fv at e;rw[e]
 have step:∀(b:Bool) (G:VK),G (.str (if b=true then "0" else "1")) H->rE TT (.ref TT) (sg b) H G:=λb G g=>by
  cases b
  ·exact⟨rfl,.inl ⟨rfl,g⟩⟩
  exact⟨rfl,.inr ⟨rfl,g⟩⟩
 refine step _ _ ?_;show ∃i_1 j,V.str _=V.str i_1/\V.str (dP z i)=V.str j/\_;have l1:(Txt.slice z none (some (i:Int))++dP z i).length=(Txt.slice z none (some (i:Int))).length+(dP z i).length:=Xx;refine⟨_,_,rfl,rfl,by omega,?_⟩;walk_at "w";refine iP (by omega) ?_;exact⟨_,_,rfl,rfl,by rw[l1];omega,k⟩
end
theorem kh {xs:Array Nat}:∀(j a:Nat),a+j<=xs.size->((List.range j).map λk=>a+k).filterMap (xs[·]?)=(xs.toList.drop a).take j
 | 0,a,_=>by simp
 | j+1,a,h=>by
  rw[List.range_succ,Qr,List.filterMap_append,kh j a (by omega),QP];have e:(xs.toList.drop a)[j]?=xs[a+j]?:=by rw[XN];simp
  rw[e];have q:xs[a+j]?=some (xs[a+j]'(by omega)):=by rw[Q6]
  simp[q]
theorem jD {a b:Nat} {lo hi:Option Int} (hl:PySem.Builtin.Str.strSliceIndices lo hi 1 z.length=(List.range (b-a)).map λk=>a+k) (hb:b<=z.cps.size) (hab:a<=b):(Txt.slice z lo hi).cps.toList=(z.cps.toList.drop a).take (b-a):=by
 unfold Txt.slice;rw[hl]
 split
 ·rename_i h
  have h:b-a=z.length:=by simpa using h
  have h':z.length=z.cps.size:=rfl;have a0:a=0:=by omega
  subst a0;rw[List.drop_zero,Qt (by rw[Qo];omega)]
 exact kh (b-a) a (by omega)
theorem jC {z:Str} {j:Nat} (h:j<=z.cps.size):(Txt.slice z none (some (j:Int))).cps.toList=z.cps.toList.take j:=by
 have h':z.length=z.cps.size:=rfl;refine(jD (a:=0) (b:=j) ?_ h (QN _)).trans (by simp);unfold PySem.Builtin.Str.strSliceIndices sliceRange
 have e:max 0 (min (if (j:Int)<0 then (j:Int)+z.length else (j:Int)) (z.length:Int))=(j:Int):=by
  rw[QB (Int.not_lt.mpr (Int.natCast_nonneg _)),Int.min_eq_left (show _<=(z.length:Int) from Int.ofNat_le.mpr h),Int.max_eq_right (Int.natCast_nonneg _)]
 simp only[show (1:Int)>0 from by decide,if_true,e]
 have c:(if (0:Int)<(j:Int) then ((j:Int)-0+1-1) / 1 else 0).toNat=j-0:=by
  rw[Int.ediv_one,Int.add_sub_cancel,Int.sub_zero,Nat.sub_zero]
  split
  ·rfl
  omega
 rw[c];refine List.map_congr_left λk _=>?_;omega
theorem jE {z:Str} {a:Nat} (h:a<=z.cps.size):(Txt.slice z (some (a:Int)) none).cps.toList=z.cps.toList.drop a:=by
 have h':z.length=z.cps.size:=rfl;refine(jD (a:=a) (b:=z.cps.size) ?_ (Qg _) h).trans (by rw[Qt (by rw[Q4,Qo];omega)]);unfold PySem.Builtin.Str.strSliceIndices sliceRange
 have e:max 0 (min (if (a:Int)<0 then (a:Int)+z.length else (a:Int)) (z.length:Int))=(a:Int):=by
  rw[QB (Int.not_lt.mpr (Int.natCast_nonneg _)),Int.min_eq_left (show _<=(z.length:Int) from Int.ofNat_le.mpr h),Int.max_eq_right (Int.natCast_nonneg _)]
 simp only[show (1:Int)>0 from by decide,if_true,e]
 have c:(if (a:Int)<(z.length:Int) then ((z.length:Int)-(a:Int)+1-1) / 1 else 0).toNat=z.cps.size-a:=by
  rw[Int.ediv_one,Int.add_sub_cancel,h']
  split
  ·rw[<-Int.ofNat_sub h];rfl
  omega
 rw[c];refine List.map_congr_left λk _=>?_;omega
theorem rg (st:StOk n z) (hi:i<n):StOk n (fu z i):=by
 have hl:=st.len;have a:=jC (z:=z) (j:=i) (by omega);have b:=jE (z:=z) (a:=i+1) (by omega);rw[show ((i+1:Nat):Int)=(i:Int)+1 from by omega]at b
 have f:(dP z i).cps.toList=[48]\/(dP z i).cps.toList=[49]:=by
  unfold dP
  split
  ·exact .inl (by decide +kernel)
  exact .inr (by decide +kernel)
 have e:(fu z i).cps.toList=(z.cps.toList.take i++(dP z i).cps.toList)++z.cps.toList.drop (i+1):=by
  unfold fu;show ((_++_)++_:Array Nat).toList=_;rw[QJ,QJ,a,b]
 refine⟨?_,λc hc=>?_⟩
 ·rw[<-Qo,e,Qj,Qj,Qs,Q4,Qo];have:(dP z i).cps.toList.length=1:=by rcases f with f|f <;> rw[f] <;> rfl
  omega
 rw[e]at hc;rcases Qv.mp hc with h|h
 ·rcases Qv.mp h with h|h
  ·exact st.signs c (List.mem_of_mem_take h)
  rcases f with f|f
  ·rw[f]at h;exact .inl (by simpa using h)
  rw[f]at h;exact .inr (by simpa using h)
 exact st.signs c (List.mem_of_mem_drop h)
theorem turn_list (st:StOk n z) (hi:i<n):(fu z i).cps.toList=z.cps.toList.take i++(if (z.cps.getD i 0==49)=true then 48 else 49)::z.cps.toList.drop (i+1):=by
 have hl:=st.len;have a:=jC (z:=z) (j:=i) (by omega);have b:=jE (z:=z) (a:=i+1) (by omega);rw[show ((i+1:Nat):Int)=(i:Int)+1 from by omega]at b
 have f:(dP z i).cps.toList=[if (z.cps.getD i 0==49)=true then 48 else 49]:=by
  unfold dP
  split
  ·decide +kernel
  decide +kernel
 unfold fu;show ((_++_)++_:Array Nat).toList=_;rw[QJ,QJ,a,b,f];simp
def cr (f:Str->Bool) (z:Str) (p:(Str × Rl) × Nat):Option (Str × Str):=if (p.1.2.val f==(z.cps.getD p.2 0==49))=true then none else some (p.1.1,fu z p.2)
def ao (ins:List Str) (gs:List (Str × Rl)) (z:Str):List (Str × Str):=(gs.zipIdx ins.length).filterMap (cr (sgn (ap ins gs) z) z)
def nX (H:Hp) (v:V) (p:Str × Str):Prop:=∃b,v=.ref b/\H b=some (.tup [.str p.1,.str p.2])
theorem nX.mono (hs:dj H H') {v:V} {p:Str × Str} (h:nX H v p):nX H' v p:=let ⟨b,e,q⟩:=h;⟨b,e,hs _ _ q⟩
theorem cE {H H':Hp} (hs:dj H H'):∀{vs:List V} {ps:List (Str × Str)},Paired (nX H) vs ps->Paired (nX H') vs ps
 | _,_,.nil=>.nil
 | _,_,.cons h t=>.cons (h.mono hs) (cE hs t)
theorem bZ {α β:Type} {F:α->β->Prop}:∀{xs:List α} {ys:List β} {x:α} {y:β},Paired F xs ys->F x y->Paired F (xs++[x]) (ys++[y])
 | _,_,_,_,.nil,h=>.cons h .nil
 | _,_,_,_,.cons a t,h=>.cons a (bZ t h)
def dH:Sp:=λvs H Q _=>∃a li lg ins gvs gs z,vs=[.ref a,.str z]/\NAt H a li lg ins gvs gs/\NetOk ins gs/\StOk (ap ins gs).length z /\
 ∀l vs' H',am H H'->H l=none->H' l=some (.lst vs')->Paired (nX H') vs' (ao ins gs z)->Q (.ref l) H'
theorem Az (a b:Bool):decide (sg a=sg b)=(a==b):=by
 cases a <;> cases b <;> decide +kernel
section
theorem kU:FnScope ["net", "standing", "signs", "steps", "place", "gate"] ["net", "standing"] (aA (top 16)):=by walk_at "k"
theorem vn {f:Addr} {fd:FuncData} (Fu:Fun K "steps_from" "steps_from" (top 16) f fd) (T:Txt K mg TT) (f_signs_in:Fn P w K mg base "signs_in" ["net", "standing"] 3 ii) (f_rule_worth:Fn P w K mg base "rule_worth" ["rule", "signs"] 11 (my 10)) (f_turned_at:Fn P w K mg base "turned_at" ["standing", "place"] 1 js) :
  FnOk P w K mg base CX0 12 f fd ["net", "standing"] dH:=by
 have S:=kU;refine Fu.ok S (by walk_at "l") (λcdv A outer s H vs Q E hr h=>?_);obtain⟨a,li,lg,ins,gvs,gs,z,rfl,NA,ok,st,k⟩:=h
 refine⟨_,(pss_cons (aF 2 S.nd (aP f_signs_in hr (aa (pv 0) (aa (pv 1) ad))))
  (pss_cons (aF 3 S.nd (bx ad))
  (pss_cons (ps_for PassesOwn.never rfl (uR (by rfl) T.n_enumerate (aa (aC aU (pv 0) af (λ_ _=>rfl)) ad) (wS (aB aJ (by rfl) T.n_len QH (aa (aC aU (pv 0) af (λ_ _=>rfl)) ad)) zh)) (iw rfl (bD (bQ 4 S.nd) (bD (bQ 5 S.nd) eJ)))
  (a8 (ps_if (aG fL (aP f_rule_worth hr (aa (aC aU (pv 5) af (λ_ _=>rfl)) (aa (pv 2) ad))) (aC eP (pv 1) (pv 4) (λ_ _=>rfl)) (aK _)) (a8 (bI (dI QM QR QS bp (pv 3) (aa (bh (aa (aC aU (pv 5) af (λ_ _=>rfl)) (aa (aP f_turned_at hr (aa (pv 1) (aa (pv 4) ad))) ad))) ad)))) pss_nil)))
  (a8 (aE (pv 3)))))),?_⟩
 walk_at "e";have i4:=ok.i4;have g7:=ok.g7;have lgn:=aN NA.gates;have wl:(ap ins gs).length=ins.length+gs.length:=by unfold ap;rw[Qj,Qa]
 have big:1000<sizeLine:=by decide
 walk_at "w";refine⟨a,li,lg,ins,gvs,gs,z,rfl,NA,ok,st,λd H1 kvs S1 hd df=>?_⟩;walk_at "w";refine⟨by simp[sizeLine],λl hl=>?_⟩;generalize hE:upd _ l _=H2;have S2:am H1 H2:=by rw[<-hE];exact aj hl
 have q2:H2 l=some (.lst []):=by rw[<-hE];exact ag
 clear hE;have S12:=S1.trans S2;have hlH:H l=none:=am.free S1 hl;have NA2:=NA.same S12;have hd2:=S2 _ _ hd;have dl:d≠l:=aD hd hl;obtain⟨ha,hi,hg,gts⟩:=id NA2;walk_at "w";show bY _ _ _ _ _;walk_at "w";refine⟨lg,_,rfl,rfl,by rw[Qa];omega,⟨_,SqL.of hg⟩,?_⟩;have nlg:lg≠l:=aD NA.hg hlH;let I2:IvF:=λi σ H'=>(∃x4 x5 vs',σ=[some (.ref a),some (.str z),some (.ref d),some (.ref l),x4,x5]/\H' l=some (.lst vs')/\vs'.length<=i/\Paired (nX H') vs' (((gs.zipIdx ins.length).take i).filterMap (cr (sgn (ap ins gs) z) z)))/\am H H'/\H' d=some (.dK kvs)
 refine t5 (xs:=gvs) I2
  ⟨⟨_,_,[],rfl,q2,by simp,by simp;exact .nil⟩,S12,hd2⟩ (λi σ H' _ pv=>SqL.of (pv.2.1 _ _ NA.hg)) (λi x σ H' t hx pv ht=>?_) (λσ H' pv=>?_)
 ·obtain⟨⟨x4,x5,vs',rfl,hl',hlen,hp⟩,SS,hd'⟩:=pv;have hig:i<gvs.length:=(Qe.mp hx).1;obtain⟨g,hgi,b,rv,rfl,hb,hrv⟩:=dA NA.gates i x hx;have S3:=aj (o:=.tup [.int (((ins.map V.str).length:Int)+(i:Nat)),.ref b]) ht;refine⟨t,_,rfl,SqT.of ag,rfl,?_⟩;refine⟨_,_,rfl,az ⟨_,_,rfl,az ?_⟩⟩;have hl3:=S3 _ _ hl';have hd3:=S3 _ _ hd';have SS3:=SS.trans S3;have hp3:=cE (am.tups S3) hp;generalize upd H' t (.tup [.int (((ins.map V.str).length:Int)+(i:Nat)),.ref b])=H3 at *;have hb3:=SS3 _ _ hb;have hr3:=hrv.mono (am.tups SS3);have gm:g∈gs:=Qi hgi;have ep:(((ins.map V.str).length:Int)+(i:Nat))=((ins.length+i:Nat):Int):=by rw[Qa];omega
  rw[ep];obtain⟨rok,rdep⟩:=ok.rules g gm;have hpl:ins.length+i<(ap ins gs).length:=by omega
  have hzi:(gs.zipIdx ins.length)[i]?=some (g,ins.length+i):=by rw[List.getElem?_zipIdx,hgi];rfl
  refine⟨rfl,?_⟩;walk_at "w";refine⟨rv,d,kvs,g.2,_,_,rfl,hr3,rdep,rok,hd3,df,?_⟩;generalize hv:g.2.val (sgn (ap ins gs) z)=bv;have e:=i9 st hpl;unfold fv at e;have zl:z.length=(ap ins gs).length:=st.len;walk_at "w";refine gd (by omega) (nN st hpl) ?_;rw[e];refine i_ne (by cases bv <;> cases (z.cps.getD (ins.length+i) 0==49) <;> rfl) ?_;rw[Az];refine⟨_,rfl,?_⟩
  have tk:((gs.zipIdx ins.length).take (i+1)).filterMap (cr (sgn (ap ins gs) z) z)=((gs.zipIdx ins.length).take i).filterMap (cr (sgn (ap ins gs) z) z)++(cr (sgn (ap ins gs) z) z (g,ins.length+i)).toList:=by
   rw[QP,hzi,List.filterMap_append];cases h:cr (sgn (ap ins gs) z) z (g,ins.length+i) <;> simp[h]
  have so:cr (sgn (ap ins gs) z) z (g,ins.length+i)=if (bv==(z.cps.getD (ins.length+i) 0==49))=true then none else some (g.1,fu z (ins.length+i)):=by
   unfold cr;rw[hv]
  cases hc:(bv==(z.cps.getD (ins.length+i) 0==49)) with
  | true =>
   refine ck ?_;rw[hc]at so;refine⟨⟨_,_,vs',rfl,hl3,by omega,?_⟩,SS3,hd3⟩;rw[tk,so];simpa using hp3
  | false =>
  refine bX ?_;rw[hc]at so;walk_at "w";refine⟨z,_,ins.length+i,rfl,st,hpl,by omega,?_⟩;walk_at "w";refine⟨by simp[sizeLine],λq hq=>?_⟩;generalize hE:upd _ q _=H4;have S4:am H3 H4:=by rw[<-hE];exact aj hq
  have q4:H4 q=some (.tup [.str g.1,.str (fu z (ins.length+i))]):=by rw[<-hE];exact ag
  clear hE;have hl4:=S4 _ _ hl3;have hd4:=S4 _ _ hd3;have nql:q≠l:=λe=>by rw[e,hl3]at hq;cases hq
  walk_at "w";refine fw hl4 (by omega) ?_
  have kt:dj H4 (upd H4 l (.lst (vs'++[.ref q]))):=λb xs e=>by
   have:b≠l:=λx=>by rw[x,hl4]at e;cases e
   rw[ak this];exact e
  refine⟨⟨_,_,vs'++[.ref q],rfl,ag,by simp;omega,?_⟩,aQ (SS3.trans S4) hlH,by rw[ak dl];exact hd4⟩;rw[tk,so];exact bZ (cE kt (cE (am.tups S4) hp3)) ⟨q,rfl,kt _ _ q4⟩
 obtain⟨⟨x4,x5,vs',rfl,hl',hlen,hp⟩,SS,hd'⟩:=pv;refine ca (te:=cX 3) (D:={ nx:=λx H'=>Q V.non H',rt:=Q }) (ai rfl ?_);refine k l vs' H' SS hlH hl' ?_;have e:(gs.zipIdx ins.length).length=gvs.length:=by rw[List.length_zipIdx,lgn]
 rw[<-e,List.take_length]at hp;exact hp
end
def bo (H:Hp) (a:Addr) (sts:List (V × Key)):Prop:=∃vs,H a=some (.lst vs)/\Paired (λv (s:V × Key)=>∃b,v=.ref b/\H b=some (.tup [s.1,kV s.2])) vs sts
theorem bo.same {sts:List (V × Key)} (S:am H H') (h:bo H a sts):bo H' a sts:=by
 obtain⟨vs,h1,h2⟩:=h;exact⟨vs,S _ _ h1,bK (λv s ⟨b,e,q⟩=>⟨b,e,S _ _ q⟩) h2⟩
def lA (F W N:Addr) (H H':Hp):Prop:=∀b o,H b=some o->b≠F->b≠W->b≠N->H' b=some o
def fdK (xs:List Key) (as:List Addr):List (Key × V):=(xs.zip as).map λp=>(p.1,V.ref p.2)
def knK (xs:List Key):List (Key × V):=xs.map λx=>(x,V.bl true)
theorem nB {xs:List Key} {as:List Addr} (h:as.length<=xs.length):(fdK xs as).length=as.length:=by
 unfold fdK;rw[Qa,List.length_zip];omega
theorem g_ (xs:List Key) (as:List Addr):(fdK xs as).map (·.1)=xs.take as.length:=by
 unfold fdK;rw[QW];show (xs.zip as).map (λp=>p.1)=_
 induction xs generalizing as with
 | nil=>simp
 | cons x xs ih =>
 cases as with
 | nil=>simp
 | cons a as=>simp[ih]
variable {as ls ts:List Addr}
theorem v0 {xs:List Key} {x:Key} (h:xs[as.length]?=some x):fdK xs (as++[a])=fdK xs as++[(x,V.ref a)]:=by
 unfold fdK
 induction xs generalizing as with
 | nil=>simp at h
 | cons y xs ih =>
 cases as with
 | nil=>simp at h;subst h;simp
 | cons b as=>simp at h;simp[ih h]
theorem v5 {xs ys:List Key} (h:as.length<=xs.length) (p:xs <+: ys):fdK ys as=fdK xs as:=by
 obtain⟨t,rfl⟩:=p;unfold fdK
 induction xs generalizing as with
 | nil =>
  have:as=[]:=by simpa using h
  subst this;simp
 | cons y xs ih =>
 cases as with
 | nil=>simp
 | cons b as=>simp at h;simpa using ih h
variable {kvs:List (Key × V)}
theorem cS {k:Key}:ba kvs k=none↔k∉kvs.map (·.1):=by
 refine⟨uo,λh=>?_⟩
 cases e:ba kvs k with
 | none=>rfl
 | some v=>exact absurd (wD e) h
theorem jd {xs:List Key} {k:Key}:ba (knK xs) k=none↔k∉xs:=by
 rw[cS];unfold knK;rw[QW];show k∉xs.map (λx=>x)↔_;rw[List.map_id']
def nxK (steps:Key->List (V × Key)) (x:Key):List Key:=(steps x).map (·.2)
def mG (P:Program) (w:World) (K:PySem.W.Frag) (mg:Str->Option Value) (base:Heap) (k:Nat):Sp:=λvs H Q _=>∃(start:Key) (f:Addr) (l:Lm) (cl:List (Str × Addr)) (c:Addr) (r:V->Hp->VK->Prop) (steps:Key->List (V × Key)) (B:Nat),
 vs=[kV start,.ref f]/\H f=some (iI f l cl c)/\Calls P w K mg base k f r/\B<=100000 /\
 (∀x H1 (Q1:VK),Bf.Reach (nxK steps) start x->am H H1->(∀a H2,am H1 H2->bo H2 a (steps x)->Q1 (.ref a) H2)->r (kV x) H1 Q1) /\
 (∀xs:List Key,xs.Nodup->(∀x∈xs,Bf.Reach (nxK steps) start x)->xs.length<=B) /\
 ∀(F:Addr) (as:List Addr) (n:Nat) (H':Hp),am H H'->H F=none->(Bf.bfs (nxK steps) start n).length=n->as.length=n->H' F=some (.dK (fdK (Bf.bfs (nxK steps) start n) as)) ->
  (∀(i:Nat) x a,(Bf.bfs (nxK steps) start n)[i]?=some x->as[i]?=some a->bo H' a (steps x))->Q (.ref F) H'
theorem xy {P:Program} {w:World} {mg:Str->Option Value} {base:Heap} {k:Nat} {te:TE} {c:Addr} {l:Lm} {cl:List (Str × Addr)} {r:V->Hp->VK->Prop} (hi:σ[i]?=some (some (.ref f))) (C:Calls P w K mg base k f r) (hf:H f=some (iI f l cl c))
  (q:te σ H λv H1=>H1 f=some (iI f l cl c)/\r v H1 Q):uw P w K mg base k i te σ H Q:=⟨f,l,cl,c,r,hi,C,hf,q⟩
section
theorem ld:FnScope ["start", "steps_of", "found", "waiting", "known", "at", "here", "steps", "step"] ["start", "steps_of"] (aA (top 18)):=by walk_at "k"
theorem vq {kl:Nat} {f:Addr} {fd:FuncData} (Fu:Fun K "found_from" "found_from" (top 18) f fd) (T:Txt K mg TT):FnOk P w K mg base CX0 (kl+1) f fd ["start", "steps_of"] (mG P w K mg base kl):=by
 have S:=ld;refine Fu.ok S (by walk_at "l") (λcdv A outer s H vs Q E hr h=>?_);obtain⟨start,fl,l,cl,c,r,steps,B,rfl,hfl,hC,hB,hst,hfew,k⟩:=h;have hu:=du hr;refine'⟨?_,?bb,?_⟩
 case bb =>
  walk_at "b";exact aF 2 S.nd gP;exact aF 3 S.nd (bx (aa (pv 0) ad ae));exact aF 4 S.nd (wU (uP (pv 0) bR wR) rfl rfl (by simp) (by decide));exact aF 5 S.nd af;refine' fH PassesOwn.never ?_ ?_;rotate_left 2;exact(aG iN (pv 5) (aB aJ (by rfl) T.n_len QH (aa (pv 3) ad ae)) (aK _));walk_at "p";exact aF 6 S.nd (aC aH (pv 3) (pv 5) (λ_ _=>rfl));exact aF 7 S.nd (uW (k:=kl) (i:=1) (hr.mono (by omega)) yj (pv 1) (pv 6));exact(f6 hu (pv 2) (pv 6) (pv 7) rfl);walk_at "f";exact(bu (pv 7));exact(bQ 8 S.nd);walk_at "p";exact(fG (cU hu (aC aU (pv 8) af (λ_ _=>rfl)) (pv 4)));exact(f6 hu (pv 4) (aC aU (pv 8) af (λ_ _=>rfl)) bR rfl);exact(bI (dI QM QR QS bp (pv 3) (aa (aC aU (pv 8) af (λ_ _=>rfl)) ad)));exact(uL (i:=5) S.nd rfl (by walk_at "z") af vR);exact(aE (pv 2))
 walk_at "e";refine s_seq (ce ?_);intro F hF;refine az ?_;generalize hE:upd H F _=H1;obtain⟨S1,q1⟩:=aZ hF hE;clear hE;walk_at "w";refine⟨by simp[sizeLine],λW hW=>?_⟩;generalize hE:upd H1 W _=H2;obtain⟨S2,q2⟩:=aZ hW hE;clear hE;walk_at "w";refine λN hN=>?_;refine⟨_,rfl,?_⟩;refine⟨ag,[(start,.bl true)],rfl,by simp,?_⟩;rw[wE];refine az ?_;generalize hE:upd H2 N _=H3;obtain⟨S3,q3⟩:=aZ hN hE;clear hE;walk_at "w";have S03:am H H3:=S1.trans (S2.trans S3);have FW:F≠W:=aD q1 hW;have FN:F≠N:=aD (S2 _ _ q1) hN;have WN:W≠N:=aD q2 hN
 have W0:H W=none:=by
  cases e:H W with
  | none=>rfl
  | some o=>rw[S1 _ _ e]at hW;cases hW
 have N0:H N=none:=by
  cases e:H N with
  | none=>rfl
  | some o=>rw[(S1.trans S2) _ _ e]at hN;cases hN
 have off:∀{Ha Hb:Hp},am H Ha->lA F W N Ha Hb->am H Hb:=λsa o b u e=>o b u (sa b u e) (aD e hF) (aD e W0) (aD e N0);let nx:=nxK steps;let bf:=Bf.bfs nx start;have reach:∀n x,x∈bf n->Bf.Reach nx start x:=λn x h=>Bf.cW n x h;have fewB:∀n,(bf n).length<=B:=λn=>hfew _ (Bf.cq n) (reach n);let I3:IvF:=λm σ H'=>∃(n:Nat) (as:List Addr) (x6 x7 x8:Option V),σ=[some (kV start),some (.ref fl),some (.ref F),some (.ref W),some (.ref N),some (.int (n:Int)),x6,x7,x8]/\m=B+1-n/\n<=(bf n).length/\am H H'/\H' F=some (.dK (fdK (bf n) as))/\as.length=n/\H' W=some (.lst ((bf n).map kV))/\H' N=some (.dK (knK (bf n)))/\∀(i:Nat) x a,(bf n)[i]?=some x->as[i]?=some a->bo H' a (steps x)
 refine⟨I3,
  ⟨_,0,[],none,none,none,rfl,rfl,QN _,S03,S3 _ _ (S2 _ _ q1),rfl,S3 _ _ q2,q3,λi x a _ e=>nomatch e⟩,?_⟩
 rintro m σ H' ⟨n,as,x6,x7,x8,rfl,rfl,hn,SH,hF',las,hW',hN',hsts⟩;walk_at "w";rw[Qa];by_cases cn:n<(bf n).length
 case neg =>
  refine ifF (QU (by omega)) ?_;walk_at "w";have e:(bf n).length=n:=by omega
  exact k F as n H' SH hF e las hF' hsts
 refine ifT (Q7 (by omega)) ?_;let I4:IvJ:=λσ' H''=>∃(as:List Addr) (x6 x7 x8:Option V),σ'=[some (kV start),some (.ref fl),some (.ref F),some (.ref W),some (.ref N),some (.int ((n+1:Nat):Int)),x6,x7,x8]/\n+1<=(bf (n+1)).length/\am H H''/\H'' F=some (.dK (fdK (bf (n+1)) as))/\as.length=n+1/\H'' W=some (.lst ((bf (n+1)).map kV))/\H'' N=some (.dK (knK (bf (n+1))))/\∀(i:Nat) x a,(bf (n+1))[i]?=some x->as[i]?=some a->bo H'' a (steps x);refine⟨I4,λσ' H'' h=>?_,?_⟩
 ·obtain⟨as,x6,x7,x8,e1,e2,e3,e4,e5,e6,e7,e8⟩:=h;exact⟨B+1-(n+1),by have:=fewB n;omega,n+1,as,x6,x7,x8,e1,rfl,e2,e3,e4,e5,e6,e7,e8⟩
 obtain⟨x,hx⟩:∃x,(bf n)[n]?=some x:=⟨_,Qc cn⟩;have hbs:bf (n+1)=Bf.bd (bf n) (nx x):=Bf.fc hx;walk_at "w";refine a_ (v:=kV x) (SqL.of hW') (cC (by rw[Qh,hx];rfl)) ?_;walk_at "w";refine xy rfl hC (SH _ _ hfl) (ai rfl ⟨SH _ _ hfl,hst x H' _ (reach n x (Qi hx)) SH λa H4 S4 st4=>?_⟩);walk_at "w";refine io (ai rfl (ai rfl (ai rfl ?_)));refine⟨F,_,rfl,hX.k (k:=x) (S4 _ _ hF') (by rw[nB (by omega)];have:=fewB n;omega),?_⟩
 have pn:cg (fdK (bf n) as) x (V.ref a)=fdK (bf n) (as++[a]):=by
  rw[v0 (by rw[las];exact hx)];refine d_ _ (cS.mpr ?_);rw[g_,las];intro hm;obtain⟨i,hi,e⟩:=Qq.mp hm;rw[Qs]at hi;rw[List.getElem_take]at e;have e2:=(Qe.mp hx).2;have:=(List.getElem_inj (Bf.cq (nx:=nx) (s:=start) n)).mp (e.trans e2.symm);omega
 rw[pn]
 -- what the steps' list is not
 obtain⟨vs,ha,pr⟩:=id st4
 have neW:∀{Hx:Hp} {ws:List Key},Hx W=some (.lst (ws.map kV))->ws≠[]->∀{b:Addr} {sts:List (V × Key)},bo Hx b sts->b≠W:=λ{Hx ws} hw ne {b sts} ⟨us,hb,pu⟩ z=>by
  rw[z,hw]at hb;cases hb
  cases ws with
  | nil=>exact ne rfl
  | cons y ws =>
  cases pu with
  | cons h _ =>
  obtain⟨c,e,_⟩:=h;cases y <;> cases e
 have neD:∀{Hx:Hp} {D:Addr} {kvs:List (Key × V)},Hx D=some (.dK kvs)->∀{b:Addr} {sts:List (V × Key)},bo Hx b sts->b≠D:=λ{Hx D kvs} hd {b sts} ⟨us,hb,_⟩ z=>by
  rw[z,hd]at hb;cases hb
 have keepS:∀{Ha Hb:Hp} {ws:List Key} {k1 k2:List (Key × V)},Ha W=some (.lst (ws.map kV))->ws≠[]->Ha F=some (.dK k1)->Ha N=some (.dK k2)->lA F W N Ha Hb->∀{b:Addr} {sts:List (V × Key)},bo Ha b sts->bo Hb b sts:=λ{Ha Hb ws k1 k2} hw ne h1 h2 o {b sts} st=>by
  have n1:=neW hw ne st;have n2:=neD h1 st;have n3:=neD h2 st;obtain⟨us,hb,pu⟩:=st;refine⟨us,o b _ hb n2 n1 n3,bK (λv s ⟨c,e,q⟩=>⟨c,e,o c _ q (λz=>?_) (λz=>?_) λz=>?_⟩) pu⟩
  ·rw[z,h1]at q;cases q
  ·rw[z,hw]at q;cases q
  rw[z,h2]at q;cases q
 have bne:bf n≠[]:=λz=>by rw[z]at cn;simp at cn
 have hF4:=S4 _ _ hF';have hW4:=S4 _ _ hW';have hN4:=S4 _ _ hN';have off4:lA F W N H4 (upd H4 F (.dK (fdK (bf n) (as++[a])))):=λb o e h1 _ _=>by rw[ak h1];exact e
 have hF5:upd H4 F (.dK (fdK (bf n) (as++[a]))) F=some (.dK (fdK (bf n) (as++[a]))):=ag;have hW5:upd H4 F (.dK (fdK (bf n) (as++[a]))) W=some (.lst ((bf n).map kV)):=by rw[ak FW.symm];exact hW4
 have hN5:upd H4 F (.dK (fdK (bf n) (as++[a]))) N=some (.dK (knK (bf n))):=by rw[ak FN.symm];exact hN4
 have st5:=keepS hW4 bne hF4 hN4 off4 st4
 have sts5:∀(i:Nat) y b,(bf n)[i]?=some y->(as++[a])[i]?=some b->bo (upd H4 F (.dK (fdK (bf n) (as++[a])))) b (steps y):=λi y b e1 e2=>by
  by_cases ci:i<as.length
  ·rw[QG ci]at e2;exact keepS hW4 bne hF4 hN4 off4 ((hsts i y b e1 e2).same S4)
  rw[QE (by omega)]at e2
  have:i=n:=by
   have:=(Qe.mp e2).1;simp at this;omega
  subst this;rw[hx]at e1;cases e1;rw[las,Nat.sub_self]at e2;cases e2;exact st5
 have SH5:am H (upd H4 F (.dK (fdK (bf n) (as++[a])))):=off (SH.trans S4) off4;generalize upd H4 F (.dK (fdK (bf n) (as++[a])))=H5 at *;obtain⟨vs5,ha5,pr5⟩:=id st5;refine s_seq (s_for (s_list (ai rfl ⟨a,rfl,⟨_,SqL.of ha5⟩,?_⟩)));let I5:IvF:=λi σ' H'=>∃x8,σ'=[some (kV start),some (.ref fl),some (.ref F),some (.ref W),some (.ref N),some (.int (n:Int)),some (kV x),some (.ref a),x8]/\lA F W N H5 H'/\H' F=some (.dK (fdK (bf n) (as++[a])))/\H' W=some (.lst ((Bf.bd (bf n) ((nx x).take i)).map kV))/\H' N=some (.dK (knK (Bf.bd (bf n) ((nx x).take i))));refine dM (xs:=vs5) I5 ⟨_,rfl,λb o e _ _ _=>e,hF5,hW5,hN5⟩ (λi σ' H' _ pv=>?_) (λi v σ' H' hv pv=>?_) (λσ' H' pv=>?_)
 ·obtain⟨_,_,o,_⟩:=pv;exact SqL.of (o a _ ha5 (neD hF5 st5) (neW hW5 bne st5) (neD hN5 st5))
 ·obtain⟨x8,rfl,o,e1,e2,e3⟩:=pv;obtain⟨⟨nm,y⟩,hy,b,rfl,hb⟩:=paired_get pr5 hv;have hb':H' b=some (.tup [nm,kV y]):=o b _ hb (λz=>by rw[z,hF5]at hb;cases hb) (λz=>by rw[z,hW5]at hb;cases hb) (λz=>by rw[z,hN5]at hb;cases hb)
  have hny:(nx x)[i]?=some y:=by
   show ((steps x).map (·.2))[i]?=_;rw[Qh,hy];rfl
  have ext:Bf.bd (bf n) ((nx x).take (i+1))=Bf.bd (Bf.bd (bf n) ((nx x).take i)) [y]:=by
   rw[QP,hny,Bf.lw];rfl
  have lenN:(Bf.bd (bf n) ((nx x).take i)).length<=B:=hfew _ (Bf.dX _ _ (Bf.cq n)) λz hz=>by
   rcases(Bf.eA _ _ _).mp hz with h|h
   ·exact reach n z h
   exact .step (reach n x (Qi hx)) (List.mem_of_mem_take h)
  walk_at "w";refine dJ (br (ai rfl (i_c (i_ixT hb' rfl (ai rfl ?_)))));refine⟨N,_,rfl,cL.k (k:=y) e3,_,rfl,?_⟩;by_cases cy:y∈Bf.bd (bf n) ((nx x).take i)
  ·rw[Bf.kP cy]at ext;refine ifF ?_ ?_
   ·cases e:ba (knK (Bf.bd (bf n) ((nx x).take i))) y with
    | none=>exact absurd cy (jd.mp e)
    | some v=>rfl
   walk_at "w";refine⟨_,rfl,o,e1,?_,?_⟩
   ·rw[ext];exact e2
   rw[ext];exact e3
  rw[Bf.kO cy]at ext;have nn:=jd.mpr cy;refine ifT (by rw[nn];rfl) ?_;walk_at "w";refine io (i_c (ai rfl (br (ai rfl (i_c (i_ixT hb' rfl ?_))))));refine⟨N,_,rfl,hX.k (k:=y) e3 (by unfold knK;rw[Qa];omega),?_⟩;have e2':upd H' N (.dK (cg (knK (Bf.bd (bf n) ((nx x).take i))) y (.bl true))) W=some (.lst ((Bf.bd (bf n) ((nx x).take i)).map kV)):=by rw[ak WN];exact e2
  have hb'':upd H' N (.dK (cg (knK (Bf.bd (bf n) ((nx x).take i))) y (.bl true))) b=some (.tup [nm,kV y]):=by rw[ak (λz=>by rw[z,e3]at hb';cases hb')];exact hb'
  refine s_drop (i_bm (ai rfl ⟨i_tyL e2',?_⟩));refine aq (br (ai rfl (i_c (i_ixT hb'' rfl (aI (fw e2' (by rw[Qa];omega) ?_))))));refine⟨_,rfl,λc u e h1 h2 h3=>by rw[ak h2,ak h3];exact o c u e h1 h2 h3,by rw[ak FW,ak FN];exact e1,?_,?_⟩
  ·rw[ag,ext,Qr];rfl
  rw[ak WN.symm,ag,d_ _ nn,ext];unfold knK;rw[Qr];rfl
 obtain⟨x8,rfl,o,e1,e2,e3⟩:=pv
 have lv:vs5.length=(nx x).length:=by
  show _=((steps x).map (·.2)).length;rw[Qa];exact aN pr5
 rw[lv,Qt (Qg _),<-hbs]at e2 e3;refine⟨_,rfl,?_⟩;refine i_c ⟨_,_,rfl,rfl,?_⟩;have pre:bf n <+: bf (n+1):=Bf.kJ n
 have l1:n+1<=(bf (n+1)).length:=by
  have:=pre.length_le;omega
 refine⟨as++[a],_,_,_,by rw[show ((n+1:Nat):Int)=(n:Int)+1 from rfl];rfl,l1,off SH5 o,?_,by rw[Qj,las];rfl,e2,e3,λi y b h1 h2=>?_⟩
 ·rw[v5 (by rw[Qj,las];simp;omega) pre];exact e1
 have hi:i<n+1:=by
  have:=(Qe.mp h2).1;rw[Qj,las]at this;simpa using this
 exact keepS hW5 bne hF5 hN5 o (sts5 i y b (Bf.jM pre (by omega) h1) h2)
end
noncomputable def fA:Lm:=match cQ (top 19) with
 | .Return (some (.Call _ [_,.Lambda p b sc pos] _ _)) _::_=>⟨("steps_found" ++ ".<locals>.") ++ "<lambda>", p,b,sc,pos⟩
 | _=>⟨"", { posonlyargs:=[],args:=[],vararg:=none,kwonlyargs:=[],kw_defaults:=[],kwarg:=none,defaults:=[] },.Constant .none 0 ⟨0,0,0,0⟩,aA (top 0),⟨0,0,0,0⟩⟩
theorem AJ {ns:List (Str × NameKind)} (h:ns.all (λp=>!(p.2==NameKind.free) || p.1==y)=true) (e:ns.lookup z=some .free):z=y:=by
 have:=QK.mp h _ (eg e);simpa using this
theorem vH:LmScope "here" "net" fA.scope:=⟨rfl,rfl,rfl,rfl,rfl,by decide,by decide +kernel,λz h=>AJ (by decide +kernel) h⟩
structure Tk (T:Addr) (H H':Hp):Prop where
 old:∀b o,H b=some o->b≠T->H' b=some o
 tab:gE T fA H'
theorem yU {l:Lm} (t:gE T l H):∃ps,H T=some (.tbl ps):=by rcases t with e|⟨c,e,_⟩ <;> exact⟨_,e⟩
variable {o u:HO}
theorem rj {l:Lm} (t:gE T l H) (h:H b=some o) (n:∀ps,o≠.tbl ps):b≠T:=λz=>by
 obtain⟨ps,e⟩:=yU t;rw[z,e]at h;exact n ps (Q2 h).symm
theorem gI {l:Lm} (t:gE T l H) (S:am H H'):gE T l H':=by
 rcases t with e|⟨c,e,q⟩
 ·exact .inl (S _ _ e)
 exact .inr ⟨c,S _ _ e,S _ _ q⟩
theorem Tk.lst (t:gE T fA H) (k:Tk T H H'):∀b xs,H b=some (.lst xs)->H' b=some (.lst xs):=λb xs e=>k.old b _ e (rj t e λ_ z=>nomatch z)
theorem Tk.tup (t:gE T fA H) (k:Tk T H H'):∀b xs,H b=some (.tup xs)->H' b=some (.tup xs):=λb xs e=>k.old b _ e (rj t e λ_ z=>nomatch z)
theorem Tk.of (t:gE T fA H) (S:am H H'):Tk T H H':=⟨λb o e _=>S b o e,gI t S⟩
theorem Tk.trans (a:Tk T H H1) (b:Tk T H1 H2):Tk T H H2:=⟨λc o e n=>b.old c o (a.old c o e n) n,b.tab⟩
theorem NAt.mono (hl:∀b xs,H b=some (.lst xs)->H' b=some (.lst xs)) (ht:dj H H') (h:NAt H a li lg ins vs gs):NAt H' a li lg ins vs gs:=⟨ht _ _ h.ha,hl _ _ h.hi,hl _ _ h.hg,be ht h.gates⟩
def cM (ps:List (Str × Str)):List (V × Key):=ps.map λp=>(V.str p.1,Sum.inr p.2)
def stN (ins:List Str) (gs:List (Str × Rl)):Key->List (V × Key)
 | .inr z=>cM (ao ins gs z)
 | .inl _=>[]
theorem iK {ps:List (Str × Str)} (hl:H l=some (.lst vs)) (p:Paired (nX H) vs ps):bo H l (cM ps):=by
 refine⟨vs,hl,?_⟩;unfold cM;clear hl
 induction p with
 | nil=>exact .nil
 | cons h _ ih=>exact .cons h ih
theorem ot {p:Str × Str} (h:p∈ao ins gs z):∃i,ins.length<=i/\i<ins.length+gs.length/\p.2=fu z i/\(∃g,gs[i-ins.length]?=some g/\p.1=g.1):=by
 unfold ao at h;obtain⟨q,hq,e⟩:=List.mem_filterMap.mp h;obtain⟨j,hj,ej⟩:=Qq.mp hq;have e2:=Qc hj;rw[ej,List.getElem?_zipIdx]at e2;unfold cr at e
 split at e
 ·cases e
 cases e;rw[List.length_zipIdx]at hj;rw[Qc hj]at e2;cases e2;exact⟨ins.length+j,by omega,by omega,rfl,gs[j],by rw[Xz];exact Qc hj,rfl⟩
theorem bH (ins:List Str) (gs:List (Str × Rl)):(ap ins gs).length=ins.length+gs.length:=by unfold ap;rw[Qj,Qa]
theorem fF (st:StOk (ap ins gs).length z) {x:Key} (r:Bf.Reach (nxK (stN ins gs)) (Sum.inr z) x):∃y:Str,x=Sum.inr y/\StOk (ap ins gs).length y:=by
 induction r with
 | start=>exact⟨z,rfl,st⟩
 | @step a b _ hb ih =>
 obtain⟨y,rfl,sy⟩:=ih;unfold nxK stN cM at hb;rw[QW]at hb;obtain⟨p,hp,rfl⟩:=Qk.mp hb;obtain⟨i,h1,h2,e,_⟩:=ot hp;refine⟨p.2,rfl,?_⟩;rw[e];exact rg sy (by rw[bH];exact h2)
def nV:Nat->List (List Nat)
 | 0=>[[]]
 | n+1=>(nV n).flatMap λl=>[48::l,49::l]
theorem kN:∀n,(nV n).length=2 ^ n
 | 0=>rfl
 | n+1=>by
  unfold nV;rw[List.length_flatMap];show ((nV n).map λ_=>2).sum=_;rw[List.map_const',List.sum_replicate_nat,kN n,Nat.pow_succ]
theorem kM:∀n (l:List Nat),l.length=n->(∀c∈l,c=48\/c=49)->l∈nV n
 | 0,l,h,_=>by rw[Xa h];simp[nV]
 | n+1,[],h,_=>by simp at h
 | n+1,c::l,h,hc=>by
  unfold nV;rw[List.mem_flatMap];refine⟨l,kM n l (by simpa using h) (λd hd=>hc d (Qw _ hd)),?_⟩;rcases hc c (by simp) with e|e <;> subst e <;> simp
theorem fO {xs:List Key} (n11:n<=11) (nd:xs.Nodup) (h:∀x∈xs,∃y:Str,x=Sum.inr y/\StOk n y):xs.length<=2048:=by
 have:=Bf.pigeon xs ((nV n).map λl=>(Sum.inr ⟨l.toArray⟩:Key)) nd λx hx=>by
  obtain⟨y,rfl,st⟩:=h x hx;exact Qk.mpr ⟨y.cps.toList,kM n _ (by rw[Qo];exact st.len) st.signs,by cases y;simp⟩
 rw[Qa,kN]at this;have h2:2 ^ n<=2 ^ 11:=Nat.pow_le_pow_right (by decide) n11;have h3:(2:Nat) ^ 11=2048:=by decide
 omega
def fX (TL:Addr):Sp:=λvs H Q _=>∃a li lg ins gvs gs z,vs=[.ref a,.str z]/\NAt H a li lg ins gvs gs/\NetOk ins gs/\StOk (ap ins gs).length z/\gE TL fA H /\
 ∀(F:Addr) (as:List Addr) (n:Nat) (H':Hp),Tk TL H H'->H F=none->(Bf.bfs (nxK (stN ins gs)) (Sum.inr z) n).length=n->as.length=n->H' F=some (.dK (fdK (Bf.bfs (nxK (stN ins gs)) (Sum.inr z) n) as)) ->
  (∀(i:Nat) x b,(Bf.bfs (nxK (stN ins gs)) (Sum.inr z) n)[i]?=some x->as[i]?=some b->bo H' b (stN ins gs x))->Q (.ref F) H'
section
theorem wt {f c cell:Addr} (f_steps_from:Fn P w K mg base "steps_from" ["net", "standing"] 12 dH):Calls P w K mg base 13 f (yc f fA "net" cell c (jl dH [] E0 (bY (cX 1) (bY (cX 0) ig)))) :=
 qZ (k:=12) vH (λpm ctv u=>rfl) λA outer s H hr=>yi f_steps_from hr (by rfl) (aa (pv 1) (aa (pv 0) ad))
theorem jG:FnScope ["net", "standing"] ["net", "standing"] (aA (top 19)):=by walk_at "k"
theorem qt {TL cc:Addr} {f:Addr} {fd:FuncData} (Fu:FunC K "steps_found" "steps_found" (top 19) f fd cc) (T:Txt K mg TT) (CT:PySem.W.CodeHd base cc TL) (BM:gg base mg) (f_found_from:Fn P w K mg base "found_from" ["start", "steps_of"] 14 (mG P w K mg base 13)) (f_steps_from:Fn P w K mg base "steps_from" ["net", "standing"] 12 dH) :
  FnOk P w K mg base CX0 15 f fd ["net", "standing"] (fX TL):=by
 have S:=jG;refine Fu.ok S (λvs H Q E h=>?_) (λA outer s H vs Q E hr h=>?_)
 ·obtain⟨a,li,lg,ins,gvs,gs,z,rfl,_⟩:=h;rfl
 obtain⟨a,li,lg,ins,gvs,gs,z,rfl,NA,ok,st,tb,k⟩:=h;have hu:=du hr;have HCL:PySem.closureFor fA.scope (PyProof.Rows.envOfC "steps_found" (aA (top 19)) s.heap.objs.size f (.ref cc))=pure [(("net" : Str),(s.heap.objs.size+1:Addr))]:=by rfl
 refine'⟨?_,?bb,?_⟩
 case bb =>
  walk_at "b";exact(aE (zm (i:=0) f_found_from (hr.mono (by first|decide|omega)) (by rfl) (aa (pv 1) (aa (zk (T:=TL) (cl:=[(("net" : Str),(s.heap.objs.size+1:Addr))]) rfl CT BM HCL) ad) ae) rfl rfl (Or.inr (Or.inl rfl)) rfl rfl))
 walk_at "e";generalize hcell:s.heap.objs.size+1=cell;walk_at "s";show bY (cX 1) (bY (Ap TL fA [("net", cell)]) ig) _ _ _;refine aq (ai rfl (aq ⟨tb,λfl c H2 md=>aI ⟨_,rfl,λo uy hd ru hc=>?_⟩⟩));have md:Made TL fA [("net", cell)] H fl c H2:=md;obtain rfl:uy=Value.ref a:=ru;have NA2:NAt H2 a li lg ins gvs gs:=NA.mono (λb xs e=>md.old b _ e (rj tb e λ_ z=>nomatch z)) (λb xs e=>md.old b _ e (rj tb e λ_ z=>nomatch z));have S2c:am H2 (upd H2 cell (dN o)):=aj hc;have hf2:upd H2 cell (dN o) fl=some (iI fl fA [("net", cell)] c):=S2c _ _ md.fn;have hcc2:upd H2 cell (dN o) c=some (iW c fA.qual):=S2c _ _ md.code;have hcl2:upd H2 cell (dN o) cell=some (dN o):=ag;have NA2c:=NA2.same S2c;have k12:∀b u,H b=some u->b≠TL->upd H2 cell (dN o) b=some u:=λb u e n=>S2c _ _ (md.old b u e n);have tb2:gE TL fA (upd H2 cell (dN o)):=.inr ⟨c,S2c _ _ md.tab,hcc2⟩;have nocell:∀{b u},H2 b=some u->b≠cell:=λe z=>by rw[z,hc]at e;cases e
 have H2R:∀{b u},H b=some u->b≠TL->b≠cell:=λ{b u} e n=>nocell (md.old b u e n);have Tcell:TL≠cell:=nocell md.tab;generalize upd H2 cell (dN o)=H2c at *;have w11:(ap ins gs).length<=11:=by rw[bH];have:=ok.i4;have:=ok.g7;omega
 refine⟨Sum.inr z,fl,fA,[("net", cell)],c,_,stN ins gs,2048,rfl,hf2,wt (c:=c) (cell:=cell) f_steps_from,by decide,λx H4 Q1 rx S4 q4=>?_,λxs nd h=>fO w11 nd λx hx=>fF st (h x hx),λF as n H3 S3 hF ln3 las hF3 sts=>?_⟩
 ·obtain⟨y,rfl,sy⟩:=fF st rx;have NA4:=NA2c.same S4;have hcl4:=S4 _ _ hcl2;refine⟨o,Value.ref a,.ref a,S4 _ _ hf2,S4 _ _ hcc2,hcl4,hd,rfl,?_⟩;have dl:∀b xs,H4 b=some (.lst xs)->dQ H4 cell b=some (.lst xs):=λb xs e=>by rw[bE (λz=>by rw[z,hcl4]at e;cases e)];exact e
  have dt:∀b xs,H4 b=some (.tup xs)->dQ H4 cell b=some (.tup xs):=λb xs e=>by rw[bE (λz=>by rw[z,hcl4]at e;cases e)];exact e
  refine i_call (aq (ai rfl (aq (ai rfl (aI ?_)))));refine⟨a,li,lg,ins,gvs,gs,y,rfl,NA4.mono dl dt,ok,sy,λl vs' H5 S5 hl0 hl5 pr5 hn5=>?_⟩;have kc:dj H5 (upd H5 cell (dN o)):=λb xs e=>by rw[ak (λz=>by rw[z,hn5]at e;cases e)];exact e
  refine q4 l _ (λb u e=>?_) (iK (by rw[ak (λz=>by rw[z,hn5]at hl5;cases hl5)];exact hl5) (cE kc pr5));by_cases cb:b=cell
  ·subst cb;rw[ag,<-hcl4];exact e
  rw[ak cb];exact S5 _ _ (by rw[bE cb];exact e)
 show Q (V.ref F) (dQ H3 cell);have hcl3:=S3 _ _ hcl2;have d3:∀{b u},H3 b=some u->b≠cell->dQ H3 cell b=some u:=λe n=>by rw[bE n];exact e
 have Fcell:F≠cell:=λz=>by rw[z,hcl2]at hF;cases hF
 have tb3:gE TL fA (dQ H3 cell):=by
  rcases tb2 with e|⟨c',e,q⟩
  ·exact .inl (d3 (S3 _ _ e) Tcell)
  have c'cell:c'≠cell:=λz=>by rw[z,hcl2]at q;cases q
  exact .inr ⟨c',d3 (S3 _ _ e) Tcell,d3 (S3 _ _ q) c'cell⟩
 have F0:H F=none:=by
  cases e:H F with
  | none=>rfl
  | some u =>
  by_cases c:F=TL
  ·obtain⟨ps,e2⟩:=yU tb2;rw[c,e2]at hF;cases hF
  rw[k12 _ _ e c]at hF;cases hF
 refine k F as n _ ⟨λb u e nT=>d3 (S3 _ _ (k12 b u e nT)) (H2R e nT),tb3⟩ F0 ln3 las (d3 hF3 Fcell) λi x b e1 e2=>?_;obtain⟨vs,h1,h2⟩:=sts i x b e1 e2;exact⟨vs,d3 h1 (λz=>by rw[z,hcl3]at h1;cases h1),bK (λv st ⟨b,e,q⟩=>⟨b,e,d3 q (λz=>by rw[z,hcl3]at q;cases q)⟩) h2⟩
end
theorem ny {nm:Str}:∀{ns:List Str},inV (.str nm) (ns.map V.str)=true↔nm∈ns
 | []=>by simp[inV]
 | x::ns=>by
  have ih:=ny (nm:=nm) (ns:=ns);unfold inV at ih ⊢;rw[QI,List.any_cons,Bool.or_eq_true,ih,QV]
  have:eqV (.str x) (.str nm)=true↔nm=x:=by
   show decide (x=nm)=true↔_;rw[XR];exact⟨λh=>h.symm,λh=>h.symm⟩
  rw[this]
theorem lT (ns:List Str):(ns.map V.str).all dw=true:=by
 rw[QK];intro x hx;obtain⟨y,_,rfl⟩:=Qk.mp hx;rfl
section
variable (ins:List Str) (gs:List (Str × Rl))
end
theorem d8 (ins:List Str) (gs:List (Str × Rl)) (y:Str):(ao ins gs y).length<=gs.length:=by
 unfold ao;have:=List.length_filterMap_le (cr (sgn (ap ins gs) y) y) (gs.zipIdx ins.length);rwa [List.length_zipIdx]at this
def FAt (H:Hp) (F:Addr) (ins:List Str) (gs:List (Str × Rl)) (R:Str->Prop):Prop:=∀y,R y->∃b,cL H F (kV (Sum.inr y)) (some (.ref b))/\bo H b (cM (ao ins gs y))
theorem gk {ps:List (Str × Str)} (pv:Paired (λv (s:V × Key)=>∃b,v=.ref b/\H b=some (.tup [s.1,kV s.2])) vs (cM ps)) {v:V} (e:vs[i]?=some v):∃p b,ps[i]?=some p/\v=.ref b/\H b=some (.tup [.str p.1,.str p.2]):=by
 obtain⟨st,e1,b,e2,h⟩:=paired_get pv e;unfold cM at e1;rw[Qh]at e1
 cases e3:ps[i]? with
 | none=>rw[e3]at e1;cases e1
 | some p=>rw[e3]at e1;cases e1;exact⟨p,b,rfl,e2,h⟩
section
end
section
variable (st:Str->List (Str × Str))
def evs (xs:List Str):List (Str × (Str × Str)):=xs.flatMap λh=>(st h).map λp=>(p.2,(p.1,h))
def hU (es:List (Str × (Str × Str))) (x:Str):Option (Str × Str):=(es.find? λe=>e.1==x).map (·.2)
inductive Path (xs:List Str) (s:Str):Str->List Str->Prop
 | nil:Path xs s s []
 | snoc {x h nm:Str} {ns:List Str}:x≠s->hU (evs st xs) x=some (nm,h)->Path xs s h ns->Path xs s x (ns++[nm])
end
variable {st:Str->List (Str × Str)}
theorem Path.det (a:Path st xs s x ns):Path st xs s x ms->ns=ms:=by
 induction a generalizing ms with
 | nil=>intro b;cases b with
  | nil=>rfl
  | snoc h _ _=>exact absurd rfl h
 | snoc h c _ ih=>intro b;cases b with
  | nil=>exact absurd rfl h
  | snoc h' c' p' =>
   rw[c]at c';cases c';rw[ih p']
theorem Path.start {xs:List Str} (a:Path st xs s s ns):ns=[]:=a.det .nil
structure CAt (H:Hp) (C:Addr) (kvs:List (Key × V)) (es:List (Str × (Str × Str))):Prop where
 hC:H C=some (.dK kvs)
 some:∀x r,hU es x=some r->∃t,ba kvs (Sum.inr x)=some (.ref t)/\H t=some (.tup [.str r.1,.str r.2])
 none:∀x,hU es x=none->ba kvs (Sum.inr x)=none
 len:kvs.length<=es.length
def au (xs:List Str):List Key:=xs.map Sum.inr
theorem ki {k:Key} {v:V} (h:(fdK (au xs) as)[j]?=some (k,v)):∃x b,xs[j]?=some x/\as[j]?=some b/\k=Sum.inr x/\v=.ref b:=by
 unfold fdK au at h;rw[Qh]at h
 cases q:((xs.map Sum.inr:List Key).zip as)[j]? with
 | none=>rw[q]at h;cases h
 | some p =>
 obtain⟨p1,p2⟩:=p;rw[q]at h;cases h;obtain⟨h1,h2⟩:=List.getElem?_zip_eq_some.mp q;rw[Qh]at h1
 cases e:xs[j]? with
 | none=>rw[e]at h1;cases h1
 | some x=>rw[e]at h1;cases h1;exact⟨x,p2,rfl,h2,rfl,rfl⟩
theorem eF (nd:(kvs.map (·.1)).Nodup):∀{i:Nat} {k:Key} {v:V},kvs[i]?=some (k,v)->ba kvs k=some v:=by
 induction kvs with
 | nil=>intro i k v e;simp at e
 | cons p r ih =>
 intro i k v e;rw[QI,Q5]at nd
 cases i with
 | zero =>
  simp at e;subst e;exact bO (p:=(k,v)) rfl
 | succ i =>
 simp at e;rw[bP (λz:p.1=k=>nd.1 (by rw[z];exact Qk.mpr ⟨(k,v),Qi e,rfl⟩))];exact ih nd.2 e
theorem gt (nd:xs.Nodup):((fdK (au xs) as).map (·.1)).Nodup:=by
 rw[g_];refine(List.take_sublist _ _).nodup ?_;unfold au;exact List.Pairwise.map _ (λa b h z=>h (Sum.inr.inj z)) nd
section
end
theorem ph:∀{ks:List Key},(∀k∈ks,∃y:Str,k=Sum.inr y)->∃xs:List Str,ks=au xs
 | [],_=>⟨[],rfl⟩
 | k::ks,h=>by
  obtain⟨y,rfl⟩:=h k (by simp);obtain⟨xs,rfl⟩:=ph λk hk=>h k (Qw _ hk);exact⟨y::xs,rfl⟩
theorem cV {k:Key}:(au xs)[i]?=some k↔∃x,xs[i]?=some x/\k=Sum.inr x:=by
 unfold au;rw[Qh]
 cases xs[i]? with
 | none=>simp
 | some x=>simp[eq_comm]
theorem lN:∀{xs ys:List Str},au xs=au ys->xs=ys
 | [],[],_=>rfl
 | [],y::ys,h=>by cases h
 | x::xs,[],h=>by cases h
 | x::xs,y::ys,h=>by
  unfold au at h;rw[QI,QI]at h;injection h with h1 h2;rw[Sum.inr.inj h1,lN (xs:=xs) (ys:=ys) h2]
structure Met (ins:List Str) (gs:List (Str × Rl)) (z:Str) (xs:List Str):Prop where
 bfs:au xs=Bf.bfs (nxK (stN ins gs)) (Sum.inr z) xs.length
 st:∀x∈xs,StOk (ap ins gs).length x
theorem vB {k:Key}:k∈nxK (stN ins gs) (Sum.inr h)↔∃p∈ao ins gs h,k=Sum.inr p.2:=by
 unfold nxK stN cM;rw[QW]
 constructor
 ·intro q;obtain⟨p,hp,e⟩:=Qk.mp q;exact⟨p,hp,e.symm⟩
 rintro⟨p,hp,rfl⟩;exact Qk.mpr ⟨p,hp,rfl⟩
variable {ins:List Str} {gs:List (Str × Rl)} {z:Str} {xs:List Str}
section
theorem Met.len (m:Met ins gs z xs):(Bf.bfs (nxK (stN ins gs)) (Sum.inr z) xs.length).length=xs.length:=by rw[<-m.bfs];unfold au;rw[Qa]
theorem Met.nd (m:Met ins gs z xs):xs.Nodup:=by
 have:=Bf.cq (nx:=nxK (stN ins gs)) (s:=(Sum.inr z:Key)) xs.length;rw[<-m.bfs]at this;unfold au at this;exact(List.pairwise_map.mp this).imp λh e=>h (by rw[e])
theorem Met.zero (m:Met ins gs z xs):xs[0]?=some z:=by
 have:=Bf.pK (nx:=nxK (stN ins gs)) (s:=(Sum.inr z:Key)) xs.length;rw[<-m.bfs]at this;obtain⟨x,h1,h2⟩:=cV.mp this;cases h2;exact h1
theorem Met.pred (m:Met ins gs z xs) {j:Nat} {x:Str} (hj:0<j) (e:xs[j]?=some x):∃i h p,i<j/\xs[i]?=some h/\p∈ao ins gs h/\p.2=x:=by
 obtain⟨i,k,h1,_,h3,h4⟩:=Bf.kI (nx:=nxK (stN ins gs)) (s:=(Sum.inr z:Key)) xs.length j (Sum.inr x) hj (by rw[<-m.bfs];exact cV.mpr ⟨x,e,rfl⟩);rw[<-m.bfs]at h3;obtain⟨h,e1,rfl⟩:=cV.mp h3;obtain⟨p,hp,e2⟩:=vB.mp h4;exact⟨i,h,p,h1,e1,hp,(Sum.inr.inj e2).symm⟩
theorem Met.closed (m:Met ins gs z xs) {h:Str} (hh:h∈xs) {p:Str × Str} (hp:p∈ao ins gs h):p.2∈xs:=by
 obtain⟨i,hi,e⟩:=Qq.mp hh;have:=Bf.kK (nx:=nxK (stN ins gs)) (s:=(Sum.inr z:Key)) (n:=xs.length) (i:=i) hi (by rw[<-m.bfs];exact cV.mpr ⟨h,by rw[Qc hi,e],rfl⟩) (Sum.inr p.2) (vB.mpr ⟨p,hp,rfl⟩);rw[<-m.bfs]at this;unfold au at this;obtain⟨y,hy,e⟩:=Qk.mp this;cases e;exact hy
theorem Met.one {ys:List Str} (m:Met ins gs z xs) (m':Met ins gs z ys):xs=ys:=by
 have e:=Bf.xE m.len m'.len;have h:=m.bfs;rw[e,<-m'.bfs]at h;exact lN h
theorem kD {st:Str->List (Str × Str)}:∀{xs:List Str} {i:Nat} {h:Str} {p:Str × Str},xs[i]?=some h->p∈st h->∃i' h' nm,i'<=i/\xs[i']?=some h'/\hU (evs st xs) p.2=some (nm,h')
 | [],_,_,_,e,_=>by simp at e
 | x0::xs,i,h,p,e,hp=>by
  have split:evs st (x0::xs)=((st x0).map λp=>(p.2,(p.1,x0)))++evs st xs:=rfl
  cases q:((st x0).map λp=>(p.2,(p.1,x0))).find? λe=>e.1==p.2 with
  | some r =>
   have hm:=List.mem_of_find?_eq_some q;obtain⟨p',_,rfl⟩:=Qk.mp hm;refine⟨0,x0,p'.1,QN _,rfl,?_⟩;unfold hU;rw[split,List.find?_append,q];rfl
  | none =>
  cases i with
  | zero =>
   simp at e;subst e;have:=List.find?_eq_none.mp q (p.2,(p.1,x0)) (Qk.mpr ⟨p,hp,rfl⟩);simp at this
  | succ i =>
  obtain⟨i',h',nm,a,b,c⟩:=kD (xs:=xs) (i:=i) (by simpa using e) hp;refine⟨i'+1,h',nm,by omega,by simpa using b,?_⟩;unfold hU at c ⊢;rw[split,List.find?_append,q,Option.none_or];exact c
theorem Met.path (m:Met ins gs z xs):∀(j:Nat) (x:Str),xs[j]?=some x->∃ns,Path (ao ins gs) xs z x ns/\ns.length<=j:=by
 intro j
 induction j using Nat.strongRecOn with
 | _ j ih =>
 intro x e;by_cases hj:j=0
 ·subst hj;rw[m.zero]at e;cases e;exact⟨[],.nil,Qg _⟩
 obtain⟨i,h,p,h1,h2,h3,rfl⟩:=m.pred (by omega) e;obtain⟨i',h',nm,a,b,c⟩:=kD h2 h3;obtain⟨ns,pn,ln⟩:=ih i' (by omega) h' b;refine⟨ns++[nm],.snoc (λq=>?_) c pn,by rw[Qj];simp;omega⟩;rw[q]at e;have e0:=m.zero;have hl:=(Qe.mp e).1;have:=(List.getElem?_inj (i:=0) (j:=j) (by omega) m.nd).mp (by rw[e0,e]);omega
end
section
end
structure DOk (ns:List Int):Prop where
 lo:200<=ns.length
 hi:ns.length<=400
 each:∀n∈ns,0<=n/\n<10007
def mI (K:PySem.W.Frag):Sp:=λvs H Q _=>∃(s:Addr) (cs:List Int),vs=[.ref s,.int 200]/\SqL K H s (cs.map V.int)/\cs.length<=63/\∀l ns H',am H H'->H l=none->H' l=some (.lst (ns.map V.int))->DOk ns->Q (.ref l) H'
theorem xD {xs:List V} {lo hi:Option Int}:(∀x∈fQ xs lo hi,x∈xs)/\(fQ xs lo hi).length<=xs.length :=
 ⟨λx hx=>List.mem_of_mem_drop (List.mem_of_mem_take hx),iR xs lo hi⟩
theorem r9:∀(xs:List V),(∀x∈xs,∃i:Int,x=.int i)->∃ds:List Int,xs=ds.map V.int
 | [],_=>⟨[],rfl⟩
 | x::xs,h=>by
  obtain⟨i,e⟩:=h x (by simp);obtain⟨ds,e2⟩:=r9 xs λy hy=>h y (Qw _ hy);exact⟨i::ds,by rw[e,e2];rfl⟩
theorem wf (cs:List Int) (h:cs.length<=63) {lo hi:Option Int}:∃ds:List Int,fQ (cs.map V.int) lo hi=ds.map V.int/\ds.length<=63:=by
 obtain⟨m,l⟩:=xD (xs:=cs.map V.int) (lo:=lo) (hi:=hi)
 obtain⟨ds,e⟩:=r9 (fQ (cs.map V.int) lo hi) λx hx=>by
  obtain⟨i,_,e⟩:=Qk.mp (m x hx);exact⟨i,e.symm⟩
 refine⟨ds,e,?_⟩;rw[e,Qa,Qa]at l;omega
theorem qP {ns:List Int} {n:Int} (h:H p=some (.lst (ns.map V.int))) (hz:ns.length<=500) (hns:∀m∈ns,0<=m/\m<10007) (hb:0<=n/\n<10007)
  (q:∀(H':Hp) (ns':List Int),H' p=some (.lst (ns'.map V.int))->ns'.length=ns.length+1->(∀m∈ns',0<=m/\m<10007)->(∀b,b≠p->H' b=H b)->Q .non H'):mY (.ref p) [.int n] H Q:=by
 have big:1000<sizeLine:=by decide
 refine fw h (by rw[Qa];omega) (q _ (ns++[n]) (by rw[ag];simp) (by simp) (λm hm=>?_) λb hb=>ak hb);rcases Qv.mp hm with h|h
 ·exact hns m h
 rw[QA]at h;rw[h];exact hb
theorem qF (a:Int):0<=a % 10007/\a % 10007<10007:=⟨Int.emod_nonneg _ (by decide),Int.emod_lt_of_pos _ (by decide)⟩
theorem jJ (S:am H H3) (hp:H p=none) (h:∀b,b≠p->H4 b=H3 b):am H H4:=λb u e=>by rw[h b (aD e hp)];exact S b u e
section
theorem mQ:FnScope ["script", "many", "drawn", "base", "k", "cell", "number", "one"] ["script", "many"] (aA (top 34)):=by walk_at "k"
theorem vt {f:Addr} {fd:FuncData} (Fu:Fun K "_law_draws" "_law_draws" (top 34) f fd) (T:Txt K mg TT):FnOk P w K mg base CX0 1 f fd ["script", "many"] (mI K):=by
 have S:=mQ;refine Fu.ok S (by walk_at "l") (λcdv A outer s H vs Q E hr h=>?_);obtain⟨a,cs,rfl,hS,hlen,k⟩:=h
 refine⟨_,(pss_cons (aF 2 S.nd (bx ad))
  (pss_cons (uK (i:=3) S.nd rfl (by walk_at "z") af)
  (pss_cons (ps_for PassesOwn.never rfl (rJ (by rfl) T.n_enumerate (aa (bJ fY (pv 0) cw (cu af)) ad)) (iw rfl (bD (bQ 4 S.nd) (bD (bQ 5 S.nd) eJ)))
  (pss_cons (aF 6 S.nd (aB wv (by rfl) T.n_abs PyProof.Rows.boot_abs (aa (pv 5) ad)))
  (pss_cons (aF 3 S.nd (av aX (av aV (av ee (pv 3) af) (pv 6)) af))
  (a8 (ps_if (aG u_ (pv 6) (av zt af af) (aK _)) (a8 (fH PassesOwn.never (PW.pt (m_ (aG yk (pv 6) af (aK _)) (ja (aG iN (aB aJ (by rfl) T.n_len QH (aa (pv 2) ad)) (pv 1) (aK _)))))
  (pss_cons (bI (dI QM QR QS bp (pv 2) (aa (av aX (pv 6) af) ad)))
  (a8 (aF 6 S.nd (av de (pv 6) af)))))) (pss_cons (aF 7 S.nd (av aX (av ee (av aV (av aV (av aX (pv 6) af) (pv 4)) af) af) af))
  (pss_cons (aF 7 S.nd (av aX (av ee (pv 7) (pv 7)) af))
  (pss_cons (bI (dI QM QR QS bp (pv 2) (aa (av aX (av de (pv 7) af) af) ad)))
  (pss_cons (aF 7 S.nd (av aX (av aV (av aV (av ee (pv 7) af) (av ee af (pv 4))) af) af))
  (pss_cons (aF 7 S.nd (av aX (av ee (pv 7) (pv 7)) af))
  (a8 (bI (dI QM QR QS bp (pv 2) (aa (av aX (av de (pv 7) af) af) ad))))))))))))))
  (pss_cons (ps_for PassesOwn.never rfl (cI (by rfl) T.n_range (aa (av iy (pv 1) (aB aJ (by rfl) T.n_len QH (aa (pv 2) ad))) ad)) (bQ 4 S.nd)
  (pss_cons (aF 7 S.nd (av aX (av aV (av aV (pv 3) (av ee af (pv 4))) af) af))
  (pss_cons (aF 7 S.nd (av aX (av ee (pv 7) (pv 7)) af))
  (pss_cons (aF 7 S.nd (av aX (av aV (av ee (pv 7) af) (pv 4)) af))
  (a8 (bI (dI QM QR QS bp (pv 2) (aa (av aX (av de (av aX (av ee (pv 7) (pv 7)) af) af) af) ad))))))))
  (a8 (aE (pv 2))))))),?_⟩
 walk_at "e";walk_at "w";refine⟨by decide,λp hp=>?_⟩;generalize hE:upd _ p _=H1;have S1:am H H1:=by rw[<-hE];exact aj hp
 have q1:H1 p=some (.lst (([]:List Int).map V.int)):=by rw[<-hE];exact ag
 clear hE;walk_at "w";show bY _ _ _ _ _;walk_at "w";refine lQ (S1.seq hS) λsl hsl=>?_;obtain⟨ds,hds,dl⟩:∃ds:List Int,fQ (cs.map V.int) none (some 63)=ds.map V.int/\ds.length<=63:=wf cs hlen;rw[hds];generalize hE:upd _ sl _=H2;have S2:am H1 H2:=by rw[<-hE];exact aj hsl
 have q2:H2 sl=some (.lst (ds.map V.int)):=by rw[<-hE];exact ag
 clear hE;have nps:p≠sl:=aD q1 hsl;refine aI ⟨sl,rfl,⟨_,SqL.of q2⟩,?_⟩;let I6:IvF:=λi σ H'=>(∃(bs:Int) (ns:List Int),∃x4 x5 x6 x7,σ=[some (.ref a),some (.int 200),some (.ref p),some (.int bs),x4,x5,x6,x7]/\0<=bs/\bs<2147483629/\H' p=some (.lst (ns.map V.int))/\ns.length<=200+2*i/\∀n∈ns,0<=n/\n<10007)/\am H H'/\H' sl=some (.lst (ds.map V.int))
 refine pC (xs:=ds.map V.int) I6
  ⟨⟨7,[],_,_,_,_,rfl,by decide,by decide,S2 _ _ q1,by simp,λn h=>nomatch h⟩,S1.trans S2,q2⟩ (λi σ H' _ pv=>SqL.of pv.2.2) (λi x σ H' t hx pv ht=>?_) (λσ H' pv=>?_)
 ·obtain⟨⟨bs,ns,x4,x5,x6,x7,rfl,b0,b1,hp',hln,hns⟩,SS,hsl'⟩:=pv;rw[Qh]at hx
  cases hc:ds[i]? with
  | none=>rw[hc]at hx;cases hx
  | some c =>
  rw[hc]at hx;cases hx;have hi:i<ds.length:=(Qe.mp hc).1;have S3:=aj (o:=.tup [.int (i:Nat),.int c]) ht;refine⟨t,_,rfl,SqT.of ag,rfl,?_⟩;refine⟨_,_,rfl,az ⟨_,_,rfl,az ?_⟩⟩;have hp3:=S3 _ _ hp';have hsl3:=S3 _ _ hsl';have SS3:=SS.trans S3;generalize upd H' t (.tup [.int (i:Nat),.int c])=H3 at *;refine⟨rfl,?_⟩;have n0:0<=(if c<0 then -c else c):=by split <;> omega
  walk_at "w";generalize (if c<0 then -c else c)=nu at *;have bb0:0<=(bs*31+nu) % 2147483629:=Int.emod_nonneg _ (by decide);have bb1:(bs*31+nu) % 2147483629<2147483629:=Int.emod_lt_of_pos _ (by decide);generalize (bs*31+nu) % 2147483629=b2 at *;refine eX (λ_=>?_) (λ_=>?_)
  ·let I7:IvF:=λm σ H'=>∃(nu:Int) (ns:List Int),∃x7,m=200-ns.length/\σ=[some (.ref a),some (.int 200),some (.ref p),some (.int b2),some (.int (i:Nat)),some (.int c),some (.int nu),x7]/\H' p=some (.lst (ns.map V.int))/\ns.length<=200+2*(i+1)/\(∀n∈ns,0<=n/\n<10007)/\am H H'/\H' sl=some (.lst (ds.map V.int))
   refine⟨I7,
    ⟨_,nu,ns,_,rfl,rfl,hp3,by omega,hns,SS3,hsl3⟩,?_⟩
   rintro m σ H4 ⟨nu,ns,x7,rfl,rfl,hp4,hl4,hn4,SS4,hs4⟩
   have done:((∃(bs:Int) (ns:List Int),∃x4 x5 x6 x7',[some (.ref a),some (.int 200),some (.ref p),some (.int b2),some (.int (i:Nat)),some (.int c),some (.int nu),x7]=[some (V.ref a),some (V.int 200),some (V.ref p),some (V.int bs),x4,x5,x6,x7']/\0<=bs/\bs<2147483629/\H4 p=some (.lst (ns.map V.int))/\ns.length<=200+2*(i+1)/\∀n∈ns,0<=n/\n<10007)/\am H H4/\H4 sl=some (.lst (ds.map V.int))) :=
    ⟨⟨b2,ns,_,_,_,_,rfl,bb0,bb1,hp4,hl4,hn4⟩,SS4,hs4⟩
   walk_at "w";refine eX (λ_=>?_) (λ_=>ck done);walk_at "w";refine eX (λhlt=>?_) (λ_=>done)
   have hlt':ns.length<200:=by
    have:=of_decide_eq_true hlt;rw[Qa]at this;omega
   let I8:IvJ:=λσ H'=>∃(nu:Int) (ns':List Int),∃x7,ns'.length=ns.length+1/\σ=[some (.ref a),some (.int 200),some (.ref p),some (.int b2),some (.int (i:Nat)),some (.int c),some (.int nu),x7]/\H' p=some (.lst (ns'.map V.int))/\ns'.length<=200+2*(i+1)/\(∀n∈ns',0<=n/\n<10007)/\am H H'/\H' sl=some (.lst (ds.map V.int));refine⟨I8,λσ' H' w=>by obtain⟨nu,ns',x7,e,r⟩:=w;exact⟨200-ns'.length,by rw[e];exact Nat.sub_lt_sub_left hlt' (Nat.lt_succ_self _),nu,ns',x7,rfl,r⟩,?_⟩;walk_at "w";refine fw hp4 (by rw[Qa];omega) ?_;walk_at "w";refine⟨_,ns++[nu % 10007],_,by simp,rfl,by rw[ag];simp,by simp;omega,λn hn=>?_,aQ SS4 hp,by rw[ak nps.symm];exact hs4⟩;rcases Qv.mp hn with h|h
   ·exact hn4 n h
   rw[QA]at h;rw[h];exact⟨Int.emod_nonneg _ (by decide),Int.emod_lt_of_pos _ (by decide)⟩
  walk_at "w";refine qP hp3 (by omega) hns (qF _) λH4 ns4 hp4 l4 hn4 o4=>?_;walk_at "w";refine qP hp4 (by omega) hn4 (qF _) λH5 ns5 hp5 l5 hn5 o5=>?_;exact⟨⟨b2,ns5,_,_,_,_,rfl,bb0,bb1,hp5,by omega,hn5⟩,jJ (jJ SS3 hp o4) hp o5,by rw[o5 _ nps.symm,o4 _ nps.symm];exact hsl3⟩
 obtain⟨⟨bs,ns,x4,x5,x6,x7,rfl,b0,b1,hp',hln,hns⟩,SS,hsl'⟩:=pv;rw[Qa]at hln;walk_at "w";refine⟨by rw[Qa];omega,by rw[Qa];omega,?_⟩;rw[Qa];let I9:IvF:=λi σ H'=>(∃(ns':List Int),∃x4 x5 x6 x7,σ=[some (.ref a),some (.int 200),some (.ref p),some (.int bs),x4,x5,x6,x7]/\H' p=some (.lst (ns'.map V.int))/\ns'.length=ns.length+i/\∀n∈ns',0<=n/\n<10007)/\am H H';refine dC I9 ⟨⟨ns,_,_,_,_,rfl,hp',rfl,hns⟩,SS⟩ (λi σ H' hi pv=>?_) (λσ H' pv=>?_)
 ·obtain⟨⟨ns',x4,x5,x6,x7,rfl,hp6,hl6,hn6⟩,SS6⟩:=pv;have hi':i<200:=by omega
  refine az ?_;walk_at "w";refine qP hp6 (by omega) hn6 (qF _) λH7 ns7 hp7 l7 hn7 o7=>?_;exact⟨⟨ns7,_,_,_,_,rfl,hp7,by omega,hn7⟩,jJ SS6 hp o7⟩
 obtain⟨⟨ns',x4,x5,x6,x7,rfl,hp6,hl6,hn6⟩,SS6⟩:=pv;refine ca (te:=cX 2) (D:={ nx:=λx H'=>Q V.non H',rt:=Q }) (ai rfl ?_);exact k p ns' H' SS6 hp hp6 ⟨by omega,by omega,hn6⟩
end
theorem fi {T:List Nat}:∀(zs:List Str),(∀z∈zs,∃c∈T,z=⟨#[c]⟩)->((zs.map (·.cps.toList)).flatten).length=zs.length/\(∀c∈(zs.map (·.cps.toList)).flatten,c∈T)/\(zs.map (·.length)).sum=zs.length
 | [],_=>⟨rfl,λc h=>(List.not_mem_nil h).elim,rfl⟩
 | z::zs,h=>by
  obtain⟨c,hc,rfl⟩:=h z (by simp);obtain⟨e1,e2,e3⟩:=fi zs λz hz=>h z (Qw _ hz);refine⟨?_,λd hd=>?_,?_⟩
  ·simp only[QI,List.flatten_cons,Qj,e1,QQ];show (#[c]:Array Nat).toList.length+zs.length=_;simp;omega
  ·simp only[QI,List.flatten_cons,Qv]at hd;rcases hd with hd|hd
   ·have:d=c:=by simpa using hd
    rw[this];exact hc
   exact e2 d hd
  simp only[QI,List.sum_cons,QQ,e3];show (#[c]:Array Nat).size+zs.length=_;simp;omega
theorem tU {T:List Nat} (h:∀z∈zs,∃c∈T,z=⟨#[c]⟩):(Txt.join Str.empty zs).cps.size=zs.length/\∀c∈(Txt.join Str.empty zs).cps.toList,c∈T:=by
 obtain⟨e1,e2,_⟩:=fi zs h;rw[<-Qo,lR];exact⟨e1,e2⟩
theorem xG {t:Str} {r:Int} (h0:0<=r) (h1:r<t.cps.size):∃c,atI t.cps.toList r=some c/\c∈t.cps.toList:=by
 have hr:r.toNat<t.cps.toList.length:=by rw[Qo];omega
 refine⟨t.cps.toList[r.toNat],?_,Xq hr⟩;have e:r=((r.toNat:Nat):Int):=by omega
 have q:=cC (xs:=t.cps.toList) (j:=r.toNat) (v:=t.cps.toList[r.toNat]) (Qc hr);rw[<-e]at q;exact q
def Lt:Str := "abcdefghijklmnopqrstuvwxyz"
def Xn (t:Nat):Str:=Txt.mul ⟨#[Lt.cps.getD t 0]⟩ 8
theorem Aj:∀i,i<26->∀j,j<26->Xn i=Xn j->i=j:=by decide +kernel
theorem Ai:∀t,t<26->(Xn t).length=8:=by decide +kernel
theorem Da (c:Nat):MulOk ⟨#[c]⟩ 8:=by
 refine⟨by decide,λ_ _=>?_,λ_ _=>?_⟩
 ·show ¬((1:Int)>(2 ^ 63-1) / 8)
  decide
 rfl
theorem pigeon:∀(xs ys:List Str),xs.Nodup->(∀x∈xs,x∈ys)->xs.length<=ys.length
 | [],ys,_,_=>QN _
 | x::xs,ys,nd,h=>by
  rw[Q5]at nd;have hx:=h x (by simp);have:=pigeon xs (ys.erase x) nd.2 λy hy=>(List.mem_erase_of_ne (λz:y=x=>nd.1 (by rw[<-z];exact hy))).mpr (h y (Qw _ hy));rw[List.length_erase_of_mem hx]at this;have:0<ys.length:=List.length_pos_of_mem hx;rw[QQ];omega
theorem pM:∀t,t<=26->((List.range t).map Xn).Nodup
 | 0,_=>by simp
 | t+1,h=>by
  rw[List.range_succ,Qr,Xy];refine⟨pM t (by omega),by simp,λa ha b hb e=>?_⟩;obtain⟨i,hi,rfl⟩:=Qk.mp ha;rw[List.mem_range]at hi;have:b=Xn t:=by simpa using hb
  subst this;have:=Aj i (by omega) t (by omega) e;omega
theorem Dl (ht:t<=26) (h:∀j,j<t->Xn j∈ns):t<=ns.length:=by
 have:=pigeon ((List.range t).map Xn) ns (pM t ht) λx hx=>by
  obtain⟨j,hj,rfl⟩:=Qk.mp hx;exact h j (List.mem_range.mp hj)
 simpa using this
structure NmOk (b:Nat) (z:Str):Prop where
 pos:1<=z.length
 lt:z.length<b
def Bd (k:Nat):Nat:=9*2 ^ k
theorem sH (k:Nat):Bd (k+1)=2*Bd k:=by unfold Bd;rw[Nat.pow_succ];omega
theorem yS:∀k,9<=Bd k
 | 0=>by decide
 | k+1=>by rw[sH];have:=yS k;omega
theorem Dw:∀k,k<=11->Bd k<=20000:=by decide
theorem xF (h:ns≠[]):∃n∈ns,atI (ns.map V.str) (-1)=some (.str n):=by
 have hl:0<ns.length:=List.length_pos_iff.mpr h;refine⟨ns[ns.length-1],Xq _,?_⟩
 have e:ixN (ns.map V.str).length (-1)=some (ns.length-1):=by
  unfold ixN;rw[Qa,QB (by decide),QF (by omega)];congr 1;omega
 unfold atI;rw[e];show (ns.map V.str)[ns.length-1]?=_;rw[Qh,Qc (by omega)];rfl
theorem sC {ws:List Str} {r:Int} (h0:0<=r) (h1:r<ws.length):∃n∈ws,atI (ws.map V.str) r=some (.str n):=by
 have hr:r.toNat<ws.length:=by omega
 refine⟨ws[r.toNat],Xq hr,?_⟩;have e:r=((r.toNat:Nat):Int):=by omega
 have q:=cC (xs:=ws.map V.str) (j:=r.toNat) (v:=.str ws[r.toNat]) (by rw[Qh,Qc hr];rfl);rw[<-e]at q;exact q
theorem sR {z:Str} {j:Int} (hz:1<=z.length) (hj:1<=j) (hn:j<=z.length):1<=(Txt.slice z none (some j)).length:=by
 have h':z.length=z.cps.size:=rfl;have e:j=((j.toNat:Nat):Int):=by omega
 have q:=congrArg List.length (jC (z:=z) (j:=j.toNat) (by omega));rw[<-e,Qo,Qs,Qo]at q;show 1<=(Txt.slice z none (some j)).cps.size;omega
def jw:Sp:=λvs H Q _=>∃(d:Addr) (ns:List Int) (spot:Int),vs=[.ref d,.int spot]/\H d=some (.lst (ns.map V.int))/\DOk ns/\0<=spot/\spot<=1000 /\
 ∀l (nm:List Str) H',am H H'->H l=none->nm.length=11->nm.Nodup->H' l=some (.lst (nm.map V.str))->Q (.ref l) H'
theorem nO {ns:List Int} (h:DOk ns) (i:Int):∃n,0<=n/\n<10007/\atI (ns.map V.int) (i % ((ns.map V.int).length:Int))=some (.int n):=by
 have lo:=h.lo;rw[Qa];have h1:0<=i % (ns.length:Int):=Int.emod_nonneg _ (by omega);have h2:i % (ns.length:Int)<ns.length:=Int.emod_lt_of_pos _ (by omega);have h3:(i % (ns.length:Int)).toNat<ns.length:=by omega
 have e:i % (ns.length:Int)=(((i % (ns.length:Int)).toNat:Nat):Int):=by omega
 obtain⟨e1,e2⟩:=h.each _ (Xq h3);refine⟨ns[(i % (ns.length:Int)).toNat],e1,e2,?_⟩;have q:=cC (xs:=ns.map V.int) (j:=(i % (ns.length:Int)).toNat) (v:=.int ns[(i % (ns.length:Int)).toNat]) (by rw[Qh,Qc h3];rfl);rw[<-e]at q;exact q
theorem jh {ns:List Int} (h:DOk ns) {i:Int} (h0:0<=i) (h1:i<200):∃n,0<=n/\n<10007/\atI (ns.map V.int) i=some (.int n):=by
 have lo:=h.lo;have h3:i.toNat<ns.length:=by omega
 obtain⟨e1,e2⟩:=h.each _ (Xq h3);refine⟨ns[i.toNat],e1,e2,?_⟩;have e:i=((i.toNat:Nat):Int):=by omega
 have q:=cC (xs:=ns.map V.int) (j:=i.toNat) (v:=.int ns[i.toNat]) (by rw[Qh,Qc h3];rfl);rw[<-e]at q;exact q
theorem jP:∀(zs:List Str),(∀z∈zs,z.length=2)->((zs.map (·.cps.toList)).flatten).length=2*zs.length/\(zs.map (·.length)).sum=2*zs.length
 | [],_=>⟨rfl,rfl⟩
 | z::zs,h=>by
  have h0:z.cps.size=2:=h z (by simp);have h0':z.length=2:=h0;obtain⟨e1,e3⟩:=jP zs λz hz=>h z (Qw _ hz);refine⟨?_,?_⟩
  ·simp only[QI,List.flatten_cons,Qj,e1,QQ,Qo,h0];omega
  simp only[QI,List.sum_cons,QQ,e3,h0'];omega
theorem lap (a b:Str):(a++b).length=a.length+b.length:=by show (a.cps++b.cps).size=_;rw[Xx];rfl
theorem mh (i:Int):∃c,atI Lt.cps.toList (i % 26)=some c:=by
 have z26:((Lt.cps.size:Nat):Int)=26:=by decide +kernel
 obtain⟨c,e,_⟩:=xG (t:=Lt) (r:=i % 26) (Int.emod_nonneg _ (by decide)) (by rw[z26];exact Int.emod_lt_of_pos _ (by decide));exact⟨c,e⟩
def NJd (d l so:Addr) (spot:Int) (H:Hp) (wd:Str) (i:Nat) (ns:List Str):St->Hp->Prop:=λσ H'=>∃(way x:Int) (nm:Str) (x10 x11:Option V),σ=[some (.ref d),some (.int spot),some (.str Lt),some (.ref l),some (.int (0+i)),some (.ref so),some (.str wd),some (.int way),some (.int x),some (.str nm),x10,x11]/\0<=x/\NmOk (Bd (i+1)) nm/\H' l=some (.lst (ns.map V.str))/\am H H'
section
theorem mN:FnScope ["d", "spot", "letters", "found", "k", "some", "word", "way", "x", "name", "at", "turn"] ["d", "spot"] (aA (top 35)):=by walk_at "k"
theorem tF {f:Addr} {fd:FuncData} (Fu:Fun K "_law_names" "_law_names" (top 35) f fd) (T:Txt K mg TT):FnOk P w K mg base CX0 1 f fd ["d", "spot"] jw:=by
 have S:=mN;refine Fu.ok S (by walk_at "l") (λcdv A outer s H vs Q E hr h=>?_);obtain⟨d,ds,spot,rfl,hd,dok,sp0,sp1,k⟩:=h;refine'⟨?_,?bb,?_⟩
 case bb =>
  walk_at "b";exact aF 2 S.nd aM;exact aF 3 S.nd (bx ad);walk_at "f";exact(cI (by rfl) T.n_range (aa af ad aL));exact(bQ 4 S.nd);walk_at "p";exact(yd (j:=5) S.nd rfl (by walk_at "z") (tgs:=["j"]) (cap:=[("d", 0),("spot", 1),("k", 4)]) rfl ⟨rfl,rfl,rfl,rfl,rfl,rfl⟩ (cI (by rfl) T.n_range (aa af ad aL)) (λ_ _ _ _=>(bj (i:=0) (show List.Nodup [("j" : Str),("d" : Str),("spot" : Str),("k" : Str)] by decide +kernel) rfl (by walk_at "z"))) (λ_ _ _ _=>bq) (λ_ _ _ _=>(aC (ke (K:=K) rfl) (pv 1) (av aX (av aV (av aV (av aV af (pv 2)) (av ee af (pv 3))) (pv 0)) (aB (eQ (K:=K) rfl) (by rfl) T.n_len QH (aa (pv 1) ad ae))) (λ_ _=>rfl))));exact aF 6 S.nd (dI PySem.F.plainAttrs_str PySem.F.slot_str_join PySem.F.type_str_join rP aM (aa (dr (tgs:=["one"]) (cap:=[("letters", 2)]) rfl ⟨rfl,rfl,rfl,rfl,rfl,rfl⟩ (bu (bJ fY (pv 5) cw (cu af))) (λ_ _ _ _=>(bj (i:=0) (show List.Nodup [("one" : Str),("letters" : Str)] by decide +kernel) rfl (by walk_at "z"))) (λ_ _ _ _=>bq) (λ_ _ _ _=>(av cG (aC eP (pv 1) (av aX (pv 0) af) (λ_ _=>rfl)) (aC eP (pv 1) (av aX (av de (pv 0) af) af) (λ_ _=>rfl))))) ad));exact aF 7 S.nd (av aX (aC aH (pv 5) af (λ_ _=>rfl)) af);exact aF 8 S.nd (av de (aC aH (pv 5) af (λ_ _=>rfl)) af);exact aF 9 S.nd (bJ fE (pv 6) cw (cu (av aV af (av aX (pv 8) af))));exact(aG cA (pv 7) af (aK _));exact aF 9 S.nd (av cG (bJ fE (aC aH (av jR (pv 3) (bx (aa (pv 6) ad ae))) af (λ_ _=>rfl)) cw (cu (av aX (pv 8) af))) (aC eP (pv 6) af (λ_ _=>rfl)));exact(PW.pt (m_ (aG cA (pv 7) af (aK _)) (ja (aG (nj hr.units) (pv 3) (bx ad) (aK _)))));exact aF 10 S.nd (av aX (pv 8) (aB dW (by rfl) T.n_len QH (aa (aC aH (pv 3) (uT pQ af) (λ_ _=>rfl)) ad)));exact aF 9 S.nd (av cG (av cG (bJ fE (aC aH (pv 3) (uT pQ af) (λ_ _=>rfl)) cw (cu (pv 10))) (aC eP (pv 6) af (λ_ _=>rfl))) (bJ fE (aC aH (pv 3) (uT pQ af) (λ_ _=>rfl)) (cu (av aV (pv 10) af)) cw));exact(aG cA (pv 7) af (aK _));exact aF 9 S.nd (aC aH (bx (aa aM (aa aM (aa aM (aa aM (aa aM (aa aM (aa aM (aa aM (aa aM (aa aM ad aL) aL) aL) aL) aL) aL) aL) aL) aL) aL)) (av aX (pv 8) af) (λ_ _=>rfl));exact aF 11 S.nd af;refine' fH PassesOwn.never ?_ ?_;rotate_left 2;exact(aG tf (pv 9) (pv 3) rfl);walk_at "p";exact aF 9 S.nd (av qr (aC eP (pv 2) (pv 11) (λ_ _=>rfl)) af);exact aF 11 S.nd (av aV (pv 11) af);exact(bI (dI QM QR QS bp (pv 3) (aa (pv 9) ad ae)));exact(aE (pv 3))
 walk_at "e";walk_at "w";refine⟨by decide,λl hl=>?_⟩;generalize hE:upd _ l _=H1;have S1:am H H1:=by rw[<-hE];exact aj hl
 have q1:H1 l=some (.lst (([]:List Str).map V.str)):=by rw[<-hE];exact ag
 clear hE;walk_at "w";refine⟨by decide,by decide,?_⟩;let I10:IvF:=λi σ H'=>∃x4 x5 x6 x7 x8 x9 x10 x11,∃ns:List Str,σ=[some (.ref d),some (.int spot),some (.str Lt),some (.ref l),x4,x5,x6,x7,x8,x9,x10,x11]/\i<=11/\ns.length=i/\ns.Nodup/\(∀n∈ns,NmOk (Bd i) n)/\H' l=some (.lst (ns.map V.str))/\am H H'
 refine dC (n:=11) I10
  ⟨_,_,_,_,_,_,_,_,[],rfl,QN _,rfl,List.nodup_nil,(λn h=>nomatch h),q1,S1⟩ (λi σ H' hi pv=>?_) (λσ H' pv=>?_)
 ·obtain⟨x4,x5,x6,x7,x8,x9,x10,x11,ns,rfl,_,hn,nd,good,hl',SS⟩:=pv;have bge:=yS i;have ble:=Dw i (by omega);have bsu:=sH i;refine az ?_;walk_at "w";refine bS ?_;walk_at "w";refine⟨by decide,by decide,λso hso=>?_⟩;have hdH:=SS _ _ hd;let I11:IvC:=λn H2 ys=>am H' H2/\H2 so=some (.lst ys)/\∃zs:List Int,ys=zs.map V.int/\zs.length=n/\∀z∈zs,0<=z/\z<10007;refine gy I11 ⟨aj hso,ag,[],rfl,rfl,λz h=>nomatch h⟩ (λn H2 ys p=>p.2.1) (λn H2 ys hn5 p=>?_) (λH2 ys p=>?_)
  ·obtain⟨S2,h2,zs,rfl,hz,hc⟩:=p;refine az ⟨⟨rfl,rfl,rfl,trivial⟩,i_yes (bX ?_)⟩;show tOp _ _ _ [some (.int (0+n)),some (.ref d),some (.int spot),some (.int (0+i))] _ _;have hd2:=S2 _ _ hdH;have lo:=dok.lo;walk_at "w";refine i_rI (by rw[Qa];omega) ?_;obtain⟨m,m0,m1,em⟩:=nO dok (140+spot+5*(0+(i:Int))+(0+(n:Int)));refine a_ (SqL.of hd2) em ?_;refine bV.mk h2 hn5 (by rw[Qa];omega) ⟨aQ S2 hso,ag,zs++[m],by simp,by simp[hz],λz hz'=>?_⟩;rcases Qv.mp hz' with h|h
   ·exact hc z h
   rw[QA]at h;rw[h];exact⟨m0,m1⟩
  obtain⟨S2,h2,zs,rfl,hz,hc⟩:=p
  obtain⟨z0,z1,z2,z3,z4,rfl⟩:∃z0 z1 z2 z3 z4,zs=[z0,z1,z2,z3,z4]:=by
   match zs,hz with
   | [z0,z1,z2,z3,z4],_=>exact⟨z0,z1,z2,z3,z4,rfl⟩
  have SS2:=SS.trans S2;have hl2:=S2 _ _ hl';have c4:=hc z4 (by simp);walk_at "w";refine⟨rfl,?_⟩;walk_at "w";refine bS ?_;walk_at "w";refine lQ (SqL.of h2) λsl hsl=>?_;rw[show fQ (([z0,z1,z2,z3,z4]:List Int).map V.int) none (some 4)=([z0,z1,z2,z3]:List Int).map V.int from rfl];generalize hE:upd _ sl _=H3;have S3:am H2 H3:=by rw[<-hE];exact aj hsl
  have q3:H3 sl=some (.lst (([z0,z1,z2,z3]:List Int).map V.int)):=by rw[<-hE];exact ag
  clear hE;refine⟨sl,rfl,⟨_,SqL.of q3⟩,λwl hwl=>?_⟩;let I12:IvC:=λn H4 ys=>am H3 H4/\H4 wl=some (.lst ys)/\∃ws:List Str,ys=ws.map V.str/\ws.length=n/\∀w∈ws,w.length=2;refine bU (xs:=([z0,z1,z2,z3]:List Int).map V.int) I12 ⟨aj hwl,ag,[],rfl,rfl,λz h=>nomatch h⟩ (λn H4 ys p=>⟨p.2.1,SqL.of (p.1 _ _ q3)⟩) (λn y H4 ys e p=>?_) (λH4 ys p=>?_)
  ·obtain⟨S4,h4,ws,rfl,hw,hc4⟩:=p;have hn4:n<4:=(Qe.mp e).1;rw[Qh]at e
   cases ez:([z0,z1,z2,z3]:List Int)[n]? with
   | none=>rw[ez]at e;cases e
   | some o =>
   rw[ez]at e;cases e;refine az ⟨⟨rfl,trivial⟩,i_yes (bX ?_)⟩;show tOp _ _ _ [some (.int o),some (.str Lt)] _ _;obtain⟨c1,e1⟩:=mh o;obtain⟨c2,e2⟩:=mh (o / 26);walk_at "w";refine gd (by decide +kernel) e1 ?_;walk_at "w";refine gd (by decide +kernel) e2 ?_;refine⟨_,_,rfl,rfl,(by show 1+1<=sizeLine;decide),?_⟩;refine bV.mk h4 hn4 (by rw[Qa];omega) ⟨aQ S4 hwl,ag,ws++[⟨#[c1]⟩++⟨#[c2]⟩],by simp,by simp[hw],λz hz'=>?_⟩;rcases Qv.mp hz' with h|h
   ·exact hc4 z h
   rw[QA]at h;rw[h];rfl
  obtain⟨S4,h4,ws,rfl,hw,hc4⟩:=p;have hw:ws.length=4:=hw;obtain⟨f1,f2⟩:=jP ws hc4;have e0:("" : Str)=Str.empty:=by decide +kernel
  have e00:("" : Str).length=0:=by decide +kernel
  have SS4:=SS2.trans (S3.trans S4);have hl4:=(S3.trans S4) _ _ hl2;have h24:=(S3.trans S4) _ _ h2;refine aI ⟨"", wl,ws,rfl,rfl,SqL.of h4,by rw[f2,e00];omega,?_⟩;rw[e0]
  have wdl:(Txt.join Str.empty ws).length=8:=by
   show (Txt.join Str.empty ws).cps.size=8;rw[<-Qo,lR,f1,hw]
  generalize Txt.join Str.empty ws=wd at *;have wd':wd.cps.size=8:=wdl;clear S2 S3 S4 h2 q3 h4 f1 f2 hw hc4 hso hsl hwl hl2 SS2;walk_at "w";have x0:0<=z4 / 4:=by omega
  generalize z4 / 4=xx at *;generalize z4 % 4=way at *;have sp:=sR (z:=wd) (j:=1+xx % 8) (by omega) (by omega) (by omega);have sle:=Txt.slice_le wd none (some (1+xx % 8));refine iP (by omega) ?_;have hnm:NmOk (Bd (i+1)) (Txt.slice wd none (some (1+xx % 8))):=⟨sp,by omega⟩;generalize Txt.slice wd none (some (1+xx % 8))=nm at *;refine az ?_;have aw:atI wd.cps.toList 0=some (wd.cps.getD 0 0):=cC (j:=0) (by simp[Array.getD,wd']);have l1:∀c,(⟨#[c]⟩:Str).length=1:=λ_=>rfl;with_reducible refine d9 (NJd d l so spot H wd i ns) (λR hR=>?_) (λσ6 H6 j6=>?_)
  ·walk_at "w";refine eX (λ_=>?_) (λ_=>hR _ _ ⟨way,xx,nm,x10,x11,rfl,x0,hnm,hl4,SS4⟩);walk_at "w";refine⟨by show 1<=sizeLine;decide,λp hp=>?_⟩;generalize hE:upd _ p _=H5;have S5:am H4 H5:=by rw[<-hE];exact aj hp
   have q5:H5 p=some (.lst [.str wd]):=by rw[<-hE];exact ag
   clear hE;have hl5:=S5 _ _ hl4;refine pA hl5 q5 (by rw[Qa];simp;omega) λp2 hp2=>?_;rw[show ns.map V.str++[V.str wd]=(ns++[wd]).map V.str from by simp];generalize hE:upd _ p2 _=H6;have S6:am H5 H6:=by rw[<-hE];exact aj hp2
   have q6:H6 p2=some (.lst ((ns++[wd]).map V.str)):=by rw[<-hE];exact ag
   clear hE
   obtain⟨a0,ha0,ea0,la0⟩:∃a0,a0∈ns++[wd]/\atI ((ns++[wd]).map V.str) 0=some (.str a0)/\a0.length<Bd i:=by
    cases ens:ns with
    | nil=>exact⟨wd,by simp,rfl,by omega⟩
    | cons a r=>exact⟨a,by simp,cC (j:=0) (by simp),(good a (by rw[ens];simp)).lt⟩
   walk_at "w";refine a_ (SqL.of q6) ea0 ?_;walk_at "w";refine iP (by omega) ?_;walk_at "w";refine gd (by omega) aw ?_;have sl:=Txt.slice_le a0 none (some (xx % 8));refine⟨_,_,rfl,rfl,by rw[l1];omega,?_⟩;refine az (hR _ _ ⟨way,xx,_,x10,x11,rfl,x0,?_,(S5.trans S6) _ _ hl4,SS4.trans (S5.trans S6)⟩);exact⟨by rw[lap,l1];omega,by rw[lap,l1];omega⟩
  clear hnm SS4 hl4 h24 x0;with_reducible refine d9 (NJd d l so spot H wd i ns) (λR hR=>?_) (λσ7 H7 j7=>?_)
  ·obtain⟨way,xx,nm,x10,x11,rfl,x0,hnm,hl6,SS6⟩:=j6;have out:∀H',am H6 H'->R [some (.ref d),some (.int spot),some (.str Lt),some (.ref l),some (.int (0+i)),some (.ref so),some (.str wd),some (.int way),some (.int xx),some (.str nm),x10,x11] H':=λH' kq=>hR _ _ ⟨way,xx,nm,x10,x11,rfl,x0,hnm,kq _ _ hl6,SS6.trans kq⟩;walk_at "w";refine eX (λ_=>?_) (λ_=>?_)
   ·walk_at "w";refine⟨by decide,λp hp=>?_⟩;have S7:=aj (o:=.lst []) hp;have hl7:=S7 _ _ hl6;refine⟨l,p,_,[],λ_=>true,rfl,rfl,SqL.of hl7,SqL.of ag,(λj x y _ h=>by simp at h),⟨_,rfl,?_⟩⟩;refine eX (λhne=>?_) (λ_=>out _ S7);have nne:ns≠[]:=λz=>by subst z;simp at hne
    obtain⟨la,hla,ela⟩:=xF nne;have gla:=good la hla;have gp:=gla.pos;have gl:=gla.lt;have SS8:=SS6.trans S7;generalize upd H6 p (.lst [])=H8 at *;walk_at "w";refine a_ (SqL.of hl7) ela ?_;walk_at "w";refine⟨_,rfl,by omega,?_⟩;refine i_rI (by omega) ?_;walk_at "w";refine a_ (SqL.of hl7) ela ?_;walk_at "w";refine iP (by omega) ?_;walk_at "w";refine gd (by omega) aw ?_;generalize xx % (la.length:Int)=at1 at *;have sl1:=Txt.slice_le la none (some at1);have sl2:=Txt.slice_le la (some (at1+1)) none;refine⟨_,_,rfl,rfl,by rw[l1];omega,?_⟩;walk_at "w";refine a_ (SqL.of hl7) ela ?_;walk_at "w";refine iP (by omega) ?_;refine⟨_,_,rfl,rfl,by rw[lap,l1];omega,?_⟩;refine az (hR _ _ ⟨way,xx,_,_,x11,rfl,x0,?_,hl7,SS8⟩);exact⟨by rw[lap,lap,l1];omega,by rw[lap,lap,l1];omega⟩
   first|exact out _ (am.refl _)|exact ck (out _ (am.refl _))
  with_reducible refine d9 (NJd d l so spot H wd i ns) (λR hR=>?_) (λσ8 H8 j8=>?_)
  ·obtain⟨way,xx,nm,x10,x11,rfl,x0,hnm,hl6,SS6⟩:=j7;walk_at "w";refine eX (λ_=>?_) (λ_=>hR _ _ ⟨way,xx,nm,x10,x11,rfl,x0,hnm,hl6,SS6⟩);walk_at "w";refine⟨by decide +kernel,λp hp=>?_⟩;have S7:=aj (o:=.lst ((["a", "wire", "not", "and", "or", "zzzzzzzz", "in", "start", "none", "end"]:List Str).map V.str)) hp;have hl7:=S7 _ _ hl6;have hp7:upd H7 p (.lst ((["a", "wire", "not", "and", "or", "zzzzzzzz", "in", "start", "none", "end"]:List Str).map V.str)) p=some (.lst ((["a", "wire", "not", "and", "or", "zzzzzzzz", "in", "start", "none", "end"]:List Str).map V.str)):=ag;show tOp _ _ _ _ (upd H7 p (.lst ((["a", "wire", "not", "and", "or", "zzzzzzzz", "in", "start", "none", "end"]:List Str).map V.str))) _;have SS8:=SS6.trans S7;generalize upd H7 p (.lst ((["a", "wire", "not", "and", "or", "zzzzzzzz", "in", "start", "none", "end"]:List Str).map V.str))=H8 at *;obtain⟨pw,hw,ew⟩:=sC (ws:=["a", "wire", "not", "and", "or", "zzzzzzzz", "in", "start", "none", "end"]) (r:=xx % 10) (by omega) (by show xx % 10<10;omega);walk_at "w";refine a_ (SqL.of hp7) ew ?_;refine az (hR _ _ ⟨way,xx,pw,x10,x11,rfl,x0,?_,hl7,SS8⟩);have hh:∀wd∈(["a", "wire", "not", "and", "or", "zzzzzzzz", "in", "start", "none", "end"]:List Str),1<=wd.length/\wd.length<=8:=by decide +kernel
   obtain⟨q1,q2⟩:=hh pw hw;exact⟨q1,by omega⟩
  obtain⟨way,xx,nm,x10,x11,e,x0,hnm,hl6,SS6⟩:=j8;subst e;with_reducible refine s_seq (ce (i_c (az ?_)))
  let I13:IvJ:=λσ H'=>∃(t:Int) (nm:Str),σ=[some (.ref d),some (.int spot),some (.str Lt),some (.ref l),some (.int (0+i)),some (.ref so),some (.str wd),some (.int way),some (.int xx),some (.str nm),x10,some (.int t)]/\NmOk (Bd (i+1)) nm/\nm∉ns/\H'=H8;with_reducible refine d9 I13 (λR hR=>?_) (λσ9 H9 j9=>?_)
  ·let I14:IvF:=λn σ H'=>∃(t:Nat) (nm:Str),n=26-t/\t<=11/\σ=[some (.ref d),some (.int spot),some (.str Lt),some (.ref l),some (.int (0+i)),some (.ref so),some (.str wd),some (.int way),some (.int xx),some (.str nm),x10,some (.int t)]/\NmOk (Bd (i+1)) nm/\H'=H8/\(∀j,j+1<t->Xn j∈ns)/\(1<=t->nm=Xn (t-1));refine⟨I14,⟨26,0,nm,rfl,by omega,rfl,hnm,rfl,(λj h=>by omega),(λh=>by omega)⟩,?_⟩;rintro n σ H' ⟨t,nm,rfl,t11,rfl,hnm,rfl,q1,q2⟩;have z26:((Lt.cps.size:Nat):Int)=26:=by decide +kernel
   walk_at "w";refine Er (SqL.of hl6) rfl (lT ns) ?_;refine⟨_,rfl,?_⟩;refine eX (λhin=>?_) (λhin=>?_)
   ·have hmem:=ny.mp hin
    have hall:∀j,j<t->Xn j∈ns:=λj hj=>by
     by_cases z:j+1<t
     ·exact q1 j z
     have:j=t-1:=by omega
     rw[this,<-q2 (by omega)];exact hmem
    have ht:=Dl (by omega) hall;refine⟨_,λσ' H' w=>⟨26-(t+1),Nat.sub_lt_sub_left (XA t11 (by decide)) (Nat.lt_succ_self _),w⟩,?_⟩;walk_at "w"
    have et:atI Lt.cps.toList ((t:Nat):Int)=some (Lt.cps.getD t 0):=by
     refine cC ?_;have:t<Lt.cps.size:=by omega
     simp[Array.getD,this]
    refine gd (by decide +kernel) et ?_;walk_at "w";refine⟨_,_,rfl,rfl,Da _,?_⟩;walk_at "w";refine⟨t+1,Xn t,rfl,by omega,rfl,?_,rfl,(λj hj=>hall j (by omega)),(λ_=>rfl)⟩;have:=Ai t (by omega);exact⟨by omega,by omega⟩
   exact hR _ _ ⟨t,nm,rfl,hnm,λz=>hin (ny.mpr z),rfl⟩
  obtain⟨t,nm,e,hnm,hnot,e9⟩:=j9;subst e e9;walk_at "w";refine fw hl6 (by rw[Qa];omega) ?_;refine⟨_,_,_,_,_,_,_,_,ns++[nm],rfl,by omega,by simp[hn],?_,λn hn'=>?_,by rw[ag];simp,aQ SS6 hl⟩
  ·rw[Xy]
   exact⟨nd,by simp,λa ha b hb e=>hnot (by
    have hb':b=nm:=by simpa using hb
    rw[<-hb',<-e];exact ha)⟩
  rcases Qv.mp hn' with h|h
  ·have g:=good n h;have g1:=g.pos;have g2:=g.lt;exact⟨g1,by omega⟩
  have:n=nm:=by simpa using h
  rw[this];exact hnm
 obtain⟨x4,x5,x6,x7,x8,x9,x10,x11,ns,rfl,_,hn,nd,good,hl',SS⟩:=pv;refine ca (te:=cX 3) (D:={ nx:=λx H'=>Q V.non H',rt:=Q }) (ai rfl ?_);exact k l ns H' SS hl hn nd hl'
end
structure KpP (q:Addr) (H H':Hp):Prop where
 old:∀b o,H b=some o->b≠q->H' b=some o
 at':∃n:Int,H' q=some (.lst [.int n])
theorem KpP.trans (a:KpP q H H1) (b:KpP q H1 H2):KpP q H H2:=⟨λc o e n=>b.old c o (a.old c o e n) n,b.at'⟩
theorem KpP.of (h:∃n:Int,H q=some (.lst [.int n])) (S:am H H'):KpP q H H':=⟨λb o e _=>S b o e,let ⟨n,e⟩:=h;⟨n,S _ _ e⟩⟩
theorem KpP.new (k:KpP q H H') (hp:H' p=none):KpP q H (upd H' p o):=k.trans (KpP.of k.at' (aj hp))
theorem KpP.tups (h:∃n:Int,H q=some (.lst [.int n])) (k:KpP q H H'):dj H H':=λb xs e=>k.old b _ e λz=>by obtain⟨n,h⟩:=h;rw[z,h]at e;cases e
theorem KpP.strs (h:∃n:Int,H q=some (.lst [.int n])) (k:KpP q H H') (e:H l=some (.lst (ns.map V.str))):H' l=some (.lst (ns.map V.str)):=k.old l _ e λz=>by
 obtain⟨n,h⟩:=h;rw[z,h]at e;have e:=Q2 e;injection e with e
 cases ns with
 | nil=>cases e
 | cons a r=>simp at e
theorem KpP.ints {ns:List Int} (h:∃n:Int,H q=some (.lst [.int n])) (k:KpP q H H') (ok:DOk ns) (e:H l=some (.lst (ns.map V.int))):H' l=some (.lst (ns.map V.int)):=k.old l _ e λz=>by
 obtain⟨n,h⟩:=h;rw[z,h]at e;have e:=Q2 e;injection e with e;have lo:=ok.lo;have:=congrArg List.length e;simp at this;omega
def gK (d:Nat):Sp:=λvs H Q _=>∃(da qa l:Addr) (ds:List Int) (ns:List Str) (m:Nat),vs=[.ref da,.ref qa,.ref l,.int m]/\H da=some (.lst (ds.map V.int))/\DOk ds/\(∃n:Int,H qa=some (.lst [.int n]))/\H l=some (.lst (ns.map V.str))/\ns≠[]/\ns.length<=1000/\1<=m/\m<=d /\
 ∀v r H',RAt H' v r->r.ok ns->r.dep<=m->KpP qa H H'->Q v H'
def p_:Sp:=λvs H Q _=>∃v1 v2 v3 r1 r2 r3,vs=[v1,v2,v3]/\RAt H v1 r1/\RAt H v2 r2/\RAt H v3 r3/\∀v H',am H H'->RAt H' v (.orr (.an r1 r2) (.an r3 (.orr r1 r2)))->Q v H'
theorem sD (ne:ns≠[]) (i:Int):∃n∈ns,atI (ns.map V.str) (i % ((ns.map V.str).length:Int))=some (.str n):=by
 have hl:0<ns.length:=List.length_pos_iff.mpr ne;rw[Qa];have h1:0<=i % (ns.length:Int):=Int.emod_nonneg _ (by omega);have h2:i % (ns.length:Int)<ns.length:=Int.emod_lt_of_pos _ (by omega);exact sC h1 h2
section
theorem oE:FnScope ["d", "pos", "names", "deep", "x", "way", "one"] ["d", "pos", "names", "deep"] (aA (top 36)):=by walk_at "k"
theorem oV {f:Addr} {fd:FuncData} (Fu:Fun K "_law_rule" "_law_rule" (top 36) f fd) (T:Txt K mg TT) (hm:mg "_law_rule" = some (.ref f)) (hk:PySem.W.keepIn K (.ref f)=true) (hb:hZ K fd ["d", "pos", "names", "deep"] []):∀d,FnOk P w K mg base CX0 (d+1) f fd ["d", "pos", "names", "deep"] (gK d)
 | 0=>gv λvs H Q E ⟨_,_,_,_,_,m,_,_,_,_,_,_,_,h1,h2,_⟩=>by omega
 | d+1=>by
  have S:=oE;have f_law_rule:Fn P w K mg base "_law_rule" ["d", "pos", "names", "deep"] (d+1) (gK d):=⟨f,fd,oV Fu T hm hk hb d,hm,hk,hb⟩;refine Fu.ok S (λvs H Q E h=>?_) (λcdv A outer s H vs Q E hr h=>?_)
  ·obtain⟨da,qa,l,ds,ns,m,rfl,_⟩:=h;rfl
  obtain⟨da,qa,l,ds,ns,m,rfl,hd,dok,⟨n0,hq⟩,hl,ne,few,m1,m2,k⟩:=h;refine'⟨?_,?bb,?_⟩
  case bb =>
   walk_at "b";exact aF 4 S.nd (aC aH (pv 0) (av aX (aC aH (pv 1) af (λ_ _=>rfl)) (aB aJ (by rfl) T.n_len QH (aa (pv 0) ad ae))) (λ_ _=>rfl));exact(uM (av aV (aC aH (pv 1) af (λ_ _=>rfl)) af) (uS (pv 1) af ou));exact aF 5 S.nd (av aX (pv 4) af);exact(PW.pt (dq (aG iN (pv 3) af (aK _)) (cR (aG iN (pv 5) af (aK _)))));exact(aE (bh (aa aM (aa (aC aH (pv 2) (av aX (av de (pv 4) af) (aB aJ (by rfl) T.n_len QH (aa (pv 2) ad ae))) (λ_ _=>rfl)) ad) aL)));exact(aG iN (pv 5) af (aK _));exact(aE (bh (aa aM (aa (aP f_law_rule hr (aa (pv 0) (aa (pv 1) (aa (pv 2) (aa (av iy (pv 3) af) ad) ae) ae) ae)) ad se_call) aL)));exact aF 6 S.nd (aP f_law_rule hr (aa (pv 0) (aa (pv 1) (aa (pv 2) (aa (av iy (pv 3) af) ad) ae) ae) ae));refine' aE ?e
   case e =>
    walk_at "q";exact(aC aH (bx (aa aM (aa aM ad aL) aL)) (av aX (av de (pv 4) af) af) (λ_ _=>rfl));exact(pv 6);exact(aP f_law_rule hr (aa (pv 0) (aa (pv 1) (aa (pv 2) (aa (av iy (pv 3) af) ad se_bin) ae) ae) ae))
  walk_at "e";have lo:=dok.lo;have nl:1<=ns.length:=List.length_pos_iff.mpr ne;walk_at "w";refine i_rI (by rw[Qa];omega) ?_;obtain⟨x,x0,x1,ex⟩:=nO dok n0;refine a_ (SqL.of hd) ex ?_;walk_at "w";generalize hE:upd H qa _=H1;have kp1:KpP qa H H1:=⟨λb o e nb=>by rw[<-hE,ak nb];exact e,n0+1,by rw[<-hE];exact ag⟩;clear hE;have hq0:∃n:Int,H qa=some (.lst [.int n]):=⟨n0,hq⟩;have hl1:=kp1.strs hq0 hl;have hd1:=kp1.ints hq0 dok hd
  have leaf:wH (bY (tC (V.str "wire")) (bY (tOp (wP K) (cX 2) (tOp (rI (λx j=>0<j) λi j=>V.int (i % j)) (tOp (rI Dv λi j=>V.int (i / j)) (cX 4) (tC (V.int 7))) (tCB (λxs H Q=>∃p ys,xs=[V.ref p]/\(SqL K H p ys\/SqT K H p ys)/\Q (V.int ↑ys.length) H) (bY (cX 2) ig)))) ig))
    [some (.ref da),some (.ref qa),some (.ref l),some (.int m),some (.int x),some (.int (x % 7)),none] H1 Q:=by
   walk_at "w";refine i_rI (by rw[Qa];omega) ?_;obtain⟨nm,hnm,enm⟩:=sD ne (x / 7);refine a_ (SqL.of hl1) enm ?_;walk_at "w";refine⟨by simp[sizeLine],λp hp=>?_⟩;exact k _ (.w nm) _ (.w ag) hnm (by simp[Rl.dep];omega) (kp1.new hp)
  refine eX (λh1=>?_) (λh1=>?_)
  ·exact bX leaf
  have m3:2<=m:=by
   by_cases z:m=1
   ·exact absurd (by rw[z];decide) h1
   omega
  walk_at "w";refine eX (λh2=>?_) (λh2=>?_)
  ·exact leaf
  have em:(m:Int)-1=((m-1:Nat):Int):=by omega
  walk_at "w";refine eX (λh3=>?_) (λh3=>?_)
  ·walk_at "w";refine⟨da,qa,l,ds,ns,m-1,by rw[<-em],hd1,dok,kp1.at',hl1,ne,few,by omega,by omega,λv r H2 hv rok rd kp2=>?_⟩;walk_at "w";refine⟨by simp[sizeLine],λp hp=>?_⟩;exact k _ (.no r) _ (.no ag (hv.mono (am.tups (aj hp)))) rok (by simp only[Rl.dep];omega) ((kp1.trans kp2).new hp)
  walk_at "w";refine⟨da,qa,l,ds,ns,m-1,by rw[<-em],hd1,dok,kp1.at',hl1,ne,few,by omega,by omega,λv r H2 hv rok rd kp2=>?_⟩;have hl2:=kp2.strs kp1.at' hl1;have hd2:=kp2.ints kp1.at' dok hd1;have kp12:=kp1.trans kp2;walk_at "w";refine⟨by simp[sizeLine],λp hp=>?_⟩;have hpp:upd H2 p (HO.lst [V.str "and", V.str "or"]) p=some (.lst ((["and", "or"]:List Str).map V.str)):=ag;have S3:=aj (o:=HO.lst [V.str "and", V.str "or"]) hp;have kp3:=KpP.of kp2.at' S3;generalize upd H2 p (HO.lst [V.str "and", V.str "or"])=H3 at *;have hv3:=hv.mono (am.tups S3);have hl3:=S3 _ _ hl2;have hd3:=S3 _ _ hd2;walk_at "w"
  have last:∀(wd:Str) (mk:Rl->Rl->Rl),(∀{H:Hp} {a:Addr} {v u:V} {r s:Rl},H a=some (.tup [.str wd,v,u])->RAt H v r->RAt H u s->RAt H (.ref a) (mk r s))->(∀r s,(mk r s).dep=max r.dep s.dep+1)->(∀r s,r.ok ns->s.ok ns->(mk r s).ok ns) ->
    bY (cX 6) (bY (jl (gK d) [] E0 (bY (cX 0) (bY (cX 1) (bY (cX 2) (bY (tOp (rI0 λi j=>V.int (i-j)) (cX 3) (tC (V.int 1))) ig))))) ig) [some (.ref da),some (.ref qa),some (.ref l),some (.int m),some (.int x),some (.int (x % 7)),some v] H3
     λxs H5=>(V.str wd::xs).length<=sizeLine/\∀p,H5 p=none->Q (.ref p) (upd H5 p (.tup (V.str wd::xs))):=by
   intro wd mk c1 c2 c3;walk_at "w";refine⟨da,qa,l,ds,ns,m-1,by rw[<-em],hd3,dok,kp3.at',hl3,ne,few,by omega,by omega,λv2 s2 H5 hv2 rok2 rd2 kp5=>?_⟩;walk_at "w";refine⟨by simp[sizeLine],λp hp=>?_⟩;have S6:=aj (o:=HO.tup [V.str wd,v,v2]) hp;exact k _ (mk r s2) _ (c1 ag ((hv3.mono (kp5.tups kp3.at')).mono (am.tups S6)) (hv2.mono (am.tups S6))) (c3 _ _ rok rok2) (by rw[c2];omega) ((kp12.trans (kp3.trans kp5)).new hp)
  have hr2:x / 7 % 2=0\/x / 7 % 2=1:=by omega
  rcases hr2 with z|z
  ·rw[z];refine a_ (SqL.of hpp) (v:=.str "and") rfl ?_;exact last "and" .an (λa b c=>.an a b c) (λ_ _=>rfl) (λ_ _ a b=>⟨a,b⟩)
  rw[z];refine a_ (SqL.of hpp) (v:=.str "or") rfl ?_;exact last "or" .orr (λa b c=>.orr a b c) (λ_ _=>rfl) (λ_ _ a b=>⟨a,b⟩)
theorem oF:FnScope ["one", "other", "own"] ["one", "other", "own"] (aA (top 37)):=by walk_at "k"
theorem xj {f:Addr} {fd:FuncData} (Fu:Fun K "_law_held" "_law_held" (top 37) f fd) (T:Txt K mg TT):FnOk P w K mg base CX0 1 f fd ["one", "other", "own"] p_:=by
 have S:=oF;refine Fu.ok S (by walk_at "l") (λcdv A outer s H vs Q E hr h=>?_);obtain⟨v1,v2,v3,r1,r2,r3,rfl,h1,h2,h3,k⟩:=h;refine⟨_,(a8 (aE (bh (aa aM (aa (bh (aa aM (aa (pv 0) (aa (pv 1) ad ae) ae) aL)) (aa (bh (aa aM (aa (pv 2) (aa (bh (aa aM (aa (pv 0) (aa (pv 1) ad ae) ae) aL)) ad se_tup) ae) aL)) ad se_tup) se_tup) aL)))),?_⟩;walk_at "e";walk_at "w";refine⟨by simp[sizeLine],λp1 hp1=>?_⟩;have S1:=aj (o:=.tup [.str "and", v1,v2]) hp1;have q1:upd H p1 (.tup [.str "and", v1,v2]) p1=some (.tup [.str "and", v1,v2]):=ag;generalize upd H p1 (.tup [.str "and", v1,v2])=H1 at *;walk_at "w";refine⟨by simp[sizeLine],λp2 hp2=>?_⟩;have S2:=aj (o:=.tup [.str "or", v1,v2]) hp2;have q2:upd H1 p2 (.tup [.str "or", v1,v2]) p2=some (.tup [.str "or", v1,v2]):=ag;generalize upd H1 p2 (.tup [.str "or", v1,v2])=H2 at *;walk_at "w";refine⟨by simp[sizeLine],λp3 hp3=>?_⟩;have S3:=aj (o:=.tup [.str "and", v3,.ref p2]) hp3;have q3:upd H2 p3 (.tup [.str "and", v3,.ref p2]) p3=some (.tup [.str "and", v3,.ref p2]):=ag;generalize upd H2 p3 (.tup [.str "and", v3,.ref p2])=H3 at *;walk_at "w";refine⟨by simp[sizeLine],λp4 hp4=>?_⟩;have S4:=aj (o:=.tup [.str "or", .ref p1,.ref p3]) hp4;have S14:=S1.trans (S2.trans (S3.trans S4));have m1:=h1.mono (am.tups S14);have m2:=h2.mono (am.tups S14);have m3:=h3.mono (am.tups S14);exact k _ _ S14 (.orr ag (.an ((S2.trans (S3.trans S4)) _ _ q1) m1 m2) (.an (S4 _ _ q3) m3 (.orr ((S3.trans S4) _ _ q2) m1 m2)))
end
def gL:Sp:=λvs H Q _=>∃(da qa l:Addr) (ds:List Int) (ns:List Str) (v:V) (r:Rl),vs=[.ref da,.ref qa,.ref l,v]/\H da=some (.lst (ds.map V.int))/\DOk ds/\(∃n:Int,H qa=some (.lst [.int n]))/\H l=some (.lst (ns.map V.str))/\ns≠[]/\ns.length<=1000/\RAt H v r/\r.ok ns/\r.dep<=6 /\
 ∀v' r' H',RAt H' v' r'->r'.ok ns->r'.dep<=10->KpP qa H H'->Q v' H'
section
theorem k_:FnScope ["d", "pos", "names", "rule", "many", "k", "x", "one"] ["d", "pos", "names", "rule"] (aA (top 39)):=by walk_at "k"
theorem tJ {f:Addr} {fd:FuncData} (Fu:Fun K "_law_deeper" "_law_deeper" (top 39) f fd) (T:Txt K mg TT):FnOk P w K mg base CX0 1 f fd ["d", "pos", "names", "rule"] gL:=by
 have S:=k_;refine Fu.ok S (by walk_at "l") (λcdv A outer s H vs Q E hr h=>?_);obtain⟨da,qa,l,ds,ns,v,r,rfl,hd,dok,⟨n0,hq⟩,hl,ne,few,hv,rok,rd,k⟩:=h;refine'⟨?_,?bb,?_⟩
 case bb =>
  walk_at "b";exact aF 4 S.nd (av aX (aC aH (pv 0) (av aX (aC aH (pv 1) af (λ_ _=>rfl)) (aB aJ (by rfl) T.n_len QH (aa (pv 0) ad ae))) (λ_ _=>rfl)) af);walk_at "f";exact(cI (by rfl) T.n_range (aa (pv 4) ad ae));exact(bQ 5 S.nd);walk_at "p";exact(uM (av aV (aC aH (pv 1) af (λ_ _=>rfl)) af) (uS (pv 1) af ou));exact aF 6 S.nd (aC aH (pv 0) (av aX (aC aH (pv 1) af (λ_ _=>rfl)) (aB aJ (by rfl) T.n_len QH (aa (pv 0) ad ae))) (λ_ _=>rfl));exact aF 7 S.nd (bh (aa aM (aa (aC aH (pv 2) (av aX (pv 6) (aB aJ (by rfl) T.n_len QH (aa (pv 2) ad ae))) (λ_ _=>rfl)) ad) aL));exact aF 3 S.nd (aC aH (bx (aa (bh (aa aM (aa (pv 3) ad ae) aL)) (aa (bh (aa aM (aa (pv 7) (aa (pv 3) ad ae) ae) aL)) (aa (bh (aa aM (aa (pv 3) (aa (pv 7) ad ae) ae) aL)) (aa (bh (aa aM (aa (pv 7) (aa (pv 3) ad ae) ae) aL)) ad se_tup) se_tup) se_tup) se_tup)) (av aX (av de (pv 6) af) af) (λ_ _=>rfl));exact(aE (pv 3))
 walk_at "e";have lo:=dok.lo;have nl:1<=ns.length:=List.length_pos_iff.mpr ne;walk_at "w";refine i_rI (by rw[Qa];omega) ?_;obtain⟨x,x0,x1,ex⟩:=nO dok n0;refine a_ (SqL.of hd) ex ?_;walk_at "w";refine⟨by omega,by omega,?_⟩;have h4:(x % 5).toNat<=4:=by omega
 have hq0:∃n:Int,H qa=some (.lst [.int n]):=⟨n0,hq⟩;let I15:IvF:=λi σ H'=>∃v' r' x4 x5 x6 x7,σ=[some (.ref da),some (.ref qa),some (.ref l),some v',x4,x5,x6,x7]/\RAt H' v' r'/\r'.ok ns/\r'.dep<=6+i/\KpP qa H H';refine dC I15 ⟨v,r,_,_,_,_,rfl,hv,rok,rd,KpP.of hq0 (am.refl _)⟩ (λi σ H' hi pv=>?_) (λσ H' pv=>?_)
 ·obtain⟨v',r',x4,x5,x6,x7,rfl,hv',rok',rd',kp⟩:=pv;obtain⟨n1,hq1⟩:=kp.at';have hd1:=kp.ints hq0 dok hd;have hl1:=kp.strs hq0 hl;refine az ?_;walk_at "w";generalize hE:upd H' qa _=H1;have kp1:KpP qa H' H1:=⟨λb o e nb=>by rw[<-hE,ak nb];exact e,n1+1,by rw[<-hE];exact ag⟩;have hq2:H1 qa=some (.lst [.int (n1+1)]):=by rw[<-hE];exact ag
  clear hE;have hqe:∃n:Int,H' qa=some (.lst [.int n]):=⟨n1,hq1⟩;have hd2:=kp1.ints hqe dok hd1;have hl2:=kp1.strs hqe hl1;have hv2:=hv'.mono (kp1.tups hqe);walk_at "w";refine i_rI (by rw[Qa];omega) ?_;obtain⟨y,y0,y1,ey⟩:=nO dok (n1+1);refine a_ (SqL.of hd2) ey ?_;walk_at "w";refine i_rI (by rw[Qa];omega) ?_;obtain⟨nm,hnm,enm⟩:=sD ne y;refine a_ (SqL.of hl2) enm ?_;walk_at "w";refine⟨by simp[sizeLine],λp0 hp0=>?_⟩;generalize hE:upd H1 p0 _=H2;have S2:am H1 H2:=by rw[<-hE];exact aj hp0
  have o2:RAt H2 (.ref p0) (.w nm):=by rw[<-hE];exact .w ag
  clear hE;have hv3:=hv2.mono (am.tups S2);walk_at "w";refine⟨by simp[sizeLine],λp1 hp1=>?_⟩;generalize hE:upd H2 p1 _=H3;have S3:am H2 H3:=by rw[<-hE];exact aj hp1
  have a1:RAt H3 (.ref p1) (.no r'):=by rw[<-hE];exact .no ag (hv3.mono (am.tups (aj hp1)))
  clear hE;have hv4:=hv3.mono (am.tups S3);have o3:=o2.mono (am.tups S3);walk_at "w";refine⟨by simp[sizeLine],λp2 hp2=>?_⟩;generalize hE:upd H3 p2 _=H4;have S4:am H3 H4:=by rw[<-hE];exact aj hp2
  have a2:RAt H4 (.ref p2) (.an (.w nm) r'):=by rw[<-hE];exact .an ag (o3.mono (am.tups (aj hp2))) (hv4.mono (am.tups (aj hp2)))
  clear hE;have hv5:=hv4.mono (am.tups S4);have o4:=o3.mono (am.tups S4);walk_at "w";refine⟨by simp[sizeLine],λp3 hp3=>?_⟩;generalize hE:upd H4 p3 _=H5;have S5:am H4 H5:=by rw[<-hE];exact aj hp3
  have a3:RAt H5 (.ref p3) (.orr r' (.w nm)):=by rw[<-hE];exact .orr ag (hv5.mono (am.tups (aj hp3))) (o4.mono (am.tups (aj hp3)))
  clear hE;have hv6:=hv5.mono (am.tups S5);have o5:=o4.mono (am.tups S5);walk_at "w";refine⟨by simp[sizeLine],λp4 hp4=>?_⟩;generalize hE:upd H5 p4 _=H6;have S6:am H5 H6:=by rw[<-hE];exact aj hp4
  have a4:RAt H6 (.ref p4) (.orr (.w nm) r'):=by rw[<-hE];exact .orr ag (o5.mono (am.tups (aj hp4))) (hv6.mono (am.tups (aj hp4)))
  clear hE;walk_at "w";refine⟨by simp[sizeLine],λp5 hp5=>?_⟩;generalize hE:upd H6 p5 _=H7;have S7:am H6 H7:=by rw[<-hE];exact aj hp5
  have q7:H7 p5=some (.lst [.ref p1,.ref p2,.ref p3,.ref p4]):=by rw[<-hE];exact ag
  clear hE;walk_at "w";have kp7:KpP qa H H7:=kp.trans (kp1.trans (KpP.of kp1.at' (S2.trans (S3.trans (S4.trans (S5.trans (S6.trans S7)))))));have hr2:y / 11 % 4=0\/y / 11 % 4=1\/y / 11 % 4=2\/y / 11 % 4=3:=by omega
  rcases hr2 with z|z|z|z
  ·rw[z];refine a_ (SqL.of q7) (v:=.ref p1) rfl ?_;exact az ⟨_,_,_,_,_,_,rfl,a1.mono (am.tups (S4.trans (S5.trans (S6.trans S7)))),rok',by simp only[Rl.dep];omega,kp7⟩
  ·rw[z];refine a_ (SqL.of q7) (v:=.ref p2) rfl ?_;exact az ⟨_,_,_,_,_,_,rfl,a2.mono (am.tups (S5.trans (S6.trans S7))),⟨hnm,rok'⟩,by simp only[Rl.dep];omega,kp7⟩
  ·rw[z];refine a_ (SqL.of q7) (v:=.ref p3) rfl ?_;exact az ⟨_,_,_,_,_,_,rfl,a3.mono (am.tups (S6.trans S7)),⟨rok',hnm⟩,by simp only[Rl.dep];omega,kp7⟩
  rw[z];refine a_ (SqL.of q7) (v:=.ref p4) rfl ?_;exact az ⟨_,_,_,_,_,_,rfl,a4.mono (am.tups S7),⟨hnm,rok'⟩,by simp only[Rl.dep];omega,kp7⟩
 obtain⟨v',r',x4,x5,x6,x7,rfl,hv',rok',rd',kp⟩:=pv;refine ca (te:=cX 3) (D:={ nx:=λx H'=>Q V.non H',rt:=Q }) (ai rfl ?_);exact k v' r' H' hv' rok' (by omega) kp
end
def nth (ns:List Str) (k:Nat):Str:=ns.getD k Str.empty
theorem cH (hl:ns.length=11) {j:Int} {k:Nat} (e:j=(k:Int)) (hk:k<11):atI (ns.map V.str) j=some (.str (nth ns k)):=by
 subst e;refine cC ?_;unfold nth;rw[Qh,QL,Qc (by omega)];rfl
theorem xo (nd:ns.Nodup) (hl:ns.length=11) {a b:Nat} (ha:a<11) (hb:b<11) (e:nth ns a=nth ns b):a=b:=by
 unfold nth at e;rw[QL,QL,Qc (by omega),Qc (by omega)]at e;have e1:=List.Nodup.idxOf_getElem nd a (by omega);have e2:=List.Nodup.idxOf_getElem nd b (by omega);simp only[Option.getD_some]at e;rw[e,e2]at e1;exact e1.symm
theorem vE {ns:List Str} (nd:ns.Nodup) (hl:ns.length=11):∀{L:List Nat},L.Nodup->(∀k∈L,k<11)->(L.map (nth ns)).Nodup
 | [],_,_=>List.nodup_nil
 | a::L,h,hb=>by
  rw[Q5]at h;rw[QI,Q5];refine⟨λz=>?_,vE nd hl h.2 λk hk=>hb k (Qw _ hk)⟩;obtain⟨b,hb',e⟩:=Qk.mp z;have:=xo nd hl (hb b (Qw _ hb')) (hb a (by simp)) e;exact h.1 (this▸hb')
theorem jT (nd:ns.Nodup) (hl:ns.length=11) {I G:List Nat} {R:Nat->Rl} (hn:(I++G).Nodup) (hb:∀k∈I++G,k<11) (i4:I.length<=4) (g1:1<=G.length) (g7:G.length<=7)
  (hr:∀g∈G,(R g).ok ((I++G).map (nth ns))/\(R g).dep<=10):NetOk (I.map (nth ns)) (G.map λg=>(nth ns g,R g)):=by
 have ew:ap (I.map (nth ns)) (G.map λg=>(nth ns g,R g))=(I++G).map (nth ns):=by
  unfold ap;rw[Qr,QW];rfl
 refine⟨by rw[ew];exact vE nd hl hn hb,by rw[Qa];exact i4,by rw[Qa];exact g1,by rw[Qa];exact g7,λg hg=>?_⟩;obtain⟨k,hk,rfl⟩:=Qk.mp hg;rw[ew];exact hr k hk
def wN (ns:List Str) (k:Nat):Rl:=.w (nth ns k)
def R5 (ns:List Str) (k:Nat):Rl:=.orr (.an (wN ns (k-1)) (.no (wN ns (k+1)))) (.an (wN ns k) (.orr (wN ns (k-1)) (.no (wN ns (k+1)))))
def R6 (ns:List Str) (m k:Nat):Rl:=.no (wN ns ((k+1) % m))
def R7 (ns:List Str) (k:Nat):Rl:=if k=2 then .no (.orr (wN ns 0) (wN ns 3)) else if k=3 then .no (.orr (wN ns 1) (wN ns 2)) else .an (wN ns (k-2)) (wN ns (k-1))
def jy:Sp:=λvs H Q _=>∃(way:Int) (m:Nat) (l:Addr) (ns:List Str),vs=[.int way,.int m,.ref l]/\1<=m/\m<=7/\H l=some (.lst (ns.map V.str))/\ns.length=11/\ns.Nodup /\
 ∀a li lg ins gvs gs H',am H H'->NAt H' a li lg ins gvs gs->NetOk ins gs->Q (.ref a) H'
theorem iX {L:List Nat} {k:Nat} (h:k∈L):(wN ns k).ok (L.map (nth ns)):=List.mem_map_of_mem h
theorem Eo (nd:ns.Nodup) (hl:ns.length=11) (m1:1<=m) (m7:m<=7):NetOk ([0,m+1].map (nth ns)) (((List.range m).map (·+1)).map λg=>(nth ns g,R5 ns g)):=by
 have h1:∀m,m<=7->1<=m->([0,m+1]++(List.range m).map (·+1)).Nodup/\(∀k∈[0,m+1]++(List.range m).map (·+1),k<11)/\∀g∈(List.range m).map (·+1),g-1∈[0,m+1]++(List.range m).map (·+1)/\g∈[0,m+1]++(List.range m).map (·+1)/\g+1∈[0,m+1]++(List.range m).map (·+1):=by decide
 obtain⟨a,b,c⟩:=h1 m m7 m1;refine jT nd hl a b (by show 2<=4;decide) (by simp;omega) (by simp;omega) λg hg=>?_;obtain⟨c1,c2,c3⟩:=c g hg;exact⟨⟨⟨iX c1,iX c3⟩,⟨iX c2,⟨iX c1,iX c3⟩⟩⟩,by simp[R5,wN,Rl.dep]⟩
theorem En (nd:ns.Nodup) (hl:ns.length=11) (m1:1<=m) (m7:m<=7):NetOk (([]:List Nat).map (nth ns)) ((List.range m).map λg=>(nth ns g,R6 ns m g)):=by
 refine jT nd hl (by simpa using List.nodup_range) (λk hk=>by simp at hk;omega) (by decide) (by simp;omega) (by simp;omega) λg hg=>?_;refine⟨iX ?_,by simp[R6,wN,Rl.dep]⟩;simp;exact Nat.mod_lt _ (by omega)
theorem Em (nd:ns.Nodup) (hl:ns.length=11) (j3:j<=3):NetOk ([0,1].map (nth ns)) (([2,3]++(List.range j).map (4+·)).map λg=>(nth ns g,R7 ns g)):=by
 have h1:∀j,j<=3->([0,1]++([2,3]++(List.range j).map (4+·))).Nodup/\(∀k∈[0,1]++([2,3]++(List.range j).map (4+·)),k<11)/\∀g∈[2,3]++(List.range j).map (4+·),g-1∈[0,1]++([2,3]++(List.range j).map (4+·))/\g-2∈[0,1]++([2,3]++(List.range j).map (4+·)):=by decide
 obtain⟨a,b,c⟩:=h1 j j3;refine jT nd hl a b (by decide) (by simp) (by simp;omega) λg hg=>?_;obtain⟨c1,c2⟩:=c g hg;unfold R7
 split
 ·exact⟨⟨iX (by simp),iX (by simp)⟩,by simp[wN,Rl.dep]⟩
 split
 ·exact⟨⟨iX (by simp),iX (by simp)⟩,by simp[wN,Rl.dep]⟩
 exact⟨⟨iX c2,iX c1⟩,by simp[wN,Rl.dep]⟩
theorem gX {n:Str} {v:V} {r:Rl} (h:H b=some (.tup [.str n,v])) (hr:RAt H v r):GAt H (.ref b) (n,r):=⟨b,v,rfl,h,hr⟩
section
theorem mO:FnScope ["way", "many", "names", "gates", "k", "after", "one", "other", "more"] ["way", "many", "names"] (aA (top 38)):=by walk_at "k"
theorem tI {f:Addr} {fd:FuncData} (Fu:Fun K "_law_known" "_law_known" (top 38) f fd) (T:Txt K mg TT) (f_law_held:Fn P w K mg base "_law_held" ["one", "other", "own"] 1 p_):FnOk P w K mg base CX0 2 f fd ["way", "many", "names"] jy:=by
 have S:=mO;refine Fu.ok S (by walk_at "l") (λcdv A outer s H vs Q E hr h=>?_);obtain⟨way,m,l,ns,rfl,m1,m7,hl,ln,nd,k⟩:=h;refine'⟨?_,?bb,?_⟩
 case bb =>
  walk_at "b";exact(aG cA (pv 0) af (aK _));exact aF 3 S.nd (bx ad);walk_at "f";exact(sY (by rfl) T.n_range (aa af (aa (av aV (pv 1) af) ad) aL));exact(bQ 4 S.nd);walk_at "p";refine' aF 5 S.nd ?e
  case e =>
   walk_at "q";exact(aC aH (pv 2) (av aV (pv 4) af) (λ_ _=>rfl))
  refine' bI ?e
  case e =>
   refine' dI QM QR QS bp (pv 3) ?a
   case a =>
    with_reducible refine' aa ?e12 ?s12 se_tup
    case e12 =>
     with_reducible refine' bh ?a13
     case a13 =>
      with_reducible refine' aa ?e14 ?s14 se_sub
      case e14 =>
       with_reducible refine' aC ?r15 ?v15 ?b15 ?p15
       case r15=>exact aH
       case p15=>exact(λ_ _=>rfl)
       case v15 =>
        exact(pv 2)
       case b15 =>
        exact(pv 4)
      case s14 =>
       with_reducible refine' aa ?e18 ?s18 se_call
       case e18 =>
        refine' aP f_law_held hr ?a19
        case a19 =>
         with_reducible refine' aa ?e20 ?s20 se_tup
         case e20 =>
          with_reducible refine' bh ?a21
          case a21 =>
           with_reducible refine' aa ?e22 ?s22 aL
           case e22 =>
            exact aM
           case s22 =>
            with_reducible refine' aa ?e24 ?s24 se_sub
            case e24 =>
             with_reducible refine' aC ?r25 ?v25 ?b25 ?p25
             case r25=>exact aH
             case p25=>exact(λ_ _=>rfl)
             case v25 =>
              exact(pv 2)
             case b25 =>
              exact(av iy (pv 4) af)
            case s24 =>
             exact ad
         case s20 =>
          with_reducible refine' aa ?e28 ?s28 ae
          case e28 =>
           exact(pv 5)
          case s28 =>
           with_reducible refine' aa ?e30 ?s30 se_tup
           case e30 =>
            with_reducible refine' bh ?a31
            case a31 =>
             with_reducible refine' aa ?e32 ?s32 aL
             case e32 =>
              exact aM
             case s32 =>
              with_reducible refine' aa ?e34 ?s34 se_sub
              case e34 =>
               with_reducible refine' aC ?r35 ?v35 ?b35 ?p35
               case r35=>exact aH
               case p35=>exact(λ_ _=>rfl)
               case v35 =>
                exact(pv 2)
               case b35 =>
                exact(pv 4)
              case s34 =>
               exact ad
           case s30 =>
            exact ad
       case s18 =>
        exact ad
    case s12 =>
     exact ad
  refine' aE ?e
  case e =>
   walk_at "q";exact(aC aH (pv 2) af (λ_ _=>rfl));exact(aC aH (pv 2) (av aV (pv 1) af) (λ_ _=>rfl));exact(pv 3)
  exact(aG cA (pv 0) af (aK _));refine' aE ?e
  case e =>
   walk_at "q";exact(dr (tgs:=["k"]) (cap:=[("names", 2),("many", 1)]) rfl ⟨rfl,rfl,rfl,rfl,rfl,rfl⟩ (cI (by rfl) T.n_range (aa (pv 1) ad ae)) (λ_ _ _ _=>(bj (i:=0) (show List.Nodup [("k" : Str),("names" : Str),("many" : Str)] by decide +kernel) rfl (by walk_at "z"))) (λ_ _ _ _=>bq) (λ_ _ _ _=>(bh (aa (aC (ke (K:=K) rfl) (pv 1) (pv 0) (λ_ _=>rfl)) (aa (bh (aa aM (aa (bh (aa aM (aa (aC (ke (K:=K) rfl) (pv 1) (av aX (av aV (pv 0) af) (pv 2)) (λ_ _=>rfl)) ad) aL)) ad se_tup) aL)) ad se_tup)))))
  refine' aF 6 S.nd ?e
  case e =>
   walk_at "q";exact(aC aH (pv 2) af (λ_ _=>rfl));exact(aC aH (pv 2) af (λ_ _=>rfl));exact(aC aH (pv 2) af (λ_ _=>rfl))
  refine' aF 7 S.nd ?e
  case e =>
   walk_at "q";exact(aC aH (pv 2) af (λ_ _=>rfl));exact(aC aH (pv 2) af (λ_ _=>rfl));exact(aC aH (pv 2) af (λ_ _=>rfl))
  exact aF 8 S.nd (bx ad);walk_at "f";exact(cI (by rfl) T.n_range (aa (aB (l8 rfl) (by rfl) T.n_min PyProof.Rows.boot_min (aa (av iy (pv 1) af) (aa af ad aL))) ad se_call));exact(bQ 4 S.nd);walk_at "p";refine' bI ?e
  case e =>
   refine' dI QM QR QS bp (pv 8) ?a
   case a =>
    with_reducible refine' aa ?e114 ?s114 se_tup
    case e114 =>
     with_reducible refine' bh ?a115
     case a115 =>
      with_reducible refine' aa ?e116 ?s116 se_sub
      case e116 =>
       with_reducible refine' aC ?r117 ?v117 ?b117 ?p117
       case r117=>exact aH
       case p117=>exact(λ_ _=>rfl)
       case v117 =>
        exact(pv 2)
       case b117 =>
        exact(av aV af (pv 4))
      case s116 =>
       with_reducible refine' aa ?e120 ?s120 se_tup
       case e120 =>
        with_reducible refine' bh ?a121
        case a121 =>
         with_reducible refine' aa ?e122 ?s122 aL
         case e122 =>
          exact aM
         case s122 =>
          with_reducible refine' aa ?e124 ?s124 se_tup
          case e124 =>
           with_reducible refine' bh ?a125
           case a125 =>
            with_reducible refine' aa ?e126 ?s126 aL
            case e126 =>
             exact aM
            case s126 =>
             with_reducible refine' aa ?e128 ?s128 se_sub
             case e128 =>
              with_reducible refine' aC ?r129 ?v129 ?b129 ?p129
              case r129=>exact aH
              case p129=>exact(λ_ _=>rfl)
              case v129 =>
               exact(pv 2)
              case b129 =>
               exact(av aV af (pv 4))
             case s128 =>
              exact ad
          case s124 =>
           with_reducible refine' aa ?e132 ?s132 se_tup
           case e132 =>
            with_reducible refine' bh ?a133
            case a133 =>
             with_reducible refine' aa ?e134 ?s134 aL
             case e134 =>
              exact aM
             case s134 =>
              with_reducible refine' aa ?e136 ?s136 se_sub
              case e136 =>
               with_reducible refine' aC ?r137 ?v137 ?b137 ?p137
               case r137=>exact aH
               case p137=>exact(λ_ _=>rfl)
               case v137 =>
                exact(pv 2)
               case b137 =>
                exact(av aV af (pv 4))
              case s136 =>
               exact ad
           case s132 =>
            exact ad
       case s120 =>
        exact ad
    case s114 =>
     exact ad
  refine' aE ?e
  case e =>
   walk_at "q";exact(bJ fY (pv 2) cw (cu af));exact(av jR (bx (aa (pv 6) (aa (pv 7) ad ae) ae)) (pv 8))
 walk_at "e";have tup:∀{H2 H3:Hp} {p:Addr} {o:HO},H2 p=none->upd H2 p o=H3->am H2 H3/\H3 p=some o:=λ{H2 H3 p o} hp e=>by subst e;exact⟨aj hp,ag⟩
 walk_at "w";refine eX (λ_=>?_) (λ_=>?_)
 ·walk_at "w";refine⟨by decide,λg hg=>?_⟩;generalize hE:upd H g _=H1;obtain⟨S1,q1⟩:=tup hg hE;clear hE;walk_at "w";show bY _ _ _ _ _;walk_at "w";refine⟨1,(m:Int)+1,rfl,⟨by omega,by omega,by omega,by omega⟩,?_⟩;rw[show ((m:Int)+1-1).toNat=m from by omega];let I16:IvF:=λi σ H'=>(∃x4 x5 gvs,σ=[some (.int way),some (.int m),some (.ref l),some (.ref g),x4,x5,none,none,none]/\H' g=some (.lst gvs)/\Paired (GAt H') gvs (((List.range i).map (·+1)).map λk=>(nth ns k,R5 ns k)))/\am H H';refine dC (n:=m) I16 ⟨⟨_,_,[],rfl,q1,.nil⟩,S1⟩ (λi σ H' hi pv=>?_) (λσ H' pv=>?_)
  ·obtain⟨⟨x4,x5,gvs,rfl,hg',hp'⟩,SS⟩:=pv;have hl':=SS _ _ hl;have gl:=aN hp';rw[Qa,Qa,List.length_range]at gl;refine az ?_;walk_at "w";refine a_ (SqL.of hl') (cH ln (k:=i+2) (by omega) (by omega)) ?_;walk_at "w";refine⟨by simp[sizeLine],λp1 hp1=>?_⟩;generalize hE:upd H' p1 _=H2;obtain⟨S2,q2⟩:=tup hp1 hE;clear hE;walk_at "w";refine⟨by simp[sizeLine],λp2 hp2=>?_⟩;generalize hE:upd H2 p2 _=H3;obtain⟨S3,q3⟩:=tup hp2 hE;clear hE;have a3:RAt H3 (.ref p2) (.no (wN ns (i+2))):=.no q3 (.w (S3 _ _ q2));have S13:=S2.trans S3;have hl3:=S13 _ _ hl';have hg3:=S13 _ _ hg';walk_at "w";refine a_ (SqL.of hl3) (cH ln (k:=i+1) (by omega) (by omega)) ?_;walk_at "w";refine a_ (SqL.of hl3) (cH ln (k:=i) (by omega) (by omega)) ?_;walk_at "w";refine⟨by simp[sizeLine],λp4 hp4=>?_⟩;generalize hE:upd H3 p4 _=H4;obtain⟨S4,q4⟩:=tup hp4 hE;clear hE;have a4:RAt H4 (.ref p4) (wN ns i):=.w q4;have hl4:=S4 _ _ hl3;walk_at "w";refine a_ (SqL.of hl4) (cH ln (k:=i+1) (by omega) (by omega)) ?_;walk_at "w";refine⟨by simp[sizeLine],λp5 hp5=>?_⟩;generalize hE:upd H4 p5 _=H5;obtain⟨S5,q5⟩:=tup hp5 hE;clear hE;have a5:RAt H5 (.ref p5) (wN ns (i+1)):=.w q5;have a4':=a4.mono (am.tups S5);have a3':=a3.mono (am.tups (S4.trans S5));walk_at "w";refine⟨_,_,_,_,_,_,rfl,a4',a3',a5,λv6 H6 S6 a6=>?_⟩;walk_at "w";refine⟨by simp[sizeLine],λp7 hp7=>?_⟩;generalize hE:upd H6 p7 _=H7;obtain⟨S7,q7⟩:=tup hp7 hE;clear hE;have a7:=a6.mono (am.tups S7);have S37:=S4.trans (S5.trans (S6.trans S7));have hg7:=S37 _ _ hg3;walk_at "w";refine fw hg7 (by omega) ?_
   have kt:dj H7 (upd H7 g (.lst (gvs++[.ref p7]))):=λb xs e=>by
    have:b≠g:=λx=>by rw[x,hg7]at e;cases e
    rw[ak this];exact e
   refine⟨⟨_,_,gvs++[.ref p7],rfl,ag,?_⟩,aQ (SS.trans (S13.trans S37)) hg⟩;rw[List.range_succ,Qr,Qr];refine bZ (be kt (be (am.tups (S13.trans S37)) hp')) ?_;exact gX (kt _ _ q7) (a7.mono kt)
  obtain⟨⟨x4,x5,gvs,rfl,hg',hp'⟩,SS⟩:=pv;have hl':=SS _ _ hl;walk_at "w";refine a_ (SqL.of hl') (cH ln (k:=0) (by omega) (by omega)) ?_;walk_at "w";refine a_ (SqL.of hl') (cH ln (k:=m+1) (by omega) (by omega)) ?_;walk_at "w";refine⟨by simp[sizeLine],λp1 hp1=>?_⟩;generalize hE:upd H' p1 _=H2;obtain⟨S2,q2⟩:=tup hp1 hE;clear hE;walk_at "w";refine⟨by simp[sizeLine],λp2 hp2=>?_⟩;generalize hE:upd H2 p2 _=H3;obtain⟨S3,q3⟩:=tup hp2 hE;clear hE;exact k p2 p1 g ([0,m+1].map (nth ns)) gvs _ H3 (SS.trans (S2.trans S3)) ⟨q3,S3 _ _ q2,(S2.trans S3) _ _ hg',be (am.tups (S2.trans S3)) hp'⟩ (Eo nd ln m1 m7)
 walk_at "w";refine eX (λ_=>?_) (λ_=>?_)
 ·walk_at "w";refine⟨by decide,λp0 hp0=>?_⟩;generalize hE:upd H p0 _=H1;obtain⟨S1,q1⟩:=tup hp0 hE;clear hE;have hl1:=S1 _ _ hl;walk_at "w";refine bS ?_;walk_at "w";refine⟨by omega,by omega,λD hD=>?_⟩;rw[Xw];let I17:IvC:=λn H2 ys=>am H1 H2/\H2 D=some (.lst ys)/\Paired (GAt H2) ys ((List.range n).map λk=>(nth ns k,R6 ns m k));refine gy I17 ⟨aj hD,ag,.nil⟩ (λn H2 ys p=>p.2.1) (λn H2 ys hn p=>?_) (λH2 ys p=>?_)
  ·obtain⟨S2,h2,hp2⟩:=p;have gl:=aN hp2;rw[Qa,List.length_range]at gl;have hmod:(n+1) % m<m:=Nat.mod_lt _ (by omega);refine az ⟨⟨rfl,rfl,trivial⟩,i_yes (bX ?_)⟩;show wH _ [some (.int (0+n)),some (.ref l),some (.int m)] _ _;have hl2:=S2 _ _ hl1;walk_at "w";refine a_ (SqL.of hl2) (cH ln (k:=n) (by omega) (by omega)) ?_;walk_at "w";refine i_rI (by show (0:Int)<(m:Int);omega) ?_;refine a_ (SqL.of hl2) (cH ln (j:=((0:Int)+(n:Int)+1) % (m:Int)) (k:=(n+1) % m) (by rw[show (0:Int)+(n:Int)+1=((n+1:Nat):Int) from by omega];exact(Int.natCast_emod _ _).symm) (by omega)) ?_;walk_at "w";refine⟨by simp[sizeLine],λp3 hp3=>?_⟩;generalize hE:upd H2 p3 _=H3;obtain⟨S3,q3⟩:=tup hp3 hE;clear hE;walk_at "w";refine⟨by simp[sizeLine],λp4 hp4=>?_⟩;generalize hE:upd H3 p4 _=H4;obtain⟨S4,q4⟩:=tup hp4 hE;clear hE;have a4:RAt H4 (.ref p4) (R6 ns m n):=.no q4 (.w (S4 _ _ q3));walk_at "w";refine⟨by simp[sizeLine],λp5 hp5=>?_⟩;generalize hE:upd H4 p5 _=H5;obtain⟨S5,q5⟩:=tup hp5 hE;clear hE;have S25:=S3.trans (S4.trans S5);have h5:=S25 _ _ h2
   have kt:dj H5 (upd H5 D (.lst (ys++[.ref p5]))):=λb xs e=>by
    have:b≠D:=λx=>by rw[x,h5]at e;cases e
    rw[ak this];exact e
   refine bV.mk h5 hn (by omega) ⟨aQ (S2.trans S25) hD,ag,?_⟩;rw[List.range_succ,Qr];exact bZ (be kt (be (am.tups S25) hp2)) (gX (kt _ _ q5) ((a4.mono (am.tups S5)).mono kt))
  obtain⟨S2,h2,hp2⟩:=p;walk_at "w";refine⟨by simp[sizeLine],λp3 hp3=>?_⟩;generalize hE:upd H2 p3 _=H3;obtain⟨S3,q3⟩:=tup hp3 hE;clear hE;exact k p3 p0 D (([]:List Nat).map (nth ns)) _ _ H3 (S1.trans (S2.trans S3)) ⟨q3,(S2.trans S3) _ _ q1,S3 _ _ h2,be (am.tups S3) hp2⟩ (En nd ln m1 m7)
 have tup2:=0;walk_at "w";refine a_ (SqL.of ((am.refl H) _ _ hl)) (cH ln (k:=2) (by omega) (by omega)) ?_;walk_at "w";refine a_ (SqL.of ((am.refl H) _ _ hl)) (cH ln (k:=0) (by omega) (by omega)) ?_;walk_at "w";refine⟨by simp[sizeLine],λb0 hb0=>?_⟩;generalize hE:upd H b0 _=J0;obtain⟨U0,u0⟩:=tup hb0 hE;clear hE;have V0:am H J0:=(am.refl H).trans U0;have r0:RAt J0 (.ref b0) (wN ns 0):=.w u0;walk_at "w";refine a_ (SqL.of (V0 _ _ hl)) (cH ln (k:=3) (by omega) (by omega)) ?_;walk_at "w";refine⟨by simp[sizeLine],λb1 hb1=>?_⟩;generalize hE:upd J0 b1 _=J1;obtain⟨U1,u1⟩:=tup hb1 hE;clear hE;have V1:am H J1:=V0.trans U1;have r1:RAt J1 (.ref b1) (wN ns 3):=.w u1;walk_at "w";refine⟨by simp[sizeLine],λb2 hb2=>?_⟩;generalize hE:upd J1 b2 _=J2;obtain⟨U2,u2⟩:=tup hb2 hE;clear hE;have V2:am H J2:=V1.trans U2;have r2:RAt J2 (.ref b2) (.orr (wN ns 0) (wN ns 3)):=.orr u2 (r0.mono (am.tups (U1.trans U2))) (r1.mono (am.tups U2));walk_at "w";refine⟨by simp[sizeLine],λb3 hb3=>?_⟩;generalize hE:upd J2 b3 _=J3;obtain⟨U3,u3⟩:=tup hb3 hE;clear hE;have V3:am H J3:=V2.trans U3;have r3:RAt J3 (.ref b3) (.no (.orr (wN ns 0) (wN ns 3))):=.no u3 (r2.mono (am.tups U3));walk_at "w";refine⟨by simp[sizeLine],λb4 hb4=>?_⟩;generalize hE:upd J3 b4 _=J4;obtain⟨U4,u4⟩:=tup hb4 hE;clear hE;have V4:am H J4:=V3.trans U4;have g4:GAt J4 (.ref b4) (nth ns 2,R7 ns 2):=gX u4 (r3.mono (am.tups U4));walk_at "w";refine a_ (SqL.of (V4 _ _ hl)) (cH ln (k:=3) (by omega) (by omega)) ?_;walk_at "w";refine a_ (SqL.of (V4 _ _ hl)) (cH ln (k:=1) (by omega) (by omega)) ?_;walk_at "w";refine⟨by simp[sizeLine],λb5 hb5=>?_⟩;generalize hE:upd J4 b5 _=J5;obtain⟨U5,u5⟩:=tup hb5 hE;clear hE;have V5:am H J5:=V4.trans U5;have r5:RAt J5 (.ref b5) (wN ns 1):=.w u5;walk_at "w";refine a_ (SqL.of (V5 _ _ hl)) (cH ln (k:=2) (by omega) (by omega)) ?_;walk_at "w";refine⟨by simp[sizeLine],λb6 hb6=>?_⟩;generalize hE:upd J5 b6 _=J6;obtain⟨U6,u6⟩:=tup hb6 hE;clear hE;have V6:am H J6:=V5.trans U6;have r6:RAt J6 (.ref b6) (wN ns 2):=.w u6;walk_at "w";refine⟨by simp[sizeLine],λb7 hb7=>?_⟩;generalize hE:upd J6 b7 _=J7;obtain⟨U7,u7⟩:=tup hb7 hE;clear hE;have V7:am H J7:=V6.trans U7;have r7:RAt J7 (.ref b7) (.orr (wN ns 1) (wN ns 2)):=.orr u7 (r5.mono (am.tups (U6.trans U7))) (r6.mono (am.tups U7));walk_at "w";refine⟨by simp[sizeLine],λb8 hb8=>?_⟩;generalize hE:upd J7 b8 _=J8;obtain⟨U8,u8⟩:=tup hb8 hE;clear hE;have V8:am H J8:=V7.trans U8;have r8:RAt J8 (.ref b8) (.no (.orr (wN ns 1) (wN ns 2))):=.no u8 (r7.mono (am.tups U8));walk_at "w";refine⟨by simp[sizeLine],λb9 hb9=>?_⟩;generalize hE:upd J8 b9 _=J9;obtain⟨U9,u9⟩:=tup hb9 hE;clear hE;have V9:am H J9:=V8.trans U9;have g9:GAt J9 (.ref b9) (nth ns 3,R7 ns 3):=gX u9 (r8.mono (am.tups U9));have g4:=g4.mono (am.tups (U5.trans (U6.trans (U7.trans (U8.trans U9)))));walk_at "w";refine⟨by simp[sizeLine],λb10 hb10=>?_⟩;generalize hE:upd J9 b10 _=J10;obtain⟨U10,u10⟩:=tup hb10 hE;clear hE;have V10:am H J10:=V9.trans U10;have mH:H b10=none:=am.free V9 hb10;have g4:=g4.mono (am.tups U10);have g9:=g9.mono (am.tups U10);walk_at "w";refine⟨_,_,rfl,?_⟩
 obtain⟨j,ej,j3⟩:∃j:Nat,(if (3:Int)<(m:Int)-1 then (3:Int) else (m:Int)-1)=(j:Int)/\j<=3:=by
  by_cases h:(3:Int)<(m:Int)-1
  ·rw[QF h];exact⟨3,rfl,by omega⟩
  rw[QB h];exact⟨m-1,by omega,by omega⟩
 rw[ej];walk_at "w";refine⟨by omega,by omega,?_⟩;rw[Xw];let I18:IvF:=λi σ H'=>(∃x4 gvs,σ=[some (.int way),some (.int m),some (.ref l),none,x4,none,some (.ref b4),some (.ref b9),some (.ref b10)]/\H' b10=some (.lst gvs)/\Paired (GAt H') gvs (((List.range i).map (4+·)).map λk=>(nth ns k,R7 ns k)))/\am H H'/\dj J10 H';refine dC (n:=j) I18 ⟨⟨_,[],rfl,u10,.nil⟩,V10,λ_ _ e=>e⟩ (λi σ H' hi pv=>?_) (λσ H' pv=>?_)
 ·obtain⟨⟨x4,gvs,rfl,hg',hp'⟩,SS,kt0⟩:=pv;have hl':=SS _ _ hl;have gl:=aN hp';rw[Qa,Qa,List.length_range]at gl;refine az ?_;walk_at "w";refine a_ (SqL.of hl') (cH ln (k:=4+i) (by omega) (by omega)) ?_;walk_at "w";refine a_ (SqL.of hl') (cH ln (k:=2+i) (by omega) (by omega)) ?_;walk_at "w";refine⟨by simp[sizeLine],λp1 hp1=>?_⟩;generalize hE:upd H' p1 _=H2;obtain⟨S2,q2⟩:=tup hp1 hE;clear hE;have a2:RAt H2 (.ref p1) (wN ns (2+i)):=.w q2;walk_at "w";refine a_ (SqL.of (S2 _ _ hl')) (cH ln (k:=3+i) (by omega) (by omega)) ?_;walk_at "w";refine⟨by simp[sizeLine],λp2 hp2=>?_⟩;generalize hE:upd H2 p2 _=H3;obtain⟨S3,q3⟩:=tup hp2 hE;clear hE;have a3:RAt H3 (.ref p2) (wN ns (3+i)):=.w q3;walk_at "w";refine⟨by simp[sizeLine],λp3 hp3=>?_⟩;generalize hE:upd H3 p3 _=H4;obtain⟨S4,q4⟩:=tup hp3 hE;clear hE;have a4:RAt H4 (.ref p3) (.an (wN ns (2+i)) (wN ns (3+i))):=.an q4 (a2.mono (am.tups (S3.trans S4))) (a3.mono (am.tups S4));walk_at "w";refine⟨by simp[sizeLine],λp4 hp4=>?_⟩;generalize hE:upd H4 p4 _=H5;obtain⟨S5,q5⟩:=tup hp4 hE;clear hE;have S25:=S2.trans (S3.trans (S4.trans S5));have hg5:=S25 _ _ hg';walk_at "w";refine fw hg5 (by omega) ?_
  have kt:dj H5 (upd H5 b10 (.lst (gvs++[.ref p4]))):=λb xs e=>by
   have:b≠b10:=λx=>by rw[x,hg5]at e;cases e
   rw[ak this];exact e
  refine⟨⟨_,gvs++[.ref p4],rfl,ag,?_⟩,aQ (SS.trans S25) mH,λb xs e=>kt b xs (am.tups S25 b xs (kt0 b xs e))⟩;rw[List.range_succ,Qr,Qr];refine bZ (be kt (be (am.tups S25) hp')) ?_
  have e7:R7 ns (4+i)=.an (wN ns (2+i)) (wN ns (3+i)):=by
   unfold R7;rw[QB (by omega),QB (by omega),show 4+i-2=2+i from by omega,show 4+i-1=3+i from by omega]
  show GAt _ _ (nth ns (4+i),R7 ns (4+i));rw[e7];exact gX (kt _ _ q5) ((a4.mono (am.tups S5)).mono kt)
 obtain⟨⟨x4,gvs,rfl,hg',hp'⟩,SS,kt0⟩:=pv;have hl':=SS _ _ hl;have gl:=aN hp';rw[Qa,Qa,List.length_range]at gl;walk_at "w";refine lQ (SqL.of hl') λp1 hp1=>?_
 have ec:fQ (ns.map V.str) none (some 2)=([0,1].map (nth ns)).map V.str:=by
  have l2:2<=(ns.map V.str).length:=by rw[Qa,ln];decide
  unfold fQ;rw[show (some (2:Int))=some ((2:Nat):Int) from rfl,HT.mT,HT.jK,Nat.min_eq_left l2,List.drop_zero,Nat.sub_zero];clear l2
  cases ns with
  | nil=>cases ln
  | cons a r =>
  cases r with
  | nil=>cases ln
  | cons b r=>rfl
 rw[ec];generalize hE:upd H' p1 _=H2;obtain⟨S2,q2⟩:=tup hp1 hE;clear hE;walk_at "w";refine⟨by simp[sizeLine],λp2 hp2=>?_⟩;generalize hE:upd H2 p2 _=H3;obtain⟨S3,q3⟩:=tup hp2 hE;clear hE;walk_at "w";refine pA q3 ((S2.trans S3) _ _ hg') (by simp;omega) λp3 hp3=>?_;generalize hE:upd H3 p3 _=H4;obtain⟨S4,q4⟩:=tup hp3 hE;clear hE;walk_at "w";refine⟨by simp[sizeLine],λp4 hp4=>?_⟩;generalize hE:upd H4 p4 _=H5;obtain⟨S5,q5⟩:=tup hp4 hE;clear hE;have S25:=S2.trans (S3.trans (S4.trans S5));have kt5:dj J10 H5:=λb xs e=>am.tups S25 b xs (kt0 b xs e);refine k p4 p1 p3 ([0,1].map (nth ns)) _ _ H5 (SS.trans S25) ⟨q5,(S3.trans (S4.trans S5)) _ _ q2,S5 _ _ q4,?_⟩ (Em nd ln j3);exact .cons (g4.mono kt5) (.cons (g9.mono kt5) (be (am.tups S25) hp'))
end
theorem wg {xs:List V} {a:Nat} (h:a<=xs.length):fQ xs (some (a:Int)) none=xs.drop a:=by
 unfold fQ;rw[HT.mT,HT.jK,Nat.min_eq_left h,Qt (by rw[Q4];omega)]
theorem we {xs:List V} {a:Nat} (h:a<=xs.length):fQ xs none (some (a:Int))=xs.take a:=by
 unfold fQ;rw[HT.mT,HT.jK,Nat.min_eq_left h];simp
def pY:Sp:=λvs H Q _=>∃(d:Addr) (ds:List Int) (spot:Int),vs=[.ref d,.int spot]/\H d=some (.lst (ds.map V.int))/\DOk ds/\0<=spot/\spot<=100 /\
 ∀a li lg ins gvs gs H',am H H'->NAt H' a li lg ins gvs gs->NetOk ins gs->Q (.ref a) H'
theorem rG (h:∀n,n<vs.length->∃m:Nat,1<=m/\m<=B/\vs[n]?=some (.int (m:Int))) {i:Int} (h0:0<=i) (h1:i<vs.length):∃m:Nat,1<=m/\m<=B/\atI vs i=some (.int (m:Int)):=by
 obtain⟨n,rfl⟩:=Int.eq_ofNat_of_zero_le h0;obtain⟨m,a,b,e⟩:=h n (Int.ofNat_lt.mp h1);exact⟨m,a,b,cC e⟩
theorem yg {ms:List Nat} (h:∀m∈ms,1<=m/\m<=B) (n:Nat) (hn:n<(ms.map λm:Nat=>V.int (m:Int)).length):∃m:Nat,1<=m/\m<=B/\(ms.map λm:Nat=>V.int (m:Int))[n]?=some (.int (m:Int)):=by
 rw[Qa]at hn;obtain⟨a,b⟩:=h _ (Xq hn);exact⟨ms[n],a,b,by rw[Qh,Qc hn];rfl⟩
theorem AG {i:Int} (h0:0<=i) (h1:i<9):∃m:Nat,1<=m/\m<=7/\atI [V.int 1,V.int 2,V.int 2,V.int 3,V.int 3,V.int 4,V.int 5,V.int 6,V.int 7] i=some (.int (m:Int)) :=
 rG (yg (ms:=[1,2,2,3,3,4,5,6,7]) (by decide)) h0 h1
theorem AI {i:Int} (h0:0<=i) (h1:i<5):∃m:Nat,1<=m/\m<=6/\atI [V.int 2,V.int 3,V.int 3,V.int 3,V.int 6] i=some (.int (m:Int)) :=
 rG (yg (ms:=[2,3,3,3,6]) (by decide)) h0 h1
theorem cO (hp:H2 p=none) (e:upd H2 p o=H3):am H2 H3/\H3 p=some o:=by subst e;exact⟨aj hp,ag⟩
section
theorem qj:FnScope ["d", "spot", "names", "way", "many", "inputs", "deep", "pos", "some", "gates", "name", "rule"] ["d", "spot"] (aA (top 40)):=by walk_at "k"
theorem xc {f:Addr} {fd:FuncData} (Fu:Fun K "_law_net" "_law_net" (top 40) f fd) (T:Txt K mg TT) (f_law_names:Fn P w K mg base "_law_names" ["d", "spot"] 1 jw) (f_law_known:Fn P w K mg base "_law_known" ["way", "many", "names"] 2 jy)
  (f_law_rule:Fn P w K mg base "_law_rule" ["d", "pos", "names", "deep"] 11 (gK 10)) (f_law_deeper:Fn P w K mg base "_law_deeper" ["d", "pos", "names", "rule"] 1 gL):FnOk P w K mg base CX0 12 f fd ["d", "spot"] pY:=by
 have S:=qj;refine Fu.ok S (by walk_at "l") (λcdv A outer s H vs Q E hr h=>?_);obtain⟨d,ds,spot,rfl,hd,dok,sp0,sp1,k⟩:=h;refine'⟨?_,?bb,?_⟩
 case bb =>
  walk_at "b";exact aF 2 S.nd (aP f_law_names hr (aa (pv 0) (aa (pv 1) ad ae) ae));exact aF 3 S.nd (av aX (aC aH (pv 0) (av aV (pv 1) af) (λ_ _=>rfl)) af);exact aF 4 S.nd (aC aH (bx (aa af (aa af (aa af (aa af (aa af (aa af (aa af (aa af (aa af ad aL) aL) aL) aL) aL) aL) aL) aL) aL)) (av aX (aC aH (pv 0) (av aV (pv 1) af) (λ_ _=>rfl)) af) (λ_ _=>rfl));exact(aG yk (pv 3) af (aK _));exact(aE (aP f_law_known hr (aa (pv 3) (aa (pv 4) (aa (pv 2) ad ae) ae) ae)));exact(aG cA (pv 3) af (aK _));exact aF 4 S.nd (aB (l8 rfl) (by rfl) T.n_min PyProof.Rows.boot_min (aa (pv 4) (aa af ad aL) ae));exact aF 5 S.nd (av aX (aC aH (pv 0) (av aV (pv 1) af) (λ_ _=>rfl)) af);exact aF 6 S.nd (aC aH (bx (aa af (aa af (aa af (aa af (aa af ad aL) aL) aL) aL) aL)) (pv 3) (λ_ _=>rfl));exact aF 7 S.nd (bx (aa (av aV (pv 1) af) ad));exact aF 8 S.nd (bJ fY (pv 2) cw (cu (av aV (pv 5) (pv 4))));exact aF 9 S.nd (bx ad);walk_at "f";exact(bu (bJ fY (pv 8) (cu (pv 5)) cw));exact(bQ 10 S.nd);walk_at "p";exact aF 11 S.nd (aP f_law_rule hr (aa (pv 0) (aa (pv 7) (aa (pv 8) (aa (pv 6) ad ae) ae) ae) ae));exact(PW.pt (m_ (aG cA (pv 3) af (aK _)) (ja (aG cA (aB aJ (by rfl) T.n_len QH (aa (pv 9) ad ae)) (av aX (av de (aC aH (pv 0) (av aV (pv 1) af) (λ_ _=>rfl)) af) (pv 4)) (aK _)))));exact aF 11 S.nd (aP f_law_rule hr (aa (pv 0) (aa (pv 7) (aa (pv 8) (aa af ad aL) ae) ae) ae));exact(PW.pt (dq (aG cA (pv 3) af (aK _)) (cR (PW.pt (m_ (aG cA (pv 3) af (aK _)) (ja (aG cA (aB aJ (by rfl) T.n_len QH (aa (pv 9) ad ae)) (av aX (av de (aC aH (pv 0) (av aV (pv 1) af) (λ_ _=>rfl)) af) (pv 4)) (aK _))))))));exact aF 11 S.nd (aP f_law_deeper hr (aa (pv 0) (aa (pv 7) (aa (pv 8) (aa (pv 11) ad ae) ae) ae) ae));refine' bI ?e
  case e =>
   refine' dI QM QR QS bp (pv 9) ?a
   case a =>
    with_reducible refine' aa ?e35 ?s35 se_tup
    case e35 =>
     with_reducible refine' bh ?a36
     case a36 =>
      with_reducible refine' aa ?e37 ?s37 ae
      case e37 =>
       exact(pv 10)
      case s37 =>
       with_reducible refine' aa ?e39 ?s39 ae
       case e39 =>
        exact(pv 11)
       case s39 =>
        exact ad
    case s35 =>
     exact ad
  exact(aE (bh (aa (bJ fY (pv 2) cw (cu (pv 5))) (aa (pv 9) ad ae))))
 walk_at "e";walk_at "w";refine⟨d,ds,spot,rfl,hd,dok,by omega,by omega,λl ns H1 S1 nl ln nd hl=>?_⟩;have hd1:=S1 _ _ hd;walk_at "w";obtain⟨w0,_,_,ew⟩:=jh dok (i:=spot+2) (by omega) (by omega);refine a_ (SqL.of hd1) ew ?_;walk_at "w";refine⟨by simp[sizeLine],λp0 hp0=>?_⟩;generalize hE:upd H1 p0 _=H2;obtain⟨S2,q2⟩:=cO hp0 hE;clear hE;have hd2:=S2 _ _ hd1;walk_at "w";obtain⟨y0,_,_,ey⟩:=jh dok (i:=spot+3) (by omega) (by omega);refine a_ (SqL.of hd2) ey ?_;walk_at "w";obtain⟨m,m1,m7,em⟩:=AG (i:=y0 % 9) (by omega) (by omega);refine a_ (SqL.of q2) em ?_;have hl2:=S2 _ _ hl;have wb0:0<=w0 % 8:=by omega
 have wb1:w0 % 8<8:=by omega
 generalize w0 % 8=way at *;walk_at "w";refine eX (λ_=>?_) (λhw4=>?_)
 ·walk_at "w";exact⟨way,m,l,ns,rfl,m1,m7,hl2,ln,nd,λa li lg ins gvs gs H' S' NA ok=>k a li lg ins gvs gs H' (S1.trans (S2.trans S')) NA ok⟩
 have hw5:way<=4:=by simpa using hw4
 walk_at "s";let I19:IvJ:=λσ H'=>∃m:Nat,1<=m/\m<=7/\σ=[some (.ref d),some (.int spot),some (.ref l),some (.int way),some (.int (m:Int)),none,none,none,none,none,none,none]/\H'=H2;with_reducible refine d9 I19 (λR hR=>?_) (λσ6 H6 j6=>?_)
 ·walk_at "w";refine eX (λ_=>?_) (λ_=>hR _ _ ⟨m,m1,m7,rfl,rfl⟩);walk_at "w";refine⟨_,_,rfl,?_⟩;by_cases h3:(3:Int)<(m:Int)
  ·rw[QF h3];exact az (hR _ _ ⟨3,by omega,by omega,rfl,rfl⟩)
  rw[QB h3];exact az (hR _ _ ⟨m,m1,m7,rfl,rfl⟩)
 clear em m1 m7 m;obtain⟨m,m1,m7,rfl,e6⟩:=j6;have e6':=e6.symm;subst e6';clear e6;walk_at "w";obtain⟨z0,zb0,_,ez⟩:=jh dok (i:=spot+4) (by omega) (by omega);refine a_ (SqL.of hd2) ez ?_;walk_at "w";obtain⟨I,eI,I4⟩:∃I:Nat,z0 % 5=(I:Int)/\I<=4:=⟨(z0 % 5).toNat,by omega,by omega⟩;rw[eI];refine⟨by simp[sizeLine],λp1 hp1=>?_⟩;generalize hE:upd H2 p1 _=H3;obtain⟨S3,q3⟩:=cO hp1 hE;clear hE;walk_at "w";obtain⟨dp,dp1,dp6,edp⟩:=AI (i:=way) (by omega) (by omega);refine a_ (SqL.of q3) edp ?_;walk_at "w";refine⟨by show 1<=sizeLine;decide,λqa hqa=>?_⟩;generalize hE:upd H3 qa _=H4;obtain⟨S4,q4⟩:=cO hqa hE;clear hE;have S24:=S3.trans S4;have hl4:=S24 _ _ hl2;have hd4:=S24 _ _ hd2;walk_at "w";have lns:(ns.map V.str).length=11:=by rw[Qa];exact ln
 rw[show (I:Int)+(m:Int)=((I+m:Nat):Int) from by omega];refine lQ (SqL.of hl4) λso hso=>?_;rw[we (by rw[lns];omega),<-List.map_take];generalize hE:upd H4 so _=H5;obtain⟨S5,q5⟩:=cO hso hE;clear hE;have lts:(ns.take (I+m)).length=I+m:=by rw[Qs];omega
 have nds:(ns.take (I+m)).Nodup:=nd.sublist (List.take_sublist _ _);generalize eTS:ns.take (I+m)=ts at *;have tne:ts≠[]:=λz=>by rw[z]at lts;simp at lts;omega
 walk_at "w";refine⟨by decide,λg hg=>?_⟩;generalize hE:upd H5 g _=H6;obtain⟨S6,q6⟩:=cO hg hE;clear hE;walk_at "w";have lts':(ts.map V.str).length=I+m:=by rw[Qa];exact lts
 refine lQ (SqL.of (S6 _ _ q5)) λq hq=>?_;rw[wg (by rw[lts'];omega),<-List.map_drop];generalize hE:upd H6 q _=H7;obtain⟨S7,q7⟩:=cO hq hE;clear hE;have S47:=S5.trans (S6.trans S7);have SS7:am H H7:=S1.trans (S2.trans (S24.trans S47));have gH:H g=none:=am.free (S1.trans (S2.trans (S24.trans S5))) hg;have qaH:H qa=none:=am.free (S1.trans (S2.trans S3)) hqa;have nqg:g≠qa:=λz=>by rw[z]at hg;rw[(S5 _ _ q4)]at hg;cases hg
 refine⟨q,rfl,⟨_,SqL.of q7⟩,?_⟩;let I20:IvF:=λj σ H'=>∃x10 x11 gvs gs,σ=[some (.ref d),some (.int spot),some (.ref l),some (.int way),some (.int (m:Int)),some (.int (I:Int)),some (.int (dp:Int)),some (.ref qa),some (.ref so),some (.ref g),x10,x11]/\gs.map (·.1)=(ts.drop I).take j/\gs.length=j/\H' g=some (.lst gvs)/\Paired (GAt H') gvs gs/\(∀g∈gs,g.2.ok ts/\g.2.dep<=10)/\H' l=some (.lst (ns.map V.str))/\H' so=some (.lst (ts.map V.str))/\H' q=some (.lst ((ts.drop I).map V.str))/\H' d=some (.lst (ds.map V.int))/\(∃n:Int,H' qa=some (.lst [.int n]))/\am H H'
 refine dM (K:=K) (xs:=(ts.drop I).map V.str) I20
  ⟨none,none,[],[],rfl,rfl,rfl,S7 _ _ q6,.nil,(λg h=>nomatch h),S47 _ _ hl4,(S6.trans S7) _ _ q5,q7,S47 _ _ hd4,⟨_,S47 _ _ q4⟩,SS7⟩ (λj σ H' _ pv=>?_) (λj x σ H' hx pv=>?_) (λσ H' pv=>?_)
 ·obtain⟨_,_,_,_,_,_,_,_,_,_,_,_,h,_⟩:=pv;exact SqL.of h
 ·obtain⟨x10,x11,gvs,gs,rfl,hgs,hj,hg',gts,gok,hl',hso',hq',hd',hqa',SS⟩:=pv;rw[Qh]at hx
  cases hnm:(ts.drop I)[j]? with
  | none=>rw[hnm]at hx;cases hx
  | some nm =>
  rw[hnm]at hx;cases hx;have hjl:j<(ts.drop I).length:=(Qe.mp hnm).1;rw[Q4,lts]at hjl;have lgv:=aN gts;have len1:ts.length<=1000:=by omega
  refine az ?_;walk_at "w";refine⟨d,qa,so,ds,ts,dp,rfl,hd',dok,hqa',hso',tne,len1,dp1,by omega,λv r G1 ra rok rd kp=>?_⟩;refine az ?_;let I21:IvJ:=λσ G2=>∃v r,σ=[some (.ref d),some (.int spot),some (.ref l),some (.int way),some (.int (m:Int)),some (.int (I:Int)),some (.int (dp:Int)),some (.ref qa),some (.ref so),some (.ref g),some (.str nm),some v]/\RAt G2 v r/\r.ok ts/\r.dep<=6/\KpP qa H' G2;with_reducible refine d9 I21 (λR hR=>?_) (λσ6 H6' j6=>?_)
  ·have out:=hR _ _ ⟨v,r,rfl,ra,rok,by omega,kp⟩;walk_at "w";refine eX (λ_=>?_) (λ_=>?_)
   ·walk_at "w";refine⟨_,_,rfl,.inl (SqL.of (kp.old _ _ hg' nqg)),?_⟩;walk_at "w";refine a_ (SqL.of (kp.ints hqa' dok hd')) ez ?_;walk_at "w";refine i_rI (by show (0:Int)<(m:Int);omega) ?_;walk_at "w";refine eX (λ_=>?_) (λ_=>out);walk_at "w";refine⟨d,qa,so,ds,ts,6,rfl,kp.ints hqa' dok hd',dok,kp.at',kp.strs hqa' hso',tne,len1,by omega,by omega,λv2 r2 G2 ra2 rok2 rd2 kp2=>?_⟩;exact az (hR _ _ ⟨v2,r2,rfl,ra2,rok2,rd2,kp.trans kp2⟩)
   first|exact out|exact ck out
  clear ra rok rd kp v r;let I22:IvJ:=λσ G2=>∃v r,σ=[some (.ref d),some (.int spot),some (.ref l),some (.int way),some (.int (m:Int)),some (.int (I:Int)),some (.int (dp:Int)),some (.ref qa),some (.ref so),some (.ref g),some (.str nm),some v]/\RAt G2 v r/\r.ok ts/\r.dep<=10/\KpP qa H' G2;with_reducible refine d9 I22 (λR hR=>?_) (λσ7 H7' j7=>?_)
  ·obtain⟨v,r,rfl,ra,rok,rd,kp⟩:=j6;have out:=hR _ _ ⟨v,r,rfl,ra,rok,by omega,kp⟩
   have deeper:∀D:Ends,(∀σ H,R σ H->D.nx σ H)->sO (jl gL [] E0 (bY (cX 0) (bY (cX 7) (bY (cX 8) (bY (cX 11) ig))))) (fz 11) D [some (.ref d),some (.int spot),some (.ref l),some (.int way),some (.int (m:Int)),some (.int (I:Int)),some (.int (dp:Int)),some (.ref qa),some (.ref so),some (.ref g),some (.str nm),some v] H6':=λD hD=>by
    walk_at "w";refine⟨d,qa,so,ds,ts,v,r,rfl,kp.ints hqa' dok hd',dok,kp.at',kp.strs hqa' hso',tne,len1,ra,rok,rd,λv2 r2 G2 ra2 rok2 rd2 kp2=>?_⟩;exact az (hD _ _ (hR _ _ ⟨v2,r2,rfl,ra2,rok2,rd2,kp.trans kp2⟩))
   walk_at "w";refine eX (λ_=>bX (deeper _ λ_ _ h=>h)) (λ_=>?_);walk_at "w";refine eX (λ_=>?_) (λ_=>?_)
   ·walk_at "w";refine⟨_,_,rfl,.inl (SqL.of (kp.old _ _ hg' nqg)),?_⟩;walk_at "w";refine a_ (SqL.of (kp.ints hqa' dok hd')) ez ?_;walk_at "w";refine i_rI (by show (0:Int)<(m:Int);omega) ?_;walk_at "w";refine eX (λ_=>?_) (λ_=>out);exact deeper _ λ_ _ h=>h
   first|exact out|exact ck out
  obtain⟨v,r,rfl,ra,rok,rd,kp⟩:=j7;have hg7:=kp.old _ _ hg' nqg;walk_at "w";refine⟨by simp[sizeLine],λt ht=>?_⟩;generalize hE:upd H7' t _=H8;obtain⟨S8,q8⟩:=cO ht hE;clear hE;have hg8:=S8 _ _ hg7;walk_at "w";refine fw hg8 (by omega) ?_
  have kt:dj H8 (upd H8 g (.lst (gvs++[.ref t]))):=λb xs eb=>by
   have nb:b≠g:=λz=>by rw[z,hg8]at eb;cases eb
   rw[ak nb];exact eb
  have kp8:KpP qa H' H8:=kp.trans (KpP.of kp.at' S8);have ngl:l≠g:=aD hl4 (am.free S5 hg);have ngs:so≠g:=aD q5 hg;have ngq:q≠g:=λz=>by rw[z,q6]at hq;cases hq
  have ngd:d≠g:=aD hd4 (am.free S5 hg);refine⟨_,_,gvs++[.ref t],gs++[(nm,r)],rfl,?_,by simp[hj],ag,bZ (be kt (be (kp8.tups hqa') gts)) ⟨t,v,rfl,kt _ _ q8,(ra.mono (am.tups S8)).mono kt⟩,λx hx=>?_,by rw[ak ngl];exact kp8.strs hqa' hl',by rw[ak ngs];exact kp8.strs hqa' hso',by rw[ak ngq];exact kp8.strs hqa' hq',by rw[ak ngd];exact kp8.ints hqa' dok hd',?_,?_⟩
  ·rw[Qr,hgs,QP,hnm];rfl
  ·rcases Qv.mp hx with h|h
   ·exact gok x h
   have:x=(nm,r):=by simpa using h
   rw[this];exact⟨rok,rd⟩
  ·obtain⟨n,hn⟩:=kp8.at';exact⟨n,by rw[ak (XF nqg)];exact hn⟩
  intro b o e;have nb:b≠g:=λz=>by rw[z,gH]at e;cases e
  have nq:b≠qa:=λz=>by rw[z,qaH]at e;cases e
  rw[ak nb];exact kp8.old _ _ (SS _ _ e) nq
 obtain⟨x10,x11,gvs,gs,rfl,hgs,hj,hg',gts,gok,hl',hso',hq',hd',hqa',SS⟩:=pv;walk_at "w";refine lQ (SqL.of hl') λp8 hp8=>?_;rw[we (by rw[lns];omega),<-List.map_take];generalize hE:upd H' p8 _=H8;obtain⟨S8,q8⟩:=cO hp8 hE;clear hE;walk_at "w";refine⟨by simp[sizeLine],λp9 hp9=>?_⟩;generalize hE:upd H8 p9 _=H9;obtain⟨S9,q9⟩:=cO hp9 hE;clear hE;have S89:=S8.trans S9;rw[Qa,Q4,lts]at hj
 have hw:ap (ns.take I) gs=ts:=by
  unfold ap;rw[hgs,show (ts.drop I).take ((ts.drop I).map V.str).length=ts.drop I from by rw[Qa];exact List.take_length];have:ns.take I=ts.take I:=by rw[<-eTS,List.take_take,Nat.min_eq_left (by omega)]
  rw[this,QZ]
 refine k p9 p8 g (ns.take I) gvs gs H9 (SS.trans S89) ⟨q9,S9 _ _ q8,S89 _ _ hg',be (am.tups S89) gts⟩ ⟨by rw[hw];exact nds,by rw[Qs];omega,by omega,by omega,λx hx=>by rw[hw];exact gok x hx⟩
end
def qe:Sp:=λvs H Q _=>∃a li lg ins gvs gs,vs=[.ref a]/\NAt H a li lg ins gvs gs/\∀a' li' lg' H',am H H'->H a'=none->H li'=none->H lg'=none->NAt H' a' li' lg' ins gvs gs->Q (.ref a') H'
def jt:Sp:=λvs H Q _=>∃(x:Int) (a li lg:Addr) (ins:List Str) (gvs:List V) (gs:List (Str × Rl)),vs=[.int x,.ref a]/\NAt H a li lg ins gvs gs/\NetOk ins gs/\∀z H',StOk (ap ins gs).length z->am H H'->Q (.str z) H'
theorem Dq (y:Int):∃c,atI ("01" : Str).cps.toList (Builtin.bitAnd y 1)=some c/\(c=48\/c=49):=by
 rw[PyProof.Rows.bitAnd_m1];have:y % 2=0\/y % 2=1:=by omega
 rcases this with e|e
 ·rw[e];exact⟨48,rfl,.inl rfl⟩
 rw[e];exact⟨49,rfl,.inr rfl⟩
theorem qO (h:∀z∈zs,∃c∈[48,49],z=⟨#[c]⟩):StOk zs.length (Txt.join Str.empty zs):=by
 obtain⟨e1,e2⟩:=tU h;exact⟨e1,λc hc=>by simpa using e2 c hc⟩
section
theorem iY:FnScope ["x", "net"] ["x", "net"] (aA (top 41)):=by walk_at "k"
theorem tz {f:Addr} {fd:FuncData} (Fu:Fun K "_law_standing" "_law_standing" (top 41) f fd) (T:Txt K mg TT):FnOk P w K mg base CX0 1 f fd ["x", "net"] jt:=by
 have S:=iY;refine Fu.ok S (by walk_at "l") (λcdv A outer s H vs Q E hr h=>?_);obtain⟨x,a,li,lg,ins,gvs,gs,rfl,NA,ok,k⟩:=h;obtain⟨ha,hi,hg,gts⟩:=id NA;have lg':=aN gts;have i4:=ok.i4;have g7:=ok.g7;have big:1000<sizeLine:=by decide
 refine'⟨?_,?bb,?_⟩
 case bb =>
  walk_at "b";exact(aE (dI PySem.F.plainAttrs_str PySem.F.slot_str_join PySem.F.type_str_join rP aM (aa (dr (tgs:=["k"]) (cap:=[("x", 0)]) rfl ⟨rfl,rfl,rfl,rfl,rfl,rfl⟩ (cI (by rfl) T.n_range (aa (av aV (aB aJ (by rfl) T.n_len QH (aa (aC aU (pv 1) af (λ_ _=>rfl)) ad)) (aB aJ (by rfl) T.n_len QH (aa (aC aU (pv 1) af (λ_ _=>rfl)) ad))) ad)) (λ_ _ _ _=>(bj (i:=0) (show List.Nodup [("k" : Str),("x" : Str)] by decide +kernel) rfl (by walk_at "z"))) (λ_ _ _ _=>bq) (λ_ _ _ _=>(aC eP aM (av zw (av zq (pv 1) (pv 0)) af) (λ_ _=>rfl)))) ad)))
 walk_at "e";walk_at "w";refine⟨rfl,?_⟩;walk_at "w";refine bS ?_;walk_at "w"
 have en:((ins.map V.str).length:Int)+(gvs.length:Int)=(((ap ins gs).length:Nat):Int):=by
  unfold ap;rw[Qj,Qa,Qa,lg'];rfl
 have wl:(ap ins gs).length<1000:=by
  unfold ap;rw[Qj,Qa];omega
 rw[en];refine⟨by omega,by omega,λL hL=>?_⟩;rw[Xw];let I23:IvC:=λn H2 ys=>am H H2/\H2 L=some (.lst ys)/\∃zs:List Str,ys=zs.map V.str/\zs.length=n/\∀z∈zs,∃c∈[48,49],z=⟨#[c]⟩;refine gy I23 ⟨aj hL,ag,[],rfl,rfl,λz h=>nomatch h⟩ (λn H2 ys p=>p.2.1) (λn H2 ys hn p=>?_) (λH2 ys p=>?_)
 ·obtain⟨S2,h2,zs,rfl,hz,hc⟩:=p;refine az ⟨⟨rfl,trivial⟩,i_yes (bX ?_)⟩;show tOp _ _ _ [some (.int (0+n)),some (.int x)] _ _;walk_at "w";refine i_rI (by show (0:Int)<=0+(n:Int);omega) ?_;walk_at "w";obtain⟨c,ec,hcc⟩:=Dq (x / 2 ^ (0+(n:Int)).toNat);refine gd (by decide +kernel) ec ?_;refine bV.mk h2 hn (by rw[Qa];omega) ⟨aQ S2 hL,ag,zs++[⟨#[c]⟩],by simp,by simp[hz],λz hz'=>?_⟩;rcases Qv.mp hz' with h|h
  ·exact hc z h
  rw[QA]at h;exact⟨c,by simpa using hcc,h⟩
 obtain⟨S2,h2,zs,rfl,hz,hc⟩:=p;obtain⟨_,_,e3⟩:=fi zs hc;have e0:("" : Str)=Str.empty:=by decide +kernel
 have e00:("" : Str).length=0:=by decide +kernel
 refine aI ⟨"", L,zs,rfl,rfl,SqL.of h2,by rw[e3,e00];omega,?_⟩;rw[e0];exact k _ H2 (by rw[<-hz];exact qO hc) S2
theorem oG:FnScope ["net"] ["net"] (aA (top 48)):=by walk_at "k"
theorem xm {f:Addr} {fd:FuncData} (Fu:Fun K "_law_copy" "_law_copy" (top 48) f fd) (T:Txt K mg TT):FnOk P w K mg base CX0 1 f fd ["net"] qe:=by
 have S:=oG;refine Fu.ok S (by walk_at "l") (λcdv A outer s H vs Q E hr h=>?_);obtain⟨a,li,lg,ins,gvs,gs,rfl,NA,k⟩:=h;obtain⟨ha,hi,hg,gts⟩:=id NA;refine⟨_,(a8 (aE (bh (aa (d6 dU (by rfl) T.n_list Xu (aa (aC aU (pv 0) af (λ_ _=>rfl)) ad)) (aa (d6 dU (by rfl) T.n_list Xu (aa (aC aU (pv 0) af (λ_ _=>rfl)) ad)) ad se_call) se_call)))),?_⟩;walk_at "e";walk_at "w";intro l hl;have S1:=aj (o:=.lst (ins.map V.str)) hl;have ha1:=S1 _ _ ha;have hg1:=S1 _ _ hg;have hl1:upd H l (HO.lst (ins.map V.str)) l=some (.lst (ins.map V.str)):=ag;generalize upd H l (HO.lst (ins.map V.str))=H1 at *;walk_at "w";intro m hm;have S2:=aj (o:=.lst gvs) hm;have hl2:=S2 _ _ hl1;have hm2:upd H1 m (HO.lst gvs) m=some (.lst gvs):=ag;generalize upd H1 m (HO.lst gvs)=H2 at *;walk_at "w";refine⟨by simp[sizeLine],λp hp=>?_⟩;have S3:=aj (o:=.tup [.ref l,.ref m]) hp;have S13:=S1.trans (S2.trans S3);exact k p l m _ S13 (am.free (S1.trans S2) hp) hl (am.free S1 hm) ⟨ag,S3 _ _ hl2,S3 _ _ hm2,be (am.tups S13) gts⟩
theorem mP:FnScope ["rule", "signs", "one", "other"] ["rule", "signs"] (aA (top 42)):=by walk_at "k"
theorem lJ {f:Addr} {fd:FuncData} (Fu:Fun K "_law_holds" "_law_holds" (top 42) f fd) (T:Txt K mg TT) (hm:mg "_law_holds" = some (.ref f)) (hk:PySem.W.keepIn K (.ref f)=true) (hb:hZ K fd ["rule", "signs"] []):∀d,FnOk P w K mg base CX0 d f fd ["rule", "signs"] (eG d)
 | 0=>gv λvs H Q E ⟨v,a,kvs,r,ns,g,_,_,h,_⟩=>by have:=si r;omega
 | d+1=>by
  have S:=mP;have f_law_holds:Fn P w K mg base "_law_holds" ["rule", "signs"] d (eG d):=⟨f,fd,lJ Fu T hm hk hb d,hm,hk,hb⟩;refine Fu.ok S (λvs H Q E h=>?_) (λcdv A outer s H vs Q E hr h=>?_)
  ·obtain⟨v,a,kvs,r,ns,g,rfl,_⟩:=h;rfl
  obtain⟨v,a,kvs,r,ns,g,rfl,ra,hd,rok,ha,hf,q⟩:=h;have hu:=du hr;refine'⟨?_,?bb,?_⟩
  case bb =>
   walk_at "b";exact(aG cA (aC aU (pv 0) af (λ_ _=>rfl)) aM (aK _));exact(aE (c9 cA (bC hu (pv 1) (aC aU (pv 0) af (λ_ _=>rfl)) (λ_ _=>rfl)) aM (aK _)));exact(aG cA (aC aU (pv 0) af (λ_ _=>rfl)) aM (aK _));exact(aE (qp (aP f_law_holds hr (aa (aC aU (pv 0) af (λ_ _=>rfl)) (aa (pv 1) ad ae)))));exact aF 2 S.nd (aP f_law_holds hr (aa (aC aU (pv 0) af (λ_ _=>rfl)) (aa (pv 1) ad ae)));exact aF 3 S.nd (aP f_law_holds hr (aa (aC aU (pv 0) af (λ_ _=>rfl)) (aa (pv 1) ad ae)));exact(aG cA (aC aU (pv 0) af (λ_ _=>rfl)) aM (aK _));exact(aE (fK (pv 2) (fI (pv 3))));exact(aE (yh (pv 2) (fI (pv 3))))
  walk_at "e"
  cases ra with
  | @w b n hb =>
   walk_at "w";refine ifT (by decide +kernel) ?_;walk_at "w";have hv:ba kvs (Sum.inr n:Key)=some (sg (g n)):=hf n rok;refine⟨a,sg (g n),rfl,by rw[<-hv];exact cL.k (k:=Sum.inr n) ha,?_⟩;walk_at "w";refine i_eq (by cases g n <;> rfl) ?_;rw[qh];exact q
  | @no b u r hb hr1 =>
   walk_at "w";refine ifF (by decide +kernel) ?_;walk_at "w";refine ifT (by decide +kernel) ?_;walk_at "w";exact⟨u,a,kvs,r,ns,g,rfl,hr1,by simp only[Rl.dep]at hd;omega,rok,ha,hf,⟨_,rfl,q⟩⟩
  | @an b u x r1 r2 hb hr1 hr2 =>
   walk_at "w";refine ifF (by decide +kernel) ?_;walk_at "w";refine ifF (by decide +kernel) ?_;walk_at "w";simp only[Rl.dep]at hd;refine⟨u,a,kvs,r1,ns,g,rfl,hr1,by omega,rok.1,ha,hf,?_⟩;walk_at "w";refine⟨x,a,kvs,r2,ns,g,rfl,hr2,by omega,rok.2,ha,hf,?_⟩;walk_at "w";refine ifT (by decide +kernel) ?_;have e:Rl.val g (Rl.an r1 r2)=(r1.val g&&r2.val g):=rfl;rw[e]at q;walk_at "w"
   cases hv:r1.val g with
   | false=>rw[hv]at q;exact ck q
   | true =>
   rw[hv]at q;refine bX ?_;walk_at "w";exact q
  | @orr b u x r1 r2 hb hr1 hr2 =>
  walk_at "w";refine ifF (by decide +kernel) ?_;walk_at "w";refine ifF (by decide +kernel) ?_;walk_at "w";simp only[Rl.dep]at hd;refine⟨u,a,kvs,r1,ns,g,rfl,hr1,by omega,rok.1,ha,hf,?_⟩;walk_at "w";refine⟨x,a,kvs,r2,ns,g,rfl,hr2,by omega,rok.2,ha,hf,?_⟩;walk_at "w";refine ifF (by decide +kernel) ?_;have e:Rl.val g (Rl.orr r1 r2)=(r1.val g || r2.val g):=rfl;rw[e]at q;walk_at "w"
  cases hv:r1.val g with
  | true=>rw[hv]at q;exact bX q
  | false =>
  rw[hv]at q;refine ck ?_;walk_at "w";exact q
end
theorem qW (hσ:σ[i]?=some (some (.ref a))) (NA:NAt H a li lg ins gvs gs) (ok:NetOk ins gs)
  (q:∀D H',H D=none->am H H'->H' D=some (.lst ((gs.map (·.1)).map V.str))->Q (.ref D) H') :
  lF (pB K (tOp (oN K) (cX i) (tC (V.int 1)))) (Aa K 2 (vX (fz 0) (vX (fz 1) Dj))) ie (cX 0) (b_ [Str.ofString "name", Str.ofString "rule"] []) σ H Q:=by
 have l:=aN NA.gates;have g7:=ok.g7;have big:1000<sizeLine:=by decide
 refine bS (s_list (br (ai hσ (i_c (i_ixT NA.ha rfl ⟨lg,rfl,⟨_,SqL.of NA.hg⟩,λD hD=>?_⟩)))));refine bU (xs:=gvs) (λn H' ys=>am H H'/\H' D=some (.lst ys)/\ys=((gs.map (·.1)).map V.str).take n) ⟨aj hD,ag,by simp⟩ (λn H' ys p=>⟨p.2.1,SqL.of (p.1 _ _ NA.hg)⟩) (λn x H' ys e p=>?_) (λH' ys p=>?_)
 ·obtain⟨S,hd,rfl⟩:=p;obtain⟨g,hgi,b,rv,rfl,hb,hrv⟩:=dA NA.gates n x e;have hn:n<gvs.length:=(Qe.mp e).1;refine⟨b,_,rfl,SqT.of (S _ _ hb),rfl,?_⟩;refine⟨_,_,rfl,az ⟨_,_,rfl,az ⟨rfl,⟨trivial,i_yes (bX ?_)⟩⟩⟩⟩;refine ai rfl (bV.mk hd hn (by rw[Qs];omega) ⟨aQ S hD,ag,?_⟩);rw[QP,Qh,Qh,hgi];rfl
 obtain⟨S,hd,rfl⟩:=p;exact q D H' hD S (by rw[hd,Qt (by simp[l])])
section
theorem mR:FnScope ["net", "standing", "names", "signs", "found", "k", "name", "rule", "at", "sign"] ["net", "standing"] (aA (top 43)):=by walk_at "k"
theorem qx {f:Addr} {fd:FuncData} (Fu:Fun K "_law_asked" "_law_asked" (top 43) f fd) (T:Txt K mg TT) (f_law_holds:Fn P w K mg base "_law_holds" ["rule", "signs"] 10 (eG 10)):FnOk P w K mg base CX0 11 f fd ["net", "standing"] dH:=by
 have S:=mR;refine Fu.ok S (by walk_at "l") (λcdv A outer s H vs Q E hr h=>?_);obtain⟨a,li,lg,ins,gvs,gs,z,rfl,NA,ok,st,k⟩:=h;have hu:=du hr;refine'⟨?_,?bb,?_⟩
 case bb =>
  walk_at "b";exact aF 2 S.nd (av jR (aC aU (pv 0) af (λ_ _=>rfl)) (dr (tgs:=["name", "rule"]) (cap:=[]) rfl ⟨rfl,rfl,rfl,rfl,rfl,rfl⟩ (bu (aC aU (pv 0) af (λ_ _=>rfl))) (λ_ _ _ _=>(ni (K:=K) (n:=2) rfl rfl (bD (bj (i:=0) (show List.Nodup [("name" : Str),("rule" : Str)] by decide +kernel) rfl (by walk_at "z")) (bD (bj (i:=1) (show List.Nodup [("name" : Str),("rule" : Str)] by decide +kernel) rfl (by walk_at "z")) eJ)))) (λ_ _ _ _=>bq) (λ_ _ _ _=>(pv 0))));exact aF 3 S.nd (rL rfl (by rfl) T.n_dict (by rfl) T.n_zip (aa (pv 2) (aa (pv 1) ad ae) ae));exact aF 4 S.nd (bx ad);walk_at "f";exact(rJ (by rfl) T.n_enumerate (aa (aC aU (pv 0) af (λ_ _=>rfl)) ad));exact(iw rfl (bD (bQ 5 S.nd) (bD (iw rfl (bD (bQ 6 S.nd) (bD (bQ 7 S.nd) eJ))) eJ)));walk_at "p";exact(aG fL (aP f_law_holds hr (aa (pv 7) (aa (pv 3) ad ae) ae)) (c9 cA (bC hu (pv 3) (pv 6) (λ_ _=>rfl)) aM (aK _)) (aK _));exact aF 8 S.nd (av aV (aB aJ (by rfl) T.n_len QH (aa (aC aU (pv 0) af (λ_ _=>rfl)) ad)) (pv 5));exact aF 9 S.nd (aC eP aM (d6 lr (by rfl) T.n_int PyProof.Rows.boot_int (aa (aC eP (pv 1) (pv 8) (λ_ _=>rfl)) ad)) (λ_ _=>rfl));refine' bI ?e
  case e =>
   refine' dI QM QR QS bp (pv 4) ?a
   case a =>
    with_reducible refine' aa ?e4 ?s4 se_tup
    case e4 =>
     with_reducible refine' bh ?a5
     case a5 =>
      with_reducible refine' aa ?e6 ?s6 ae
      case e6 =>
       exact(pv 6)
      case s6 =>
       with_reducible refine' aa ?e8 ?s8 se_bin
       case e8 =>
        exact(av cG (av cG (bJ fE (pv 1) cw (cu (pv 8))) (pv 9)) (bJ fE (pv 1) (cu (av aV (pv 8) af)) cw))
       case s8 =>
        exact ad
    case s4 =>
     exact ad
  exact(aE (pv 4))
 walk_at "e";have i4:=ok.i4;have g7:=ok.g7;have lgn:=aN NA.gates;have wl:(ap ins gs).length=ins.length+gs.length:=by unfold ap;rw[Qj,Qa]
 have big:1000<sizeLine:=by decide
 obtain⟨ha,hi,hg,gts⟩:=id NA;walk_at "w";refine qW rfl NA ok λD H1 hD S1 h1=>?_;show zg _ _ _ _;refine pA (S1 _ _ hi) h1 (lC ok) λl0 hl0=>?_;rw[lB];generalize hE:upd H1 l0 _=H2;obtain⟨S2,q2⟩:=cO hl0 hE;clear hE;walk_at "w";show bY _ _ _ _ _;walk_at "w";refine⟨l0,ap ins gs,z,rfl,SqL.of q2,by rw[st.len];omega,by omega,λd hd0=>?_⟩;generalize hE:upd H2 d _=H3;obtain⟨S3,q3⟩:=cO hd0 hE;clear hE;have df:DFn (bw [] (cY (ap ins gs) z)) (ap ins gs) (sgn (ap ins gs) z):=sf ok.nd st;generalize bw [] (cY (ap ins gs) z)=kvs at *;walk_at "w";refine⟨by decide,λl hl=>?_⟩;generalize hE:upd H3 l _=H4;obtain⟨S4,q4⟩:=cO hl hE;clear hE;have S03:=S1.trans (S2.trans S3);have S04:=S03.trans S4;have hlH:H l=none:=am.free S03 hl;have NA4:=NA.same S04;have hd4:=S4 _ _ q3;have dl:d≠l:=aD q3 hl;obtain⟨ha4,hi4,hg4,gts4⟩:=id NA4;walk_at "w";show bY _ _ _ _ _;walk_at "w";refine⟨lg,rfl,⟨_,SqL.of hg4⟩,?_⟩;let I24:IvF:=λi σ H'=>(∃x5 x6 x7 x8 x9 vs',σ=[some (.ref a),some (.str z),some (.ref l0),some (.ref d),some (.ref l),x5,x6,x7,x8,x9]/\H' l=some (.lst vs')/\vs'.length<=i/\Paired (nX H') vs' (((gs.zipIdx ins.length).take i).filterMap (cr (sgn (ap ins gs) z) z)))/\am H H'/\H' d=some (.dK kvs)
 refine pC (xs:=gvs) I24
  ⟨⟨_,_,_,_,_,[],rfl,q4,by simp,by simp;exact .nil⟩,S04,hd4⟩ (λi σ H' _ pv=>SqL.of (pv.2.1 _ _ NA.hg)) (λi x σ H' t hx pv ht=>?_) (λσ H' pv=>?_)
 ·obtain⟨⟨x5,x6,x7,x8,x9,vs',rfl,hl',hlen,hp⟩,SS,hd'⟩:=pv;have hig:i<gvs.length:=(Qe.mp hx).1;obtain⟨g,hgi,b,rv,rfl,hb,hrv⟩:=dA NA.gates i x hx;have S5:=aj (o:=.tup [.int (i:Nat),.ref b]) ht;have hb5:=(SS.trans S5) _ _ hb;refine⟨t,_,rfl,SqT.of ag,rfl,?_⟩;refine⟨_,_,rfl,az ⟨_,_,rfl,⟨b,_,rfl,SqT.of hb5,rfl,⟨_,_,rfl,az ⟨_,_,rfl,az ⟨rfl,⟨rfl,?_⟩⟩⟩⟩⟩⟩⟩;have hl5:=S5 _ _ hl';have hd5:=S5 _ _ hd';have SS5:=SS.trans S5;have hp5:=cE (am.tups S5) hp;generalize upd H' t (.tup [.int (i:Nat),.ref b])=H5 at *;have hr5:=hrv.mono (am.tups SS5);have gm:g∈gs:=Qi hgi;obtain⟨rok,rdep⟩:=ok.rules g gm;have hpl:ins.length+i<(ap ins gs).length:=by omega
  have hzi:(gs.zipIdx ins.length)[i]?=some (g,ins.length+i):=by rw[List.getElem?_zipIdx,hgi];rfl
  have gw:g.1∈ap ins gs:=by
   unfold ap;exact QO _ (List.mem_map_of_mem gm)
  have hv1:ba kvs (Sum.inr g.1:Key)=some (sg (sgn (ap ins gs) z g.1)):=df g.1 gw
  have sgi:sgn (ap ins gs) z g.1=(z.cps.getD (ins.length+i) 0==49):=by
   have hw:(ap ins gs)[ins.length+i]?=some g.1:=by
    unfold ap;rw[QE (by omega),Qh,show ins.length+i-ins.length=i from by omega,hgi];rfl
   have e2:(ap ins gs)[ins.length+i]=g.1:=(Qe.mp hw).2
   have hi':(ap ins gs).idxOf g.1=ins.length+i:=by
    rw[<-e2];exact List.Nodup.idxOf_getElem ok.nd _ hpl
   unfold sgn;rw[hi']
  rw[sgi]at hv1;walk_at "w";refine⟨rv,d,kvs,g.2,_,_,rfl,hr5,rdep,rok,hd5,df,?_⟩;generalize hv:g.2.val (sgn (ap ins gs) z)=bv;walk_at "w";refine⟨d,_,rfl,by rw[<-hv1];exact cL.k (k:=Sum.inr g.1) hd5,?_⟩;have zl:z.length=(ap ins gs).length:=st.len;have e:=i9 st hpl;unfold fv at e
  have so:cr (sgn (ap ins gs) z) z (g,ins.length+i)=if (bv==(z.cps.getD (ins.length+i) 0==49))=true then none else some (g.1,fu z (ins.length+i)):=by
   unfold cr;rw[hv]
  have fT:dP z (ins.length+i)=if (z.cps.getD (ins.length+i) 0==49)=true then ("0" : Str) else ("1" : Str):=rfl
  have tk:((gs.zipIdx ins.length).take (i+1)).filterMap (cr (sgn (ap ins gs) z) z)=((gs.zipIdx ins.length).take i).filterMap (cr (sgn (ap ins gs) z) z)++(cr (sgn (ap ins gs) z) z (g,ins.length+i)).toList:=by
   rw[QP,hzi,List.filterMap_append];cases h:cr (sgn (ap ins gs) z) z (g,ins.length+i) <;> simp[h]
  walk_at "w";refine i_eq (by cases (z.cps.getD (ins.length+i) 0==49) <;> rfl) ?_;rw[qh];generalize hbz:(z.cps.getD (ins.length+i) 0==49)=bz at *;walk_at "w"
  cases hc:(bv==bz) with
  | true =>
   have:bv=bz:=by simpa using hc
   refine ifF (by rw[this];simp) ?_;rw[hc]at so;refine⟨⟨_,_,_,_,_,vs',rfl,hl5,by omega,?_⟩,SS5,hd5⟩;rw[tk,so];simpa using hp5
  | false =>
  have hne:bv≠bz:=by simpa using hc
  refine ifT (by simp[hne]) ?_;rw[hc]at so;have NA5:=NA.same SS5;obtain⟨ha5,hi5,hg5,gts5⟩:=id NA5;walk_at "w";have ep:((ins.map V.str).length:Int)+((i:Nat):Int)=((ins.length+i:Nat):Int):=by rw[Qa];omega
  rw[ep];walk_at "w";refine gd (by omega) (nN st hpl) ?_;rw[e];have sgt:sg bz=.str (if bz=true then ("1" : Str) else ("0" : Str)):=by cases bz <;> rfl
  rw[sgt];walk_at "w";refine⟨_,if bz=true then 1 else 0,rfl,by cases bz <;> decide +kernel,by cases bz <;> decide +kernel,?_⟩;have l1:(dP z (ins.length+i)).length=1:=by rw[fT];cases bz <;> decide +kernel
  refine gd (c:=if bz=true then 48 else 49) (by decide +kernel) (by cases bz <;> rfl) ?_;have cz:(⟨#[if bz=true then 48 else 49]⟩:Str)=dP z (ins.length+i):=by rw[fT];cases bz <;> decide +kernel
  rw[cz];have s1:=Txt.slice_le z none (some ((ins.length+i:Nat):Int));have s2:=Txt.slice_le z (some (((ins.length+i:Nat):Int)+1)) none;walk_at "w";refine iP (by omega) ?_;walk_at "w";refine⟨_,_,rfl,rfl,by omega,?_⟩;walk_at "w";refine iP (by omega) ?_;refine⟨_,_,rfl,rfl,by rw[lap];omega,?_⟩;show ig _ _ _;walk_at "w";refine⟨by simp[sizeLine],λq hq=>?_⟩;generalize hE:upd H5 q _=H6;have S6:am H5 H6:=by rw[<-hE];exact aj hq
  have q6:H6 q=some (.tup [.str g.1,.str (fu z (ins.length+i))]):=by rw[<-hE];exact ag
  clear hE;have hl6:=S6 _ _ hl5;have hd6:=S6 _ _ hd5;walk_at "w";refine fw hl6 (by omega) ?_
  have kt:dj H6 (upd H6 l (.lst (vs'++[.ref q]))):=λb xs e=>by
   have:b≠l:=λx=>by rw[x,hl6]at e;cases e
   rw[ak this];exact e
  refine⟨⟨_,_,_,_,_,vs'++[.ref q],rfl,ag,by simp;omega,?_⟩,aQ (SS5.trans S6) hlH,by rw[ak dl];exact hd6⟩;rw[tk,so];exact bZ (cE kt (cE (am.tups S6) hp5)) ⟨q,rfl,kt _ _ q6⟩
 obtain⟨⟨x5,x6,x7,x8,x9,vs',rfl,hl',hlen,hp⟩,SS,hd'⟩:=pv;refine ca (te:=cX 4) (D:={ nx:=λx H'=>Q V.non H',rt:=Q }) (ai rfl ?_);refine k l vs' H' SS hlH hl' ?_;have e:(gs.zipIdx ins.length).length=gvs.length:=by rw[List.length_zipIdx,lgn]
 rw[<-e,List.take_length]at hp;exact hp
end
inductive PathE (es:List (Str × (Str × Str))) (s:Str):Str->List Str->Prop
 | nil:PathE es s s []
 | snoc {x h nm:Str} {ns:List Str}:x≠s->hU es x=some (nm,h)->PathE es s h ns->PathE es s x (ns++[nm])
theorem gZ {ls:List Addr} (h:ls.length=xs.length):ba (fdK (au xs) ls) (Sum.inr x)=none↔x∉xs:=by
 rw[cS,g_,Qt (by unfold au;rw[Qa];omega)];unfold au;refine not_congr ⟨λq=>?_,λq=>Qk.mpr ⟨x,q,rfl⟩⟩;obtain⟨y,hy,e⟩:=Qk.mp q;cases e;exact hy
theorem Ac (nd:xs.Nodup) (e1:xs[i]?=some x) (e2:ls[i]?=some b):ba (fdK (au xs) ls) (Sum.inr x)=some (.ref b):=by
 refine eF (gt nd) (i:=i) ?_;have hz:((au xs).zip ls)[i]?=some (Sum.inr x,b):=List.getElem?_zip_eq_some.mpr ⟨cV.mpr ⟨x,e1,rfl⟩,e2⟩;unfold fdK;rw[Qh,hz];rfl
theorem v4 (h:ls.length=xs.length):fdK (au (xs++[x])) (ls++[b])=fdK (au xs) ls++[(Sum.inr x,.ref b)]:=by
 unfold fdK au;rw[Qr,List.zip_append (by rw[Qa];omega),Qr];rfl
section
end
theorem qG (ok:NetOk ins gs) (st:StOk (ap ins gs).length z) (ln:(Bf.bfs (nxK (stN ins gs)) (Sum.inr z) n).length=n):∃xs,Bf.bfs (nxK (stN ins gs)) (Sum.inr z) n=au xs/\xs.length=n/\Met ins gs z xs/\xs.length<=2048:=by
 have w11:(ap ins gs).length<=11:=by rw[bH];have:=ok.i4;have:=ok.g7;omega
 obtain⟨xs,exs⟩:=ph (ks:=Bf.bfs (nxK (stN ins gs)) (Sum.inr z) n) λk hk=>by
  obtain⟨y,e,_⟩:=fF st (Bf.cW n k hk);exact⟨y,e⟩
 have lxs:xs.length=n:=by rw[<-ln,exs];unfold au;rw[Qa]
 have met:Met ins gs z xs:=⟨by rw[lxs];exact exs.symm,λx hx=>by
  obtain⟨y,e,sy⟩:=fF st (Bf.cW n (Sum.inr x) (by rw[exs];exact Qk.mpr ⟨x,hx,rfl⟩));cases e
  exact sy⟩
 refine⟨xs,exs,lxs,met,?_⟩
 have:=fO w11 (xs:=au xs) (by rw[<-exs];exact Bf.cq n) λx hx=>by
  obtain⟨y,hy,rfl⟩:=Qk.mp hx;exact⟨y,rfl,met.st y hy⟩
 unfold au at this;rwa [Qa]at this
theorem wY {X:Cx} {K:PySem.W.Frag} (h:X.K=K) (hu:X.A.units+64<cLine):OpR X (compareOp .Eq) (qm K false):=by subst h;exact jQ hu
theorem Met.few (m:Met ins gs z xs) (ok:NetOk ins gs):xs.length<=2048:=by
 have w11:(ap ins gs).length<=11:=by rw[bH];have:=ok.i4;have:=ok.g7;omega
 have:=fO w11 (xs:=au xs) (by unfold au;exact List.Pairwise.map _ (λa b h zz=>h (Sum.inr.inj zz)) m.nd) λx hx=>by
  obtain⟨y,hy,rfl⟩:=Qk.mp hx;exact⟨y,rfl,m.st y hy⟩
 unfold au at this;rwa [Qa]at this
theorem vY (h:Rd H F (.dK (fdK (au xs) as))) (l:as.length=xs.length):Ak K H F xs:=.inr ⟨_,h,by rw[g_,Qt (by unfold au;rw[Qa];omega)];rfl⟩
theorem eL (h:Rd H F (.dK (fdK (au xs) as))) (nd:xs.Nodup) (e1:xs[i]?=some x) (e2:as[i]?=some b):cL H F (.str x) (some (.ref b)) :=
 .inl ⟨_,Sum.inr x,h,rfl,(Ac nd e1 e2).symm⟩
def dZ:Sp:=λvs H Q _=>∃(F:Addr) (xs:List Str) (as:List Addr) (cnt:Str->Nat),vs=[.ref F]/\Rd H F (.dK (fdK (au xs) as))/\as.length=xs.length/\xs.length<=2048/\xs.Nodup /\
 (∀(i:Nat) x b,xs[i]?=some x->as[i]?=some b->∃vs,H b=some (.lst vs)/\vs.length=cnt x)/\∀(p:Addr) (ss:List Str) (H':Hp),am H H'->H p=none->ss.Perm xs->ss.Pairwise leT->H' p=some (.lst ((ss.filter λh=>decide (cnt h=0)).map V.str))->Q (.ref p) H'
section
theorem oB:FnScope ["steps"] ["steps"] (aA (top 20)):=by walk_at "k"
theorem qw {f:Addr} {fd:FuncData} (Fu:Fun K "rests_in" "rests_in" (top 20) f fd) (T:Txt K mg TT):FnOk P w K mg base CX0 1 f fd ["steps"] dZ:=by
 have S:=oB;refine Fu.ok S (by walk_at "l") (λcdv A outer s H vs Q E hr h=>?_);obtain⟨F,xs,as,cnt,rfl,hF,las,few,nd,sts,k⟩:=h;have hu:=du hr;refine⟨_,(a8 (aE (dr (tgs:=["here"]) (cap:=[("steps", 0)]) rfl ⟨rfl,rfl,rfl,rfl,rfl,rfl⟩ (bu (aB (gz rfl) (by rfl) T.n_sorted PyProof.Rows.boot_sorted (aa (pv 0) ad ae))) (λ_ _ _ _=>(bj (i:=0) (show List.Nodup [("here" : Str),("steps" : Str)] by decide +kernel) rfl (by walk_at "z"))) (λ_ _ _ _=>(oQ (aG cA (aB (eQ (K:=K) rfl) (by rfl) T.n_len QH (aa (bC hu (pv 1) (pv 0) (λ_ _=>rfl)) ad)) af (aK _)))) (λ_ _ _ _=>(pv 0))))),?_⟩;walk_at "e";refine ca (bS (s_list (dL (aq (ai rfl (aI ⟨F,xs,rfl,vY hF las,by omega,λp ss hp pm so=>?_⟩))))));generalize hE:upd H p _=H1;obtain⟨S1,q1⟩:=aZ hp hE;clear hE;have lss:=pm.length_eq;refine⟨p,rfl,⟨_,SqL.of q1⟩,λL hL=>?_⟩;refine kn (xs:=ss.map V.str) (λm H' ys=>am H1 H'/\H' L=some (.lst ys)/\ys=((ss.take m).filter λh=>decide (cnt h=0)).map V.str) ⟨aj hL,ag,by simp⟩ (λm H' ys p=>⟨p.2.1,SqL.of (p.1 _ _ q1)⟩) (λm v H' ys e p=>?_) (λH' ys p=>?_)
 ·obtain⟨Sm,hd,rfl⟩:=p;rw[Qh]at e
  cases ex:ss[m]? with
  | none=>rw[ex]at e;cases e
  | some x =>
  rw[ex]at e;cases e;have hm:m<ss.length:=(Qe.mp ex).1;obtain⟨i,hi,exi⟩:=Qq.mp (pm.mem_iff.mp (Qi ex));have e1:xs[i]?=some x:=by rw[Qc hi,exi]
  obtain⟨b,e2⟩:∃b,as[i]?=some b:=⟨_,Qc (by omega)⟩;obtain⟨vs,hvs,lvs⟩:=sts i x b e1 e2;have S0m:=S1.trans Sm
  have hF':Rd H' F (.dK (fdK (au xs) as)):=by
   rcases hF with r|⟨o,r⟩
   ·exact .inl (S0m _ _ r)
   exact .inr ⟨o,S0m _ _ r⟩
  refine az ⟨by repeat' (first|exact trivial|refine⟨rfl,?_⟩),?_⟩;refine bi (br (dL (aq (i_dget (ai rfl (ai rfl ⟨F,_,rfl,eL hF' nd e1 e2,aI ⟨b,vs,rfl,.inl (SqL.of (S0m _ _ hvs)),i_c (i_eq rfl ⟨_,rfl,?_⟩)⟩⟩))))));have tk:(ss.take (m+1)).filter (λh=>decide (cnt h=0))=(ss.take m).filter (λh=>decide (cnt h=0))++[x].filter (λh=>decide (cnt h=0)):=by rw[QP,ex,List.filter_append];rfl
  by_cases c:cnt x=0
  ·refine ifT (by rw[lvs,c];rfl) ?_;refine ai rfl (bV.mk hd (by rw[Qa];exact hm) ?_ ⟨aQ Sm hL,ag,?_⟩)
   ·rw[Qa];have:=List.length_filter_le (λh=>decide (cnt h=0)) (ss.take m);rw[Qs]at this;omega
   rw[tk,Qr];simp[c]
  refine ifF (by rw[lvs];exact QU λz=>c (by injection z with z;omega)) ?_;rw[Qa];refine⟨ss.length-(m+1),by omega,rfl,by omega,Sm,hd,?_⟩;rw[tk];simp[c]
 obtain⟨Sm,hd,rfl⟩:=p;rw[Qa,Qt (Qg _)]at hd;exact k L ss H' (S1.trans Sm) (am.free S1 hL) pm so hd
end
def rB (K:PySem.W.Frag) (TL:Addr):Sp:=λvs H Q _=>∃(a:Addr) (ns:List Int),vs=[.ref a]/\SqL K H a (ns.map V.int)/\ns.length<=63/\gE TL fA H/\∀H',Q (.bl true) H'
theorem oq (ns:List Str):∀(j:Nat) x y,(ns.map V.str)[j]?=some x->(ns.map V.str)[j]?=some y->EqD K H n x y true:=lV (lT ns)
theorem o9 (h:NAt H a li lg ins gvs gs) (h':NAt H a' li' lg' ins gvs gs) :
  ∀(j:Nat) x y,[V.ref li',V.ref lg'][j]?=some x->[V.ref li,V.ref lg][j]?=some y->EqD K H 8 x y true:=λj x y e1 e2=>by
 match j with
 | 0=>cases e1;cases e2;exact pE (n:=7) (SqL.of h'.hi) (SqL.of h.hi) rfl (oq ins)
 | 1 =>
  cases e1;cases e2;refine pE (n:=7) (SqL.of h'.hg) (SqL.of h.hg) rfl (λj x y e1 e2=>?_);rw[e1]at e2;cases e2;obtain⟨b,rfl⟩:=kg h.gates x (Qi e1);exact .same
 | j+2=>simp at e1
theorem Tk.free (k:Tk T H H') (h:H' p=none):H p=none:=by
 cases e:H p with
 | none=>rfl
 | some u =>
 by_cases c:p=T
 ·obtain⟨ps,e2⟩:=yU k.tab;rw[c,e2]at h;cases h
 rw[k.old _ _ e c]at h;cases h
theorem Tk.upd {xs:List V} (k:Tk T H H') (hp:H p=none) (h':H' p=some (.lst xs)):Tk T H (L2.upd H' p o):=by
 refine⟨λb u e n=>by rw[ak (aD e hp)];exact k.old b u e n,?_⟩;rcases k.tab with e|⟨c,e,q⟩
 ·exact .inl (by rw[ak (λz=>by rw[z,h']at e;cases e)];exact e)
 exact .inr ⟨c,by rw[ak (λz=>by rw[z,h']at e;cases e)];exact e,by rw[ak (λz=>by rw[z,h']at q;cases q)];exact q⟩
section
end
inductive Run (ins:List Str) (gs:List (Str × Rl)):Str->List Str->Str->Prop where
 | nil {z:Str}:Run ins gs z [] z
 | cons {z y w:Str} {n:Str} {os:List Str}:(n,y)∈ao ins gs z->StOk (ap ins gs).length y->Run ins gs y os w->Run ins gs z (n::os) w
section
end
theorem jr {n:Str} (st:StOk (ap ins gs).length z) (h:(n,y)∈ao ins gs z):StOk (ap ins gs).length y:=by
 unfold ao at h;obtain⟨⟨g,p⟩,hm,e⟩:=List.mem_filterMap.mp h;have hp:=List.mem_zipIdx hm;have wl:(ap ins gs).length=ins.length+gs.length:=by unfold ap;rw[Qj,Qa]
 unfold cr at e
 split at e
 ·cases e
 cases e;exact rg st (by omega)
structure Wlk (ins:List Str) (gs:List (Str × Rl)) (z:Str) (os as:List Str):Prop where
 len:as.length=os.length+1
 hd:as[0]?=some z
 st:∀x∈as,StOk (ap ins gs).length x
 step:∀(k:Nat) x n y,as[k]?=some x->os[k]?=some n->as[k+1]?=some y->(n,y)∈ao ins gs x
section
end
theorem sv {st:Str->List (Str × Str)}:∀{xs:List Str} {x nm h:Str},hU (evs st xs) x=some (nm,h)->∃b:Nat,xs[b]?=some h/\(nm,x)∈st h/\∀(c:Nat) g,c<b->xs[c]?=some g->∀p∈st g,p.2≠x
 | [],x,nm,h,e=>by cases e
 | x0::xs,x,nm,h,e=>by
  have split:evs st (x0::xs)=((st x0).map λp=>(p.2,(p.1,x0)))++evs st xs:=rfl;unfold hU at e;rw[split,List.find?_append]at e
  cases q:((st x0).map λp=>(p.2,(p.1,x0))).find? λe=>e.1==x with
  | some r =>
   rw[q]at e;have hm:=List.mem_of_find?_eq_some q;have hx:=List.find?_some q;obtain⟨p',hp,rfl⟩:=Qk.mp hm;cases e;have hx:p'.2=x:=by simpa using hx
   exact⟨0,rfl,by rw[<-hx];exact hp,λc g l=>by omega⟩
  | none =>
  rw[q,Option.none_or]at e;obtain⟨b,h1,h2,h3⟩:=sv (xs:=xs) (x:=x) (nm:=nm) (h:=h) e;refine⟨b+1,by simpa using h1,h2,λc g l e2 p hp z=>?_⟩
  cases c with
  | zero =>
   simp at e2;subst e2;have:=List.find?_eq_none.mp q (p.2,(p.1,x0)) (Qk.mpr ⟨p,hp,rfl⟩);simp[z]at this
  | succ c=>exact h3 c g (by omega) (by simpa using e2) p hp z
section
theorem Run.snoc {x y w n:Str} {os:List Str} (r:Run ins gs x os y) (s:(n,w)∈ao ins gs y) (st:StOk (ap ins gs).length w):Run ins gs x (os++[n]) w:=by
 induction r with
 | nil=>exact .cons s st .nil
 | cons a b _ ih=>exact .cons a b (ih s)
theorem Met.run (m:Met ins gs z xs) {y:Str} {ns:List Str} (p:Path (ao ins gs) xs z y ns):y∈xs/\Run ins gs z ns y:=by
 induction p with
 | nil=>exact⟨Qi m.zero,.nil⟩
 | snoc ne c p ih =>
 obtain⟨b,hb,hs,_⟩:=sv c;have hm:=m.closed (Qi hb) hs;exact⟨hm,ih.2.snoc hs (m.st _ hm)⟩
end
def di (ins:List Str) (gs:List (Str × Rl)) (z:Str) (n:Nat):Prop:=(∀os y,Run ins gs z os y->os.length<=n)/\∃os y,Run ins gs z os y/\os.length=n
def nxS (ins:List Str) (gs:List (Str × Rl)) (h:Str):List Str:=(ao ins gs h).map (·.2)
def ahL (es:List (Str × (Str × Str))) (x:Str):List Str:=(es.filter λe=>e.1==x).map (·.2.2)
theorem gB (a b:List (Str × (Str × Str))) (x:Str):ahL (a++b) x=ahL a x++ahL b x:=by unfold ahL;rw[List.filter_append,Qr]
theorem sF (y x:Str):∀ps:List (Str × Str),ahL (ps.map λp=>(p.2,(p.1,y))) x=List.replicate ((ps.map (·.2)).count x) y
 | []=>rfl
 | p::ps=>by
  rw[QI,QI,List.count_cons,show ((p.2,p.1,y)::ps.map λp=>(p.2,p.1,y))=[(p.2,p.1,y)]++ps.map λp=>(p.2,p.1,y) from rfl,gB,sF y x ps];by_cases c:p.2=x
  ·rw[QF (by simpa using c),List.replicate_succ];unfold ahL;simp[c]
  rw[QB (by simpa using c)];unfold ahL;simp[c]
theorem sG {b:Str} (h:b∈ahL (evs st xs) x):b∈xs/\x∈(st b).map (·.2):=by
 unfold ahL evs at h;obtain⟨e,he,rfl⟩:=Qk.mp h;obtain⟨h1,h2⟩:=List.mem_filter.mp he;obtain⟨y,hy,h3⟩:=List.mem_flatMap.mp h1;obtain⟨p,hp,rfl⟩:=Qk.mp h3;exact⟨hy,Qk.mpr ⟨p,hp,by simpa using h2⟩⟩
theorem iG {st:Str->List (Str × Str)} {x h:Str}:∀{xs:List Str},xs.Nodup->h∈xs->(ahL (evs st xs) x).count h=((st h).map (·.2)).count x
 | [],_,m=>nomatch m
 | y::xs,nd,m=>by
  rw[Q5]at nd;have e:evs st (y::xs)=((st y).map λp=>(p.2,(p.1,y)))++evs st xs:=by unfold evs;rw[List.flatMap_cons]
  rw[e,gB,sF,List.count_append,List.count_replicate];by_cases c:y=h
  ·subst c;rw[QF (by simp),List.count_eq_zero_of_not_mem (λq=>nd.1 (sG q).1),Nat.add_zero]
  rw[QB (by simpa using c),Nat.zero_add];exact iG nd.2 ((QV.mp m).resolve_left λz=>c z.symm)
def cP (ws l:List Str):Nat:=l.countP λx=>decide (x∈ws)
theorem nG {ws:List Str} {w:Str} (h:w∉ws):∀l,cP (ws++[w]) l=cP ws l+l.count w
 | []=>rfl
 | x::l=>by
  have ih:=nG h l;unfold cP at ih ⊢;rw[List.countP_cons,List.countP_cons,List.count_cons,ih];by_cases c:x=w
  ·subst c;simp[h];omega
  simp[c];omega
theorem Do (ws l:List Str):cP ws l<=l.length:=List.countP_le_length
theorem Ae {ws l:List Str} (h:cP ws l=l.length):∀x∈l,x∈ws:=λx hx=>by simpa using List.countP_eq_length.mp h x hx
section
variable {h b:Str}
theorem di.rest (e:ao ins gs h=[]):di ins gs h 0:=by
 refine⟨λos y r=>?_,[],h,.nil,rfl⟩
 cases r with
 | nil=>exact Qg _
 | cons m _ _=>rw[e]at m;cases m
variable {n a:Nat}
theorem di.up (st:StOk (ap ins gs).length h) (all:∀p∈ao ins gs h,∃m,m<=n/\di ins gs p.2 m) (one:∃p∈ao ins gs h,di ins gs p.2 n):di ins gs h (n+1):=by
 refine⟨λos y r=>?_,?_⟩
 ·cases r with
  | nil=>exact QN _
  | @cons _ y _ nm os m _ r =>
   obtain⟨k,hk,l⟩:=all _ m;have:=l.1 _ _ r;rw[QQ];omega
 obtain⟨p,hp,_,os,y,r,e⟩:=one;exact⟨p.1::os,y,.cons hp (jr st hp) r,by rw[QQ,e]⟩
theorem di.at (l:di ins gs h n) (st:StOk (ap ins gs).length h) {p:Str × Str} (hp:p∈ao ins gs h):∀os y,Run ins gs p.2 os y->os.length+1<=n:=λos y r=>by
 have:=l.1 (p.1::os) y (.cons hp (jr st hp) r);simpa using this
structure NumOk (ins:List Str) (gs:List (Str × Rl)) (xs:List Str) (ps:List (Str × Nat)):Prop where
 nd:(ps.map (·.1)).Nodup
 sub:∀p∈ps,p.1∈xs
 long:∀p∈ps,di ins gs p.1 p.2
 out:∀h∈xs,h∉ps.map (·.1)->∃p∈ao ins gs h,p.2∉ps.map (·.1)
structure Cnt (ins:List Str) (gs:List (Str × Rl)) (xs:List Str) (ps:List (Str × Nat)) (a:Nat) (tk:List Str) (lf:Str->Int):Prop where
 nd:(ps.map (·.1)).Nodup
 sub:∀p∈ps,p.1∈xs
 mono:∀(i j:Nat) p q,i<=j->ps[i]?=some p->ps[j]?=some q->p.2<=q.2
 near:∀(i:Nat) p q,a<=i->ps[i]?=some p->q∈ps->q.2<=p.2+1
 long:∀p∈ps,di ins gs p.1 p.2
 val:∀h∈xs,lf h=((nxS ins gs h).length:Int)-cP ((ps.take a).map (·.1)) (nxS ins gs h)-tk.count h
 zero:∀h∈xs,lf h=0↔h∈ps.map (·.1)
variable {rs tk tl:List Str}
theorem Cnt.start (nd:rs.Nodup) (h:∀x,x∈rs↔x∈xs/\ao ins gs x=[]):Cnt ins gs xs (rs.map λx=>(x,0)) 0 [] λx=>((ao ins gs x).length:Int):=by
 have e:(rs.map λx=>(x,0)).map (·.1)=rs:=by rw[QW];exact List.map_id _
 have z0:∀p∈rs.map λx=>((x,0):Str × Nat),p.2=0/\p.1∈rs:=λp hp=>by
  obtain⟨x,hx,rfl⟩:=Qk.mp hp;exact⟨rfl,hx⟩
 refine⟨by rw[e];exact nd,λp hp=>((h _).mp (z0 p hp).2).1,λi j p q _ hp hq=>?_,λi p q _ hp hq=>?_,λp hp=>?_,λx hx=>?_,λx hx=>?_⟩
 ·rw[(z0 p (Qi hp)).1];exact QN _
 ·rw[(z0 q hq).1];exact QN _
 ·rw[(z0 p hp).1];exact .rest ((h _).mp (z0 p hp).2).2
 ·unfold nxS cP;rw[Qa];simp
 rw[e,h];show ((ao ins gs x).length:Int)=0↔_;rw[<-Xr];exact⟨λq=>⟨hx,by omega⟩,λq=>by omega⟩
variable {lf:Str->Int} {ps:List (Str × Nat)}
theorem Cnt.few (c:Cnt ins gs xs ps a tk lf):ps.length<=xs.length:=by
 have:=Bf.pigeon (ps.map (·.1)) xs c.nd λx hx=>by
  obtain⟨p,hp,rfl⟩:=Qk.mp hx;exact c.sub p hp
 rwa [Qa]at this
theorem Cnt.go (m:Met ins gs z xs) (c:Cnt ins gs xs ps a tk lf) {here:Str × Nat} (e:ps[a]?=some here) (full:ahL (evs (ao ins gs) xs) here.1=tk++b::tl) :
  b∈xs/\b∉ps.map (·.1)/\(lf b-1=0->Cnt ins gs xs (ps++[(b,here.2+1)]) a (tk++[b]) λx=>if x=b then lf b-1 else lf x)/\(lf b-1≠0->Cnt ins gs xs ps a (tk++[b]) λx=>if x=b then lf b-1 else lf x):=by
 obtain⟨hb,hin⟩:=sG (show b∈ahL (evs (ao ins gs) xs) here.1 by rw[full];simp);have hc:=iG (st:=ao ins gs) (x:=here.1) m.nd hb;rw[full,List.count_append,List.count_cons]at hc;simp only[beq_self_eq_true,if_true]at hc;have ha:a<ps.length:=(Qe.mp e).1
 have hout:here.1∉(ps.take a).map (·.1):=λq=>by
  obtain⟨i,hi,ei⟩:=Qq.mp q;rw[Qa,Qs]at hi;rw[List.getElem_map,List.getElem_take]at ei;have nd:=c.nd;have:=(List.getElem_inj (i:=i) (j:=a) (h₀:=by rw[Qa];omega) (h₁:=by rw[Qa];exact ha) nd).mp (by rw[List.getElem_map,List.getElem_map,ei,(Qe.mp e).2]);omega
 have hsn:=nG hout (nxS ins gs b);have hle:=Do ((ps.take a).map (·.1)++[here.1]) (nxS ins gs b);have hl:=c.val b hb;have hnx:((ao ins gs b).map (·.2))=nxS ins gs b:=rfl;rw[hnx]at hc;have lfb:1<=lf b:=by omega
 have bout:b∉ps.map (·.1):=λq=>by
  have:=(c.zero b hb).mpr q;omega
 have lfs:∀(qs:List (Str × Nat)),(qs.take a).map (·.1)=(ps.take a).map (·.1)->∀h∈xs,(if h=b then lf b-1 else lf h)=((nxS ins gs h).length:Int)-cP ((qs.take a).map (·.1)) (nxS ins gs h)-(tk++[b]).count h:=λqs eq h hh=>by
  rw[eq,List.count_append,List.count_singleton];by_cases cb:h=b
  ·subst cb;rw[QF rfl,hl];simp;omega
  rw[QB cb,c.val h hh,QB (by simpa using λz=>cb z.symm)];simp
 refine⟨hb,bout,λz0=>?_,λz0=>?_⟩
 ·have et:((ps++[(b,here.2+1)]).take a).map (·.1)=(ps.take a).map (·.1):=by rw[List.take_append_of_le_length (by omega)]
  have hq2:∀q∈ps,q.2<=here.2+1:=λq hq=>c.near a here q (Qg _) e hq
  have ge:∀(i:Nat) p,(ps++[(b,here.2+1)])[i]?=some p->(ps[i]?=some p)\/(i=ps.length/\p=(b,here.2+1)):=λi p hp=>by
   by_cases ci:i<ps.length
   ·rw[QG ci]at hp;exact .inl hp
   rw[QE (by omega)]at hp
   have:i-ps.length=0:=by
    have:=(Qe.mp hp).1;simp at this;omega
   rw[this]at hp;cases hp;exact .inr ⟨by omega,rfl⟩
  have mem:∀q,q∈ps++[(b,here.2+1)]->q∈ps\/q=(b,here.2+1):=λq hq=>(Qv.mp hq).imp id QA.mp
  have lb:di ins gs b (here.2+1):=by
   refine .up (m.st b hb) (λp hp=>?_) ?_
   ·have all:=Ae (ws:=(ps.take a).map (·.1)++[here.1]) (l:=nxS ins gs b) (by omega) p.2 (Qk.mpr ⟨p,hp,rfl⟩);rcases Qv.mp all with q|q
    ·obtain⟨r,hr,er⟩:=Qk.mp q;obtain⟨i,hi⟩:=List.mem_iff_getElem?.mp hr
     have hia:i<a:=by
      have:=(Qe.mp hi).1;rw[Qs]at this;omega
     rw[List.getElem?_take_of_lt hia]at hi;exact⟨r.2,c.mono i a r here (by omega) hi e,by rw[<-er];exact c.long r (Qi hi)⟩
    rw[QA]at q;exact⟨here.2,Qg _,by rw[q];exact c.long here (Qi e)⟩
   obtain⟨p,hp,ep⟩:=Qk.mp hin;exact⟨p,hp,by rw[ep];exact c.long here (Qi e)⟩
  refine⟨?_,λq hq=>?_,λi j p q hij hp hq=>?_,λi p q hi hp hq=>?_,λq hq=>?_,lfs _ et,λh hh=>?_⟩
  ·rw[Qr]
   exact Xy.mpr ⟨c.nd,by simp,λx hx y hy z=>by
    have:y=b:=by simpa using hy
    exact bout (by rw[<-this,<-z];exact hx)⟩
  ·rcases mem q hq with q'|rfl
   ·exact c.sub q q'
   exact hb
  ·rcases ge i p hp with hp|⟨hp1,rfl⟩
   ·rcases ge j q hq with hq|⟨hq1,rfl⟩
    ·exact c.mono i j p q hij hp hq
    exact hq2 p (Qi hp)
   rcases ge j q hq with hq|⟨hq1,rfl⟩
   ·have:=(Qe.mp hq).1;omega
   exact Qg _
  ·rcases ge i p hp with hp|⟨hp1,rfl⟩
   ·have hm:=c.mono a i here p hi e hp;rcases mem q hq with q'|rfl
    ·exact c.near i p q hi hp q'
    show here.2+1<=p.2+1;omega
   rcases mem q hq with q'|rfl
   ·have:=hq2 q q';show q.2<=here.2+1+1;omega
   show here.2+1<=here.2+1+1;omega
  ·rcases mem q hq with q'|rfl
   ·exact c.long q q'
   exact lb
  rw[Qr,Qv];by_cases cb:h=b
  ·subst cb;rw[QF rfl];exact⟨λ_=>.inr (by simp),λ_=>z0⟩
  rw[QB cb,c.zero h hh];exact⟨.inl,λq=>q.resolve_right λy=>cb (by simpa using y)⟩
 refine⟨c.nd,c.sub,c.mono,c.near,c.long,lfs _ rfl,λh hh=>?_⟩;by_cases cb:h=b
 ·subst cb;rw[QF rfl];exact⟨λq=>absurd q z0,λq=>absurd q bout⟩
 rw[QB cb];exact c.zero h hh
theorem Cnt.turn (m:Met ins gs z xs) {here:Str × Nat} (e:ps[a]?=some here) (c:Cnt ins gs xs ps a (ahL (evs (ao ins gs) xs) here.1) lf):Cnt ins gs xs ps (a+1) [] lf:=by
 have ha:a<ps.length:=(Qe.mp e).1;have et:(ps.take (a+1)).map (·.1)=(ps.take a).map (·.1)++[here.1]:=by rw[QP,e,Qr];rfl
 have hout:here.1∉(ps.take a).map (·.1):=λq=>by
  have nd:=c.nd;rw[<-QZ (a+1) ps,Qr]at nd;have nd:=(Xy.mp nd).1;rw[et]at nd;exact(Xy.mp nd).2.2 _ q _ (by simp) rfl
 refine⟨c.nd,c.sub,c.mono,λi p q hi hp hq=>c.near i p q (by omega) hp hq,c.long,λh hh=>?_,c.zero⟩;rw[c.val h hh,et,nG hout,iG m.nd hh];show _=_-((cP _ _+(nxS ins gs h).count here.1:Nat):Int)-_;rw[show ((ao ins gs h).map (·.2))=nxS ins gs h from rfl];simp;omega
theorem Cnt.fin (c:Cnt ins gs xs ps a [] lf) (e:ps.length<=a):NumOk ins gs xs ps:=by
 refine⟨c.nd,c.sub,c.long,λh hh ho=>?_⟩;have n0:lf h≠0:=λz=>ho ((c.zero h hh).mp z);have hl:=c.val h hh;rw[Qt e]at hl;simp at hl;by_cases ex:∃p∈ao ins gs h,p.2∉ps.map (·.1)
 ·exact ex
 refine absurd ?_ n0
 have:cP (ps.map (·.1)) (nxS ins gs h)=(nxS ins gs h).length:=List.countP_eq_length.mpr λx hx=>by
  obtain⟨p,hp,rfl⟩:=Qk.mp hx;exact Q7 (Decidable.byContradiction λq=>ex ⟨p,hp,q⟩)
 rw[hl,this];omega
end
theorem vS {t:TE} (r:Rd H a u) (f:Fz u) (q:∀o,t σ (upd H a (.frz o u)) λv H'=>H' a=some (.frz o u)/\Q v (back H a H')):xS t σ H Q:=⟨a,u,r,f,q⟩
theorem iC {ta:TA} (q:ta σ H λvs H1=>∃l xs ps,vs=[.ref l]/\SqL K H1 l xs/\xs.length<10000/\Paired (pN H1) xs ps/\∀d,H1 d=none->Q (.ref d) (upd H1 d (.dK (bw [] (cN ps))))):rn K ta σ H Q:=q
theorem y_ {td ty tv:TE} {rd:V->V->Hp->VK->Prop} {D:Ends} (q:td σ H λx H1=>ty σ H1 λy H2=>∃a v,x=.ref a/\cL H2 a y (some v)/\tv σ H2 λy2 H3=>rd v y2 H3 λz H4=>∃H5,hX H4 a y z H5/\D.nx σ H5):xZ td ty tv rd D σ H:=q
def SD (H:Hp) (F:Addr) (ins:List Str) (gs:List (Str × Rl)) (xs:List Str):Prop:=∃as:List Addr,Rd H F (.dK (fdK (au xs) as))/\as.length=xs.length/\∀(i:Nat) x b,xs[i]?=some x->as[i]?=some b->bo H b (cM (ao ins gs x))
theorem mW (S:am H H') (r:Rd H a u):Rd H' a u:=by
 rcases r with r|⟨o,r⟩
 ·exact .inl (S _ _ r)
 exact .inr ⟨o,S _ _ r⟩
variable {H H':Hp} {F:Addr} {ins:List Str} {gs:List (Str × Rl)} {xs:List Str}
section
theorem SD.same (S:am H H') (h:SD H F ins gs xs):SD H' F ins gs xs:=let ⟨as,r,l,s⟩:=h;⟨as,mW S r,l,λi x b e1 e2=>(s i x b e1 e2).same S⟩
variable {kvs:List (Key × V)}
theorem gO (r:Rd H F (.dK kvs)) {b:Addr} {o:HO} (e:H b=some o) (n1:∀k,o≠.dK k) (n2:∀ob u,o≠.frz ob u):b≠F:=λz=>by
 rcases r with r|⟨ob,r⟩
 ·rw[z,r]at e;exact n1 _ (Q2 e).symm
 rw[z,r]at e;exact n2 _ _ (Q2 e).symm
theorem lH {o:Obj} (r:Rd H F (.dK kvs)) {b:Addr} {sts:List (V × Key)} (h:bo H b sts):bo (upd H F (.frz o (.dK kvs))) b sts:=by
 obtain⟨vs,h1,h2⟩:=h;refine⟨vs,by rw[ak (gO r h1 (λ_ z=>nomatch z) λ_ _ z=>nomatch z)];exact h1,bK (λv s ⟨c,ec,q⟩=>⟨c,ec,?_⟩) h2⟩;rw[ak (gO r q (λ_ z=>nomatch z) λ_ _ z=>nomatch z)];exact q
theorem dE {o:Obj} {u:HO} (r:Rd H F u) (S:am (upd H F (.frz o u)) H'):am H (back H F H'):=λb w e=>by
 by_cases c:b=F
 ·subst c;rw[f_];exact e
 rw[bM c];exact S _ _ (by rw[ak c];exact e)
end
theorem eS {α β:Type} {R:α->β->Prop}:∀{as:List α} {bs:List β},as.length=bs.length->(∀(i:Nat) a b,as[i]?=some a->bs[i]?=some b->R a b)->Paired R as bs
 | [],[],_,_=>.nil
 | [],_::_,h,_=>by simp at h
 | _::_,[],h,_=>by simp at h
 | a::as,b::bs,h,f=>.cons (f 0 a b rfl rfl) (eS (by simpa using h) λi x y e1 e2=>f (i+1) x y (by simpa using e1) (by simpa using e2))
theorem fZ:∀(ps acc:List (Key × V)),(ps.map (·.1)).Nodup->(∀p∈ps,ba acc p.1=none)->bw acc ps=acc++ps
 | [],acc,_,_=>by rw[XJ];rfl
 | p::ps,acc,nd,h=>by
  rw[QI,Q5]at nd;show bw (cg acc p.1 p.2) ps=_;rw[d_ _ (h p (by simp)),fZ ps _ nd.2 (λq hq=>?_),Xb]
  ·rfl
  have h1:=cS.mp (h q (Qw _ hq));refine cS.mpr λz=>?_;rw[Qr]at z;rcases Qv.mp z with z|z
  ·exact h1 z
  have:q.1=p.1:=by simpa using z
  exact nd.1 (by rw[<-this];exact Qk.mpr ⟨q,hq,rfl⟩)
theorem vZ (xs:List Str) (bs:List Addr):cN ((xs.zip bs).map λp=>(p.1,V.ref p.2))=fdK (au xs) bs:=by
 unfold cN fdK au;rw[List.zip_map_left,QW,QW];rfl
theorem Ab {bs:List Addr} (nd:xs.Nodup):bw [] (cN ((xs.zip bs).map λp=>(p.1,V.ref p.2)))=fdK (au xs) bs:=by
 rw[vZ,fZ _ _ (gt nd) (λ_ _=>rfl),List.nil_append]
def mJ:Sp:=λvs H Q _=>∃(F:Addr) (ins:List Str) (gs:List (Str × Rl)) (xs:List Str),vs=[.ref F]/\SD H F ins gs xs/\xs.Nodup/\xs.length<=2048/\(∀h∈xs,∀p∈ao ins gs h,p.2∈xs)/\gs.length<=7 /\
 ∀(A:Addr) (bs:List Addr) (H':Hp),am H H'->H A=none->H' A=some (.dK (fdK (au xs) bs))->bs.length=xs.length->(∀(i:Nat) x b,xs[i]?=some x->bs[i]?=some b->H b=none/\H' b=some (.lst ((ahL (evs (ao ins gs) xs) x).map V.str)))->Q (.ref A) H'
theorem xA {ins:List Str} (g7:gs.length<=7):∀ys:List Str,(evs (ao ins gs) ys).length<=7*ys.length:=λys=>by
 unfold evs
 induction ys with
 | nil=>simp
 | cons y ys ih =>
 rw[List.flatMap_cons,Qj,Qa,QQ];have:=d8 ins gs y;omega
theorem xH (es:List (Str × (Str × Str))) (x:Str):(ahL es x).length<=es.length:=by unfold ahL;rw[Qa];exact List.length_filter_le _ _
theorem wx (es:List (Str × (Str × Str))) (y n h x:Str):ahL (es++[(y,(n,h))]) x=if x=y then ahL es x++[h] else ahL es x:=by
 rw[gB];by_cases c:x=y
 ·subst c;rw[QF rfl];congr 1;unfold ahL;simp
 rw[QB c];have:ahL [(y,n,h)] x=[]:=by unfold ahL;simp;exact λz=>c z.symm
 rw[this,XJ]
section
theorem gq:FnScope ["found", "ahead", "here", "step"] ["found"] (aA (top 25)):=by walk_at "k"
theorem vz {f:Addr} {fd:FuncData} (Fu:Fun K "standings_ahead" "standings_ahead" (top 25) f fd) (T:Txt K mg TT):FnOk P w K mg base CX0 1 f fd ["found"] mJ:=by
 have S:=gq;refine Fu.ok S (by walk_at "l") (λcdv A outer s H vs Q E hr h=>?_);obtain⟨F,ins,gs,xs,rfl,sd,nd,few,cl,g7,k⟩:=h;have hu:=du hr;refine'⟨?_,?bb,?_⟩
 case bb =>
  walk_at "b";exact aF 1 S.nd (d5 rfl (by rfl) T.n_dict (aa (qq (dr (tgs:=["here"]) (cap:=[]) rfl ⟨rfl,rfl,rfl,rfl,rfl,rfl⟩ (ed (pv 0)) (λ_ _ _ _=>(bj (i:=0) (show List.Nodup [("here" : Str)] by decide +kernel) rfl (by walk_at "z"))) (λ_ _ _ _=>bq) (λ_ _ _ _=>(bh (aa (pv 0) (aa (bx ad) ad se_lst) ae))))) ad));refine' nc ?_;rotate_left 1;walk_at "f";exact(ed (pv 0));exact(bQ 2 S.nd);walk_at "p";walk_at "f";exact(bu (bC hu (pv 0) (pv 2) (λ_ _=>rfl)));exact(bQ 3 S.nd);walk_at "p";exact(bI (dI QM QR QS bp (bC hu (pv 1) (aC aU (pv 3) af (λ_ _=>rfl)) (λ_ _=>rfl)) (aa (pv 2) ad ae)));exact(aE (pv 1))
 walk_at "e";obtain⟨as,r,las,sts⟩:=id sd;have lk:(fdK (au xs) as).length=xs.length:=by unfold fdK au;simp[las]
 walk_at "s";refine ce (iC (aq (vS r trivial λo=>?_)));have hF2:upd H F (.frz o (.dK (fdK (au xs) as))) F=some (.frz o (.dK (fdK (au xs) as))):=ag;have bk:∀{H':Hp},am (upd H F (.frz o (.dK (fdK (au xs) as)))) H'->am H (back H F H'):=λS=>dE r S
 have fr2:∀{b},upd H F (.frz o (.dK (fdK (au xs) as))) b=none->H b=none:=λ{b} e=>by
  by_cases c:b=F
  ·rw[c,hF2]at e;cases e
  rw[ak c]at e;exact e
 generalize upd H F (.frz o (.dK (fdK (au xs) as)))=H2 at *;refine bS (fg (ai rfl ⟨F,o,_,rfl,hF2,λL hL=>?_⟩));let I25:IvC:=λm H' ys=>∃bs ts:List Addr,bs.length=m/\ts.length=m/\ys=ts.map V.ref/\am H2 H'/\H' L=some (.lst ys)/\bs.Nodup/\(∀b∈bs,H2 b=none/\b≠L/\H' b=some (.lst []))/\∀(i:Nat) t x b,ts[i]?=some t->xs[i]?=some x->bs[i]?=some b->H' t=some (.tup [.str x,.ref b])
 refine iE I25
  ⟨[],[],rfl,rfl,rfl,aj hL,ag,by simp,λb hb=>(nomatch hb),λi t x b e=>(nomatch e)⟩ (λm H' ys ⟨bs,ts,p⟩=>⟨p.2.2.2.2.1,p.2.2.2.1 _ _ hF2⟩) (λm k' v H' ys e p=>?_) (λH' ys p=>?_)
 ·obtain⟨bs,ts,lb,lt,rfl,Sm,hd,ndb,hbs,hts⟩:=p;obtain⟨x,b0,e1,e2,rfl,rfl⟩:=ki e;have hm:m<xs.length:=(Qe.mp e1).1;refine az ⟨by repeat' (first|exact trivial|refine⟨rfl,?_⟩),i_yes (bX ?_)⟩;refine i_tup (aq (ai rfl (aq (i_lst (aI ⟨by simp[sizeLine],λb hb=>aI ⟨by simp[sizeLine],λt ht=>?_⟩⟩)))));have S3:am H' (upd H' b (.lst [])):=aj hb;have S4:am (upd H' b (.lst [])) (upd (upd H' b (.lst [])) t (.tup [kV (Sum.inr x),.ref b])):=aj ht;have b4:upd (upd H' b (.lst [])) t (.tup [kV (Sum.inr x),.ref b]) b=some (.lst []):=S4 _ _ ag;have t4:upd (upd H' b (.lst [])) t (.tup [kV (Sum.inr x),.ref b]) t=some (.tup [.str x,.ref b]):=ag;have tL:t≠L:=λz=>by rw[z,S3 _ _ hd]at ht;cases ht
  have bL:b≠L:=λz=>by rw[z,hd]at hb;cases hb
  have S34:=S3.trans S4;generalize upd (upd H' b (.lst [])) t (.tup [kV (Sum.inr x),.ref b])=H4 at *;have hL4:=S34 _ _ hd;refine bV.mk hL4 (by rw[lk];exact hm) (by rw[Qa];omega) ⟨bs++[b],ts++[t],by simp[lb],by simp[lt],by simp,aQ (Sm.trans S34) hL,ag,?_,λc hc=>?_,λi t' x' b' h1 h2 h3=>?_⟩
  ·refine Xy.mpr ⟨ndb,by simp,λc hc y hy z=>?_⟩;have:y=b:=by simpa using hy
   have:=(hbs c hc).2.2;rw[z,‹y=b›,hb]at this;cases this
  ·rcases Qv.mp hc with hc|hc
   ·obtain⟨q1,q2,q3⟩:=hbs c hc;exact⟨q1,q2,by rw[ak q2];exact S34 _ _ q3⟩
   rw[QA]at hc;subst hc;exact⟨am.free Sm hb,bL,by rw[ak bL];exact b4⟩
  by_cases ci:i<m
  ·rw[QG (by omega)]at h1 h3;have q:=hts i t' x' b' h1 h2 h3;rw[ak (λz=>by rw[z,hd]at q;cases q)];exact S34 _ _ q
  rw[QE (by omega)]at h1 h3
  have ei:i=m:=by
   have:=(Qe.mp h1).1;simp at this;omega
  subst ei;rw[lt,Nat.sub_self]at h1;rw[lb,Nat.sub_self]at h3;rw[e1]at h2;cases h1;cases h2;cases h3;rw[ak tL];exact t4
 rw[lk]at p;obtain⟨bs,ts,lb,lt,rfl,Sm,hd,ndb,hbs,hts⟩:=p;refine⟨Sm _ _ hF2,aI ?_⟩;have LF:L≠F:=λz=>by rw[z,hF2]at hL;cases hL
 have bkx:∀{b u},H' b=some u->b≠F->back H F H' b=some u:=λe n=>by rw[bM n];exact e
 have SB:=bk Sm;have hbF:∀b∈bs,b≠F:=λb hb z=>by have:=(hbs b hb).1;rw[z,hF2]at this;cases this
 have hb0:∀b∈bs,H b=none:=λb hb=>fr2 (hbs b hb).1;have hb3:∀b∈bs,back H F H' b=some (.lst []):=λb hb=>bkx (hbs b hb).2.2 (hbF b hb);refine⟨L,ts.map V.ref,(xs.zip bs).map λp=>(p.1,V.ref p.2),rfl,SqL.of (bkx hd LF),by rw[Qa];omega,?_,λd hd3=>?_⟩
 ·refine eS (by simp[lt,lb]) λi v p e1 e2=>?_;rw[Qh]at e1 e2
  cases q1:ts[i]? with
  | none=>rw[q1]at e1;cases e1
  | some t =>
  rw[q1]at e1;cases e1
  cases q2:(xs.zip bs)[i]? with
  | none=>rw[q2]at e2;cases e2
  | some xb =>
  rw[q2]at e2;cases e2;obtain⟨a1,a2⟩:=List.getElem?_zip_eq_some.mp q2;have q:=hts i t xb.1 xb.2 q1 a1 a2;exact⟨t,rfl,bkx q λz=>by rw[z,Sm _ _ hF2]at q;cases q⟩
 rw[Ab nd];refine az ?_;generalize hE:upd (back H F H') d _=H3;obtain⟨S3,q3⟩:=aZ hd3 hE;clear hE;have SH3:=SB.trans S3;have d0:H d=none:=am.free SB hd3;have hb4:∀b∈bs,H3 b=some (.lst []):=λb hb=>S3 _ _ (hb3 b hb);have r3:=mW SH3 r;have sts3:∀(i:Nat) h b,xs[i]?=some h->as[i]?=some b->bo H3 b (cM (ao ins gs h)):=λi h b e1 e2=>(sts i h b e1 e2).same SH3
 have asb:∀(i:Nat) h b,xs[i]?=some h->as[i]?=some b->b∉bs:=λi h b e1 e2 hb=>by
  obtain⟨vs,q,_⟩:=sts i h b e1 e2;rw[hb0 b hb]at q;cases q
 clear hbs hts hd hb3;walk_at "s";refine rD (a:=F) (u:=.dK (fdK (au xs) as)) r3 trivial λob=>?_;have sts4:∀(i:Nat) h b,xs[i]?=some h->as[i]?=some b->bo (upd H3 F (.frz ob (.dK (fdK (au xs) as)))) b (cM (ao ins gs h)):=λi h b e1 e2=>lH r3 (sts3 i h b e1 e2);have h4:∀b,b≠F->upd H3 F (.frz ob (.dK (fdK (au xs) as))) b=H3 b:=λb n=>ak n;have hF4:upd H3 F (.frz ob (.dK (fdK (au xs) as))) F=some (.frz ob (.dK (fdK (au xs) as))):=ag
 have dF:d≠F:=λz=>by
  obtain⟨u,hu⟩:=i_ r;rw[z,hu]at d0;cases d0
 generalize upd H3 F (.frz ob (.dK (fdK (au xs) as)))=H4 at *;have hd4:H4 d=some (.dK (fdK (au xs) bs)):=by rw[h4 d dF];exact q3
 have Fb:F∉bs:=λhb=>hbF F hb rfl;have db:d∉bs:=λhb=>by rw[hb4 d hb]at q3;cases q3
 let AH:=λ(H':Hp) (es:List (Str × (Str × Str)))=>∀(i:Nat) x b,xs[i]?=some x->bs[i]?=some b->H' b=some (.lst ((ahL es x).map V.str));refine s_for (fg (ai rfl ⟨F,ob,_,rfl,hF4,?_⟩));let I26:IvF:=λj σ' H'=>∃(x2 x3:Option V),σ'=[some (.ref F),some (.ref d),x2,x3]/\(∀b u,H4 b=some u->b∉bs->H' b=some u)/\AH H' (evs (ao ins gs) (xs.take j))
 refine gY I26
  ⟨_,_,rfl,λb u e _=>e,λi x b _ e2=>by rw[h4 b (hbF b (Qi e2))];exact hb4 b (Qi e2)⟩ (λj σ' H' _ pv=>?_) (λj ky vl σ' H' hj pv=>?_) (λσ' H' pv=>?_)
 ·obtain⟨_,_,_,o2,_⟩:=pv;exact o2 F _ hF4 Fb
 ·obtain⟨x2,x3,rfl,o2,ah⟩:=pv;obtain⟨h,b,hx,hb,rfl,rfl⟩:=ki hj;obtain⟨vs,hvs,pvs⟩:=sts4 j h b hx hb;have bb:=asb j h b hx hb;have hxm:=Qi hx;have dg:cL H' F (kV (Sum.inr h)) (some (.ref b)):=.inl ⟨_,Sum.inr h,.inr ⟨ob,o2 F _ hF4 Fb⟩,rfl,(eF (gt nd) hj).symm⟩;refine az ?_;refine s_for (s_list (i_dget (ai rfl (ai rfl ⟨F,_,rfl,dg,b,rfl,⟨_,SqL.of (o2 _ _ hvs bb)⟩,?_⟩))));let I27:IvF:=λi σ' H'=>∃(x3:Option V),σ'=[some (.ref F),some (.ref d),some (.str h),x3]/\(∀b u,H4 b=some u->b∉bs->H' b=some u)/\AH H' (evs (ao ins gs) (xs.take j)++((ao ins gs h).take i).map λp=>(p.2,(p.1,h)))
  refine dM (xs:=vs) I27
   ⟨_,rfl,o2,by simpa using ah⟩ (λi σ' H' _ pv=>?_) (λi v σ' H' hv pv=>?_) (λσ' H' pv=>?_)
  ·obtain⟨_,_,o3,_⟩:=pv;exact SqL.of (o3 _ _ hvs bb)
  ·obtain⟨x3,rfl,o3,ah3⟩:=pv;obtain⟨p,b2,hp,rfl,hb2⟩:=gk pvs hv;have hb2H:H4 b2=some (.tup [.str p.1,.str p.2]):=hb2;have b2b:b2∉bs:=λhb=>by rw[h4 b2 (hbF b2 hb),hb4 b2 hb]at hb2H;cases hb2H
   have hb3:H' b2=some (.tup [.str p.1,.str p.2]):=o3 _ _ hb2 b2b;have hpm:p∈ao ins gs h:=Qi hp;obtain⟨i2,hi2,ei2⟩:=Qq.mp (cl h hxm p hpm);have e1:xs[i2]?=some p.2:=by rw[Qc hi2,ei2]
   obtain⟨c,e2⟩:∃c,bs[i2]?=some c:=⟨_,Qc (by omega)⟩;have hc:=ah3 i2 p.2 c e1 e2;have cm:=Qi e2;have dg2:cL H' d (.str p.2) (some (.ref c)):=eL (.inl (o3 _ _ hd4 db)) nd e1 e2
   have hev:evs (ao ins gs) (xs.take j)++((ao ins gs h).take (i+1)).map (λp=>(p.2,(p.1,h)))=(evs (ao ins gs) (xs.take j)++((ao ins gs h).take i).map λp=>(p.2,(p.1,h)))++[(p.2,(p.1,h))]:=by
    rw[QP,hp,Qr,Xb];rfl
   have lev:(evs (ao ins gs) (xs.take j)++((ao ins gs h).take i).map λp=>(p.2,(p.1,h))).length<=7*2048+7:=by
    rw[Qj,Qa,Qs];have h1:=xA (ins:=ins) g7 (xs.take j);have h2:=d8 ins gs h;rw[Qs]at h1;omega
   refine az ?_;have la:=xH (evs (ao ins gs) (xs.take j)++((ao ins gs h).take i).map λp=>(p.2,(p.1,h))) p.2;refine s_drop (i_bm (i_dget (ai rfl (br (ai rfl (i_c (i_ixT hb3 rfl ⟨d,_,rfl,dg2,i_tyL hc,aq (ai rfl (aI (fw hc (by rw[Qa];omega) ?_)))⟩)))))));refine⟨_,rfl,λb' u e n=>by rw[ak (λz=>n (by rw[z];exact cm))];exact o3 b' u e n,λi3 x3 b3 e3 e4=>?_⟩;rw[hev,wx];by_cases cx:x3=p.2
   ·subst cx;have:i3=i2:=(List.getElem?_inj (Qe.mp e3).1 nd).mp (by rw[e3,e1]);subst this;rw[e2]at e4;cases e4;rw[QF rfl,ag,Qr];rfl
   rw[QB cx,ak (λz=>cx ?_)]
   ·exact ah3 i3 x3 b3 e3 e4
   subst z;have:i3=i2:=(List.getElem?_inj (Qe.mp e4).1 ndb).mp (by rw[e4,e2]);subst this;rw[e3]at e1;cases e1;rfl
  obtain⟨x3,rfl,o3,ah3⟩:=pv;refine⟨_,_,rfl,o3,?_⟩;have lvs:vs.length=(ao ins gs h).length:=by have:=aN pvs;unfold cM at this;rwa [Qa]at this
  rw[lvs,Qt (Qg _)]at ah3
  have e:evs (ao ins gs) (xs.take (j+1))=evs (ao ins gs) (xs.take j)++(ao ins gs h).map λp=>(p.2,(p.1,h)):=by
   unfold evs;rw[QP,hx,List.flatMap_append];simp
  rw[e];exact ah3
 obtain⟨x2,x3,rfl,o2,ah⟩:=pv;rw[lk,Qt (Qg _)]at ah;refine⟨o2 F _ hF4 Fb,?_⟩;refine ca (ai rfl (k d bs _ (λb u e=>?_) d0 ?_ lb λi x b e1 e2=>?_))
 ·by_cases cF:b=F
  ·subst cF;rw[f_];exact SH3 _ _ e
  rw[bM cF];exact o2 b u (by rw[h4 b cF];exact SH3 _ _ e) λhb=>by rw[hb0 b hb]at e;cases e
 ·rw[bM dF];exact o2 _ _ hd4 db
 have hb:=Qi e2;exact⟨hb0 b hb,by rw[bM (hbF b hb)];exact ah i x b e1 e2⟩
end
def eV (ps:List (Str × Nat)):List (Key × V):=bG (ps.map λp=>(p.1,(p.2:Int)))
def eC (xs:List Str) (f:Str->Int):List (Key × V):=xs.map λx=>(Sum.inr x,V.int (f x))
theorem tT (xs:List Str) (f:Str->Int):(eC xs f).map (·.1)=au xs:=by unfold eC au;rw[QW];rfl
theorem gW {xs:List Str} (f:Str->Int) {b:Str}:∀{xs:List Str},b∈xs->ba (eC xs f) (Sum.inr b)=some (.int (f b))
 | [],h=>nomatch h
 | x::xs,h=>by
  by_cases c:x=b
  ·subst c;exact bO rfl
  exact(bP (λz=>c (Sum.inr.inj z))).trans (gW (xs:=xs) f ((QV.mp h).resolve_left λz=>c z.symm))
theorem vO {xs:List Str} (f:Str->Int) {b:Str} (v:Int) (h:b∈xs):cg (eC xs f) (Sum.inr b) (.int v)=eC xs λx=>if x=b then v else f x:=by
 unfold cg;rw[cZ,gW (xs:=xs) f h,Option.isSome_some,QF rfl];unfold eC;rw[QW];refine List.map_congr_left λx _=>?_;by_cases c:x=b
 ·subst c;simp
 simp[c]
theorem iB (ps:List (Str × Nat)):(eV ps).map (·.1)=au (ps.map (·.1)):=by unfold eV bG au;rw[QW,QW,QW];rfl
theorem fP (nd:xs.Nodup):(au xs).Nodup:=by unfold au;exact List.Pairwise.map _ (λa b h z=>h (Sum.inr.inj z)) nd
variable {ps:List (Str × Nat)}
theorem vL (nd:(ps.map (·.1)).Nodup) {p:Str × Nat} (h:p∈ps):ba (eV ps) (Sum.inr p.1)=some (.int p.2):=by
 obtain⟨i,hi,e⟩:=Qq.mp h;refine eF (i:=i) (by rw[iB];exact fP nd) ?_;unfold eV bG;rw[QW,Qh,Qc hi,e];rfl
theorem eU:ba (eV ps) (Sum.inr x)=none↔x∉ps.map (·.1):=by
 rw[cS,iB];unfold au;refine not_congr ⟨λh=>?_,λh=>Qk.mpr ⟨x,h,rfl⟩⟩;obtain⟨y,hy,e⟩:=Qk.mp h;cases e;exact hy
theorem vM (h:x∉ps.map (·.1)):cg (eV ps) (Sum.inr x) (.int n)=eV (ps++[(x,n)]):=by
 rw[d_ _ (eU.mpr h)];unfold eV bG;rw[Qr,Qr];rfl
def wy (H:Hp) (ts:List Addr) (xs:List Str) (f:Str->Int):Prop:=∀(i:Nat) t x,ts[i]?=some t->xs[i]?=some x->H t=some (.tup [.str x,.int (f x)])
theorem oP {f:Str->Int} {t L:Addr} (lt:ts.length=m) (h:wy H' ts xs f) (S:am H' H4) (hd:H' L=some (.lst ys)) (ht:H4 t=some (.tup [.str x,.int (f x)])) (e1:xs[m]?=some x) (tL:t≠L):wy (upd H4 L o) (ts++[t]) xs f:=λi t' x' h1 h2=>by
 by_cases ci:i<m
 ·rw[QG (by omega)]at h1;have q:=h i t' x' h1 h2;rw[ak (λz=>by rw[z,hd]at q;cases q)];exact S _ _ q
 rw[QE (by omega)]at h1
 have ei:i=m:=by
  have:=(Qe.mp h1).1;simp at this;omega
 subst ei;rw[lt,Nat.sub_self]at h1;rw[e1]at h2;cases h1;cases h2;rw[ak tL];exact ht
theorem jL {f:Str->Int} (lt:ts.length=xs.length) (h:wy H ts xs f):Paired (pN H) (ts.map V.ref) (xs.map λx=>(x,V.int (f x))):=by
 refine eS (by simp[lt]) λi v p e1 e2=>?_;rw[Qh]at e1 e2
 cases q1:ts[i]? with
 | none=>rw[q1]at e1;cases e1
 | some t =>
 rw[q1]at e1;cases e1
 cases q2:xs[i]? with
 | none=>rw[q2]at e2;cases e2
 | some x =>
 rw[q2]at e2;cases e2;exact⟨t,rfl,h i t x q1 q2⟩
theorem pj (nd:xs.Nodup) (f:Str->Int):bw [] (cN (xs.map λx=>(x,V.int (f x))))=eC xs f:=by
 have e:cN (xs.map λx=>(x,V.int (f x)))=eC xs f:=by unfold cN eC;rw[QW];rfl
 rw[e,fZ _ _ (by rw[tT];exact fP nd) (λ_ _=>rfl),List.nil_append]
def mE:Sp:=λvs H Q _=>∃(F:Addr) (ins:List Str) (gs:List (Str × Rl)) (z:Str) (xs:List Str),vs=[.ref F]/\SD H F ins gs xs/\Met ins gs z xs/\NetOk ins gs /\
 ∀(N:Addr) (ps:List (Str × Nat)) (H':Hp),am H H'->H N=none->H' N=some (.dK (eV ps))->NumOk ins gs xs ps->Q (.ref N) H'
section
theorem gr:FnScope ["found", "ahead", "left", "waiting", "numbers", "at", "here", "before"] ["found"] (aA (top 26)):=by walk_at "k"
theorem xf {f:Addr} {fd:FuncData} (Fu:Fun K "most_switchings" "most_switchings" (top 26) f fd) (T:Txt K mg TT) (f_standings_ahead:Fn P w K mg base "standings_ahead" ["found"] 1 mJ) (f_rests_in:Fn P w K mg base "rests_in" ["steps"] 1 dZ):FnOk P w K mg base CX0 2 f fd ["found"] mE:=by
 have S:=gr;refine Fu.ok S (by walk_at "l") (λcdv A outer s H vs Q E hr h=>?_);obtain⟨F,ins,gs,z,xs,rfl,sd,met,ok,k⟩:=h;have hu:=du hr;refine'⟨?_,?bb,?_⟩
 case bb =>
  walk_at "b";exact aF 1 S.nd (aP f_standings_ahead hr (aa (pv 0) ad ae));exact aF 2 S.nd (d5 rfl (by rfl) T.n_dict (aa (qq (dr (tgs:=["here"]) (cap:=[("found", 0)]) rfl ⟨rfl,rfl,rfl,rfl,rfl,rfl⟩ (ed (pv 0)) (λ_ _ _ _=>(bj (i:=0) (show List.Nodup [("here" : Str),("found" : Str)] by decide +kernel) rfl (by walk_at "z"))) (λ_ _ _ _=>bq) (λ_ _ _ _=>(bh (aa (pv 0) (aa (aB (eQ (K:=K) rfl) (by rfl) T.n_len QH (aa (bC hu (pv 1) (pv 0) (λ_ _=>rfl)) ad)) ad se_call) ae))))) ad));exact aF 3 S.nd (aP f_rests_in hr (aa (pv 0) ad ae));exact aF 4 S.nd (d5 rfl (by rfl) T.n_dict (aa (dr (tgs:=["rest"]) (cap:=[]) rfl ⟨rfl,rfl,rfl,rfl,rfl,rfl⟩ (bu (pv 3)) (λ_ _ _ _=>(bj (i:=0) (show List.Nodup [("rest" : Str)] by decide +kernel) rfl (by walk_at "z"))) (λ_ _ _ _=>bq) (λ_ _ _ _=>(bh (aa (pv 0) (aa af ad aL) ae)))) ad));exact aF 5 S.nd af;refine' fH PassesOwn.never ?_ ?_;rotate_left 2;exact(aG iN (pv 5) (aB aJ (by rfl) T.n_len QH (aa (pv 3) ad ae)) (aK _));walk_at "p";exact aF 6 S.nd (aC aH (pv 3) (pv 5) (λ_ _=>rfl));walk_at "f";exact(bu (bC hu (pv 1) (pv 6) (λ_ _=>rfl)));exact(bQ 7 S.nd);walk_at "p";exact(wQ hu (pv 2) (pv 7) af zZ (by intros;rfl));exact(aG cA (bC hu (pv 2) (pv 7) (λ_ _=>rfl)) af (aK _));exact(f6 hu (pv 4) (pv 7) (av aV (bC hu (pv 4) (pv 6) (λ_ _=>rfl)) af) rfl);exact(bI (dI QM QR QS bp (pv 3) (aa (pv 7) ad ae)));exact(uL (i:=5) S.nd rfl (by walk_at "z") af vR);exact(aE (pv 4))
 walk_at "e";have few:=met.few ok;have nd:=met.nd;have cl:∀h∈xs,∀p∈ao ins gs h,p.2∈xs:=λh hh p hp=>met.closed hh hp;walk_at "w";refine⟨F,ins,gs,xs,rfl,sd,nd,few,cl,ok.g7,λA bs H1 S1 hA0 hA lb hbs=>?_⟩;obtain⟨as,r,las,sts⟩:=sd.same S1;have lk:(fdK (au xs) as).length=xs.length:=by unfold fdK au;simp[las]
 refine az ?_;walk_at "s";refine ce (iC (aq (vS r trivial λo=>?_)));have hF2:upd H1 F (.frz o (.dK (fdK (au xs) as))) F=some (.frz o (.dK (fdK (au xs) as))):=ag;have bk:∀{H':Hp},am (upd H1 F (.frz o (.dK (fdK (au xs) as)))) H'->am H1 (back H1 F H'):=λS=>dE r S;have sts2:∀(i:Nat) x b,xs[i]?=some x->as[i]?=some b->bo (upd H1 F (.frz o (.dK (fdK (au xs) as)))) b (cM (ao ins gs x)):=λi x b e1 e2=>lH r (sts i x b e1 e2);generalize upd H1 F (.frz o (.dK (fdK (au xs) as)))=H2 at *;refine bS (fg (ai rfl ⟨F,o,_,rfl,hF2,λL hL=>?_⟩));let I28:IvC:=λm H' ys=>∃ts:List Addr,ts.length=m/\ys=ts.map V.ref/\am H2 H'/\H' L=some (.lst ys)/\wy H' ts xs λx=>((ao ins gs x).length:Int)
 refine iE I28
  ⟨[],rfl,rfl,aj hL,ag,λi t x e=>(nomatch e)⟩ (λm H' ys ⟨ts,p⟩=>⟨p.2.2.2.1,p.2.2.1 _ _ hF2⟩) (λm k' v H' ys e p=>?_) (λH' ys p=>?_)
 ·obtain⟨ts,lt,rfl,Sm,hd,hts⟩:=p;obtain⟨x,b,e1,e2,rfl,rfl⟩:=ki e;obtain⟨vs,hvs,pvs⟩:=(sts2 m x b e1 e2).same Sm;have hm:m<xs.length:=(Qe.mp e1).1;have lv:vs.length=(ao ins gs x).length:=by have:=aN pvs;unfold cM at this;rwa [Qa]at this
  refine az ⟨by repeat' (first|exact trivial|refine⟨rfl,?_⟩),i_yes (bX ?_)⟩;refine i_tup (aq (ai rfl (aq (dL (aq (i_dget (ai rfl (ai rfl ⟨F,_,rfl,eL (.inr ⟨o,Sm _ _ hF2⟩) nd e1 e2,aI ⟨b,vs,rfl,.inl (SqL.of hvs),aI ⟨by simp[sizeLine],λt ht=>?_⟩⟩⟩))))))));have S3:am H' (upd H' t (.tup [kV (Sum.inr x),.int vs.length])):=aj ht;have t3:upd H' t (.tup [kV (Sum.inr x),.int vs.length]) t=some (.tup [.str x,.int ((ao ins gs x).length:Int)]):=by rw[ag,lv];rfl
  have tL:t≠L:=λz=>by rw[z,hd]at ht;cases ht
  generalize upd H' t (.tup [kV (Sum.inr x),.int vs.length])=H4 at *;exact bV.mk (S3 _ _ hd) (by rw[lk];exact hm) (by rw[Qa];omega) ⟨ts++[t],by simp[lt],by simp,aQ (Sm.trans S3) hL,ag,oP lt hts S3 hd t3 e1 tL⟩
 rw[lk]at p;obtain⟨ts,lt,rfl,Sm,hd,hts⟩:=p;refine⟨Sm _ _ hF2,aI ?_⟩;have LF:L≠F:=λz=>by rw[z,hF2]at hL;cases hL
 have bkx:∀{b u},H' b=some u->b≠F->back H1 F H' b=some u:=λe n=>by rw[bM n];exact e
 have SB:=bk Sm;refine⟨L,ts.map V.ref,_,rfl,SqL.of (bkx hd LF),by rw[Qa];omega,jL lt λi t x e1 e2=>bkx (hts i t x e1 e2) (λz=>by have q:=hts i t x e1 e2;rw[z,Sm _ _ hF2]at q;cases q),λLf hLf=>?_⟩;rw[pj nd];generalize hE:upd (back H1 F H') Lf _=H3;obtain⟨S3,hLf3⟩:=aZ hLf hE;clear hE;have S13:=SB.trans S3;have Lf1:H1 Lf=none:=am.free SB hLf;clear hts hd bkx;walk_at "w";obtain⟨as3,r3,las3,sts3⟩:=(sd.same S1).same S13;refine⟨F,xs,as3,λh=>(ao ins gs h).length,rfl,r3,las3,few,nd,λi x b e1 e2=>?_,λWt ss H4 S4 hWt pm so hW4=>?_⟩
 ·obtain⟨vs,h1,h2⟩:=sts3 i x b e1 e2;exact⟨vs,h1,by have:=aN h2;unfold cM at this;rwa [Qa]at this⟩
 have rnd:(ss.filter λh=>decide ((ao ins gs h).length=0)).Nodup:=(pm.nodup_iff.mpr nd).filter _
 have rmem:∀x,x∈(ss.filter λh=>decide ((ao ins gs h).length=0))↔x∈xs/\ao ins gs x=[]:=λx=>by
  rw[List.mem_filter,pm.mem_iff,XR,Xr]
 generalize (ss.filter λh=>decide ((ao ins gs h).length=0))=rs at *;have c0:=Cnt.start (ins:=ins) (gs:=gs) (xs:=xs) rnd rmem;have lrs:rs.length<=xs.length:=by have:=c0.few;rwa [Qa]at this
 clear so pm;refine az ?_;walk_at "s";refine ce (iC (aq (bS (s_list (ai rfl ⟨Wt,rfl,⟨_,SqL.of hW4⟩,λL2 hL2=>?_⟩)))));let I29:IvC:=λm H' ys=>∃ts:List Addr,ts.length=m/\ys=ts.map V.ref/\am H4 H'/\H' L2=some (.lst ys)/\wy H' ts rs λ_=>0
 refine bU (xs:=rs.map V.str) I29
  ⟨[],rfl,rfl,aj hL2,ag,λi t x e=>(nomatch e)⟩ (λm H' ys ⟨ts,p⟩=>⟨p.2.2.2.1,SqL.of (p.2.2.1 _ _ hW4)⟩) (λm v H' ys e p=>?_) (λH5 ys p=>?_)
 ·obtain⟨ts,lt,rfl,Sm,hd,hts⟩:=p;rw[Qh]at e
  cases ex:rs[m]? with
  | none=>rw[ex]at e;cases e
  | some x =>
  rw[ex]at e;cases e;have hm:m<rs.length:=(Qe.mp ex).1;refine az ⟨by repeat' (first|exact trivial|refine⟨rfl,?_⟩),i_yes (bX ?_)⟩;refine i_tup (aq (ai rfl (aq (i_c (aI ⟨by simp[sizeLine],λt ht=>?_⟩)))));have S3:am H' (upd H' t (.tup [.str x,.int 0])):=aj ht;have t3:upd H' t (.tup [.str x,.int 0]) t=some (.tup [.str x,.int 0]):=ag;have tL:t≠L2:=λz=>by rw[z,hd]at ht;cases ht
  generalize upd H' t (.tup [.str x,.int 0])=H6 at *;exact bV.mk (S3 _ _ hd) (by rw[Qa];exact hm) (by rw[Qa];omega) ⟨ts++[t],by simp[lt],by simp,aQ (Sm.trans S3) hL2,ag,oP (f:=λ_=>0) lt hts S3 hd t3 ex tL⟩
 rw[Qa]at p;obtain⟨ts,lt,rfl,Sm,hd,hts⟩:=p;refine aI ⟨L2,ts.map V.ref,_,rfl,SqL.of hd,by rw[Qa];omega,jL (f:=λ_=>0) lt hts,λN hN=>?_⟩;rw[pj rnd];generalize hE:upd H5 N _=H6;obtain⟨S6,hN6⟩:=aZ hN hE;clear hE;have eN:eC rs (λ_=>0)=eV (rs.map λx=>(x,0)):=by unfold eC eV bG;rw[QW,QW];rfl
 rw[eN]at hN6;have S16:am H1 H6:=S13.trans (S4.trans (Sm.trans S6));have hLf6:H6 Lf=some (.dK (eC xs λx=>((ao ins gs x).length:Int))):=(S4.trans (Sm.trans S6)) _ _ hLf3
 have hW6:H6 Wt=some (.lst (((rs.map λx=>((x,0):Str × Nat)).map (·.1)).map V.str)):=by
  rw[show (rs.map λx=>((x,0):Str × Nat)).map (·.1)=rs by rw[QW];exact List.map_id _];exact(Sm.trans S6) _ _ hW4
 have Wt1:H1 Wt=none:=am.free S13 hWt;have N1:H1 N=none:=am.free (S13.trans (S4.trans Sm)) hN;have LW:Lf≠Wt:=λz=>by rw[z]at hLf3;rw[hWt]at hLf3;cases hLf3
 have LN:Lf≠N:=λz=>by rw[<-z,(S4.trans Sm) _ _ hLf3]at hN;cases hN
 have WN:Wt≠N:=λz=>by rw[<-z,Sm _ _ hW4]at hN;cases hN
 clear hts hd hW4 hLf3;walk_at "w";let I30:IvF:=λm σ H'=>∃(a:Nat) (ps:List (Str × Nat)) (lf:Str->Int) (x6 x7:Option V),σ=[some (.ref F),some (.ref A),some (.ref Lf),some (.ref Wt),some (.ref N),some (.int (a:Int)),x6,x7]/\m=xs.length+1-a/\a<=ps.length/\lA Lf Wt N H6 H'/\H' Lf=some (.dK (eC xs lf))/\H' Wt=some (.lst ((ps.map (·.1)).map V.str))/\H' N=some (.dK (eV ps))/\Cnt ins gs xs ps a [] lf
 refine⟨I30,
  ⟨_,0,_,_,_,_,rfl,rfl,QN _,λb o e _ _ _=>e,hLf6,hW6,hN6,c0⟩,?_⟩
 rintro m σ H' ⟨a,ps,lf,x6,x7,rfl,rfl,ha,off,hLf',hW',hN',c⟩;walk_at "w";rw[Qa,Qa];by_cases cn:a<ps.length
 case neg =>
  refine ifF (QU (by omega)) ?_;refine ca (ai rfl (k N ps H' (λb u e=>off b u (S16 _ _ (S1 _ _ e)) (λz=>?_) (λz=>?_) λz=>?_) (am.free S1 N1) hN' (c.fin (by omega))))
  ·rw[z,am.free S1 Lf1]at e;cases e
  ·rw[z,am.free S1 Wt1]at e;cases e
  rw[z,am.free S1 N1]at e;cases e
 refine ifT (Q7 (by omega)) ?_;have fewp:=c.few;let I31:IvJ:=λσ' H''=>∃(ps:List (Str × Nat)) (lf:Str->Int) (x6 x7:Option V),σ'=[some (.ref F),some (.ref A),some (.ref Lf),some (.ref Wt),some (.ref N),some (.int ((a+1:Nat):Int)),x6,x7]/\a+1<=ps.length/\lA Lf Wt N H6 H''/\H'' Lf=some (.dK (eC xs lf))/\H'' Wt=some (.lst ((ps.map (·.1)).map V.str))/\H'' N=some (.dK (eV ps))/\Cnt ins gs xs ps (a+1) [] lf;refine⟨I31,λσ' H'' h=>?_,?_⟩
 ·obtain⟨ps,lf,x6,x7,e1,e2,e3⟩:=h;exact⟨xs.length+1-(a+1),by omega,a+1,ps,lf,x6,x7,e1,rfl,e2,e3⟩
 obtain⟨here,eh⟩:∃here,ps[a]?=some here:=⟨_,Qc cn⟩;have hhere:=c.sub here (Qi eh);obtain⟨ix,hix,eix⟩:=Qq.mp hhere;have ex:xs[ix]?=some here.1:=by rw[Qc hix,eix]
 obtain⟨b,eb⟩:∃b,bs[ix]?=some b:=⟨_,Qc (by omega)⟩;obtain⟨_,hb1⟩:=hbs ix here.1 b ex eb;have bL:b≠Lf:=λz=>by rw[z,Lf1]at hb1;cases hb1
 have bW:b≠Wt:=λz=>by rw[z,Wt1]at hb1;cases hb1
 have bN:b≠N:=λz=>by rw[z,N1]at hb1;cases hb1
 have AL:A≠Lf:=λz=>by rw[z,Lf1]at hA;cases hA
 have AW:A≠Wt:=λz=>by rw[z,Wt1]at hA;cases hA
 have AN:A≠N:=λz=>by rw[z,N1]at hA;cases hA
 have hb6:∀{H'':Hp},lA Lf Wt N H6 H''->H'' b=some (.lst ((ahL (evs (ao ins gs) xs) here.1).map V.str)):=λo=>o b _ (S16 _ _ hb1) bL bW bN;have hA6:∀{H'':Hp},lA Lf Wt N H6 H''->H'' A=some (.dK (fdK (au xs) bs)):=λo=>o A _ (S16 _ _ hA) AL AW AN;generalize hfull:ahL (evs (ao ins gs) xs) here.1=full at *;walk_at "s";refine ce (br (ai rfl (ai rfl (a_ (v:=.str here.1) (SqL.of hW') (cC (by rw[Qh,Qh,eh];rfl)) (az ?_)))));walk_at "s";refine s_for (s_list (i_dget (ai rfl (ai rfl ⟨A,_,rfl,eL (.inl (hA6 off)) nd ex eb,b,rfl,⟨_,SqL.of (hb6 off)⟩,?_⟩))));let I32:IvF:=λi σ' H'=>∃(ps:List (Str × Nat)) (lf:Str->Int) (x7:Option V),σ'=[some (.ref F),some (.ref A),some (.ref Lf),some (.ref Wt),some (.ref N),some (.int (a:Int)),some (.str here.1),x7]/\lA Lf Wt N H6 H'/\H' Lf=some (.dK (eC xs lf))/\H' Wt=some (.lst ((ps.map (·.1)).map V.str))/\H' N=some (.dK (eV ps))/\ps[a]?=some here/\Cnt ins gs xs ps a (full.take i) lf
 refine dM (xs:=full.map V.str) I32
  ⟨ps,lf,_,rfl,off,hLf',hW',hN',eh,by rw[List.take_zero];exact c⟩ (λi σ' H' _ pv=>?_) (λi v σ' H' hv pv=>?_) (λσ' H' pv=>?_)
 ·obtain⟨_,_,_,_,o,_⟩:=pv;exact SqL.of (hb6 o)
 ·obtain⟨ps,lf,x7,rfl,o,hLf',hW',hN',eh,c⟩:=pv;rw[Qh]at hv
  cases ef:full[i]? with
  | none=>rw[ef]at hv;cases hv
  | some y =>
  rw[ef]at hv;cases hv;have hi:i<full.length:=(Qe.mp ef).1
  have es:full=full.take i++y::full.drop (i+1):=by
   rw[<-(Qe.mp ef).2,<-List.drop_eq_getElem_cons hi,QZ]
  have et:full.take (i+1)=full.take i++[y]:=by rw[QP,ef];rfl
  obtain⟨hy,ho,g1,g2⟩:=c.go met eh (hfull.trans es);rw[<-et]at g1 g2;have fewp:=c.few;refine az ?_;walk_at "s";have dgL:cL H' Lf (.str y) (some (.int (lf y))):=.inl ⟨_,Sum.inr y,.inl hLf',rfl,(gW (xs:=xs) lf hy).symm⟩;refine y_ (ai rfl (ai rfl ⟨Lf,_,rfl,dgL,i_c ⟨_,_,rfl,rfl,_,hX.k (k:=Sum.inr y) hLf' (by unfold eC;rw[Qa];omega),?_⟩⟩));rw[vO (xs:=xs) lf _ hy];have hLf2:upd H' Lf (.dK (eC xs λx=>if x=y then lf y-1 else lf x)) Lf=some (.dK (eC xs λx=>if x=y then lf y-1 else lf x)):=ag;have o2:lA Lf Wt N H6 (upd H' Lf (.dK (eC xs λx=>if x=y then lf y-1 else lf x))):=λb u e h1 h2 h3=>by rw[ak h1];exact o b u e h1 h2 h3
  have hW2:upd H' Lf (.dK (eC xs λx=>if x=y then lf y-1 else lf x)) Wt=some (.lst ((ps.map (·.1)).map V.str)):=by rw[ak LW.symm];exact hW'
  have hN2:upd H' Lf (.dK (eC xs λx=>if x=y then lf y-1 else lf x)) N=some (.dK (eV ps)):=by rw[ak LN.symm];exact hN'
  generalize upd H' Lf (.dK (eC xs λx=>if x=y then lf y-1 else lf x))=H7 at *;have dgL2:cL H7 Lf (.str y) (some (.int (lf y-1))):=.inl ⟨_,Sum.inr y,.inl hLf2,rfl,by rw[gW (xs:=xs) _ hy,QF rfl]⟩;refine s_if (bi (br (i_dget (ai rfl (ai rfl ⟨Lf,_,rfl,dgL2,i_c (i_eq rfl ⟨_,rfl,?_⟩)⟩)))));by_cases cz:lf y-1=0
  ·refine ifT (by rw[cz];rfl) ?_;have dgN:cL H7 N (.str here.1) (some (.int here.2)):=.inl ⟨_,Sum.inr here.1,.inl hN2,rfl,(vL c.nd (Qi eh)).symm⟩;walk_at "s";refine io (br (i_dget (ai rfl (ai rfl ⟨N,_,rfl,dgN,i_c (i_rI0 (ai rfl (ai rfl ⟨N,_,rfl,hX.k (k:=Sum.inr y) hN2 (by have:=congrArg List.length (iB ps);unfold au at this;simp at this;omega),?_⟩)))⟩))));rw[show ((here.2:Int)+1)=((here.2+1:Nat):Int) from rfl,vM ho];have hW3:upd H7 N (.dK (eV (ps++[(y,here.2+1)]))) Wt=some (.lst ((ps.map (·.1)).map V.str)):=by rw[ak WN];exact hW2
   refine s_drop (i_bm (ai rfl ⟨i_tyL hW3,aq (ai rfl (aI (fw hW3 (by rw[Qa,Qa];omega) ?_)))⟩));refine⟨ps++[(y,here.2+1)],_,_,rfl,λb u e h1 h2 h3=>by rw[ak h2,ak h3];exact o2 b u e h1 h2 h3,by rw[ak LW,ak LN];exact hLf2,by rw[ag];simp,by rw[ak WN.symm,ag],by rw[QG (Qe.mp eh).1];exact eh,g1 cz⟩
  refine ifF (QU λz=>cz (V.int.inj z)) ?_;exact⟨ps,_,_,rfl,o2,hLf2,hW2,hN2,eh,g2 cz⟩
 obtain⟨ps,lf,x7,rfl,o,hLf',hW',hN',eh,c⟩:=pv;rw[Qa,Qt (Qg _),<-hfull]at c;refine⟨_,rfl,i_c ⟨_,_,rfl,rfl,?_⟩⟩;exact⟨ps,lf,_,_,by rw[show ((a+1:Nat):Int)=(a:Int)+1 from rfl];rfl,(Qe.mp eh).1,o,hLf',hW',hN',c.turn met eh⟩
end
section
variable {os ss rs:List Str} {x y w h a r r':Str}
theorem Run.trans {ps:List Str} (r:Run ins gs x os y) (q:Run ins gs y ps w):Run ins gs x (os++ps) w:=by
 induction r with
 | nil=>exact q
 | cons a b _ ih=>exact .cons a b (ih q)
theorem Run.rep (r:Run ins gs x os x):∀k,Run ins gs x (List.replicate k os).flatten x
 | 0=>.nil
 | k+1=>by rw[List.replicate_succ,List.flatten_cons];exact r.trans (r.rep k)
theorem Met.start (m:Met ins gs z xs):z∈xs:=Qi m.zero
theorem Met.runs (m:Met ins gs z xs) (r:Run ins gs x os y) (hx:x∈xs):y∈xs:=by
 induction r with
 | nil=>exact hx
 | cons a _ _ ih=>exact ih (m.closed hx a)
theorem Met.to (m:Met ins gs z xs) (hx:x∈xs):∃os,Run ins gs z os x:=by
 obtain⟨i,hi,e⟩:=Qq.mp hx;obtain⟨ns,p,_⟩:=m.path i x (by rw[Qc hi,e]);exact⟨ns,(m.run p).2⟩
theorem uN {p:Str × Str} (st:StOk (ap ins gs).length h) (hp:p∈ao ins gs h):p.2.cps.toList.take ins.length=h.cps.toList.take ins.length:=by
 obtain⟨i,h1,h2,e,_⟩:=ot hp;rw[e,turn_list st (by rw[bH];exact h2),List.take_append_of_le_length,List.take_take,Nat.min_eq_left h1];have:=st.len;have hl:h.cps.toList.length=h.cps.size:=Qo;rw[bH]at this;rw[Qs];omega
theorem Met.pre (m:Met ins gs z xs) (hx:x∈xs):x.cps.toList.take ins.length=z.cps.toList.take ins.length:=by
 obtain⟨os,r⟩:=m.to hx;have st:=m.st z m.start;clear hx m
 induction r with
 | nil=>rfl
 | cons a b _ ih=>exact(ih b).trans (uN st a)
theorem Met.few7 (m:Met ins gs z xs) (ok:NetOk ins gs):xs.length<=128:=by
 have nd:(xs.map λx=>x.cps.toList.drop ins.length).Nodup:=by
  rw[List.Nodup,List.pairwise_map];refine List.Pairwise.imp_of_mem (λ{a b} ha hb n e=>n ?_) m.nd
  have:a.cps.toList=b.cps.toList:=by
   rw[<-QZ ins.length a.cps.toList,<-QZ ins.length b.cps.toList,m.pre ha,m.pre hb,e]
  cases a;cases b;simpa using this
 have:=Bf.pigeon _ (nV gs.length) nd λl hl=>by
  obtain⟨x,hx,rfl⟩:=Qk.mp hl;have st:=m.st x hx;refine kM _ _ ?_ λc hc=>st.signs c (List.mem_of_mem_drop hc);rw[Q4,Qo,st.len,bH];omega
 rw[Qa,kN]at this;have h2:2 ^ gs.length<=2 ^ 7:=Nat.pow_le_pow_right (by decide) ok.g7;have h3:(2:Nat) ^ 7=128:=by decide
 omega
theorem di.calm {n:Nat} {ps:List Str} (l:di ins gs h n) (r:Run ins gs h os a) (q:Run ins gs a ps a):ps=[]:=by
 cases ps with
 | nil=>rfl
 | cons p ps =>
 have:=l.1 _ _ (r.trans (q.rep (n+1)));rw[Qj,xp,QQ]at this;have:n+1<=(n+1)*(ps.length+1):=Nat.le_mul_of_pos_right _ (by omega);omega
theorem Run.seen (r:Run ins gs h os y):(∀a ps qs,Run ins gs h ps a->Run ins gs a qs a->qs=[])->∃as:List Str,as.length=os.length+1/\as.Nodup/\∀a∈as,∃ps,Run ins gs h ps a:=by
 induction r with
 | nil=>exact λ_=>⟨[_],rfl,by simp,λa ha=>by rw[QA]at ha;rw[ha];exact⟨[],.nil⟩⟩
 | @cons z y w n os m st r ih =>
 intro c;obtain⟨as,h1,h2,h3⟩:=ih λa ps qs r1 r2=>c a (n::ps) qs (.cons m st r1) r2;refine⟨z::as,by simp[h1],Q5.mpr ⟨λhz=>?_,h2⟩,λa ha=>?_⟩
 ·obtain⟨ps,q⟩:=h3 z hz;exact nomatch (c z [] (n::ps) .nil (.cons m st q))
 rcases QV.mp ha with rfl|ha
 ·exact⟨[],.nil⟩
 obtain⟨ps,q⟩:=h3 a ha;exact⟨n::ps,.cons m st q⟩
theorem di.lt (m:Met ins gs z xs) {n:Nat} (l:di ins gs z n) (r:Run ins gs z os y):os.length<xs.length:=by
 obtain⟨as,h1,h2,h3⟩:=r.seen λa ps qs r1 r2=>l.calm r1 r2
 have:=Bf.pigeon as xs h2 λa ha=>by
  obtain⟨ps,q⟩:=h3 a ha;exact m.runs q m.start
 omega
theorem di.stop {n:Nat} (l:di ins gs h n) (st:StOk (ap ins gs).length h):∃os y,Run ins gs h os y/\ao ins gs y=[]:=by
 obtain⟨l1,os,y,r,e⟩:=l;refine⟨os,y,r,?_⟩
 cases q:ao ins gs y with
 | nil=>rfl
 | cons p ps =>
 have hp:p∈ao ins gs y:=by rw[q];simp
 have sy:StOk (ap ins gs).length y:=by
  clear e q hp l1
  induction r with
  | nil=>exact st
  | cons _ b _ ih=>exact ih b
 have:=l1 _ _ (r.snoc (n:=p.1) (w:=p.2) hp (jr sy hp));rw[Qj,List.length_singleton]at this;omega
variable {ps:List (Str × Nat)}
theorem NumOk.on (m:Met ins gs z xs) (o:NumOk ins gs xs ps):∀(k:Nat) h,h∈xs->h∉ps.map (·.1)->∃os y,Run ins gs h os y/\os.length=k
 | 0,h,_,_=>⟨[],h,.nil,rfl⟩
 | k+1,h,hh,ho=>by
  obtain⟨p,hp,hn⟩:=o.out h hh ho;obtain⟨os,y,r,e⟩:=o.on m k p.2 (m.closed hh hp) hn;exact⟨p.1::os,y,.cons hp (m.st _ (m.closed hh hp)) r,by rw[QQ,e]⟩
theorem NumOk.iff (m:Met ins gs z xs) (o:NumOk ins gs xs ps) (hh:h∈xs):h∈ps.map (·.1)↔∃n,∀os y,Run ins gs h os y->os.length<=n:=by
 refine⟨λhm=>?_,λ⟨n,l⟩=>Decidable.byContradiction λho=>?_⟩
 ·obtain⟨p,hp,rfl⟩:=Qk.mp hm;exact⟨p.2,(o.long p hp).1⟩
 obtain⟨os,y,r,e⟩:=o.on m (n+1) h hh ho;have:=l os y r;omega
def fe (ins:List Str) (gs:List (Str × Rl)) (z r:Str):Prop:=∃xs,Met ins gs z xs/\(∀x,x∈xs/\ao ins gs x=[]↔x=r)/\∃n,di ins gs z n
theorem fe.one (a:fe ins gs z r) (b:fe ins gs z r'):r=r':=by
 obtain⟨xs,m,h,_⟩:=a;obtain⟨ys,m',h',_⟩:=b;have:=m.one m';subst this;exact(h' r).mp ((h r).mpr rfl)
theorem NumOk.long_of (m:Met ins gs z xs) (o:NumOk ins gs xs ps) (hh:h∈xs):h∈ps.map (·.1)↔∃n,di ins gs h n:=by
 refine⟨λhm=>?_,λ⟨n,l⟩=>(o.iff m hh).mpr ⟨n,l.1⟩⟩;obtain⟨p,hp,rfl⟩:=Qk.mp hm;exact⟨p.2,o.long p hp⟩
theorem ip (m:Met ins gs z xs) (pm:ss.Perm xs):(ss.filter λh=>decide ((ao ins gs h).length=0)).Nodup/\∀x,x∈(ss.filter λh=>decide ((ao ins gs h).length=0))↔x∈xs/\ao ins gs x=[]:=by
 refine⟨(pm.nodup_iff.mpr m.nd).filter _,λx=>?_⟩;rw[List.mem_filter,pm.mem_iff,XR,Xr]
theorem tj {α:Type} {rs:List α} {r:α} (nd:rs.Nodup) (h:∀x,x∈rs↔x=r):rs=[r]:=by
 cases rs with
 | nil=>exact absurd ((h r).mpr rfl) (by simp)
 | cons a t =>
 have ea:=(h a).mp (by simp);subst ea
 cases t with
 | nil=>rfl
 | cons b t =>
 have eb:=(h b).mp (by simp);subst eb;simp at nd
theorem gQ (nd:rs.Nodup) (h:∀x,x∈rs↔x=r):rs=[r]:=tj nd h
end
theorem yO {T:String} {r:V->List V->Hp->VK->Prop} {to:TE} (q:to σ H λx H1=>tyV K T x H1/\r x [] H1 Q):Ax K T r to σ H Q:=q
theorem zS (ok:NetOk ins gs) (st:StOk (ap ins gs).length z):∃xs,Met ins gs z xs:=by
 have w11:(ap ins gs).length<=11:=by rw[bH];have:=ok.i4;have:=ok.g7;omega
 have few:∀n,(Bf.bfs (nxK (stN ins gs)) (Sum.inr z) n).length<=2048:=λn=>fO w11 (Bf.cq n) λx hx=>fF st (Bf.cW n x hx)
 have:∀n,(∃k,(Bf.bfs (nxK (stN ins gs)) (Sum.inr z) k).length=k)\/n<(Bf.bfs (nxK (stN ins gs)) (Sum.inr z) n).length:=λn=>by
  induction n with
  | zero=>exact .inr (by simp[Bf.bfs])
  | succ n ih =>
  rcases ih with h|h
  ·exact .inl h
  have:=(Bf.kJ (nx:=nxK (stN ins gs)) (s:=Sum.inr z) n).length_le;rcases Nat.lt_or_ge (n+1) (Bf.bfs (nxK (stN ins gs)) (Sum.inr z) (n+1)).length with l|l
  ·exact .inr l
  exact .inl ⟨n+1,by omega⟩
 rcases this 2048 with⟨k,h⟩|h
 ·obtain⟨xs,_,_,m,_⟩:=qG ok st h;exact⟨xs,m⟩
 have:=few 2048;omega
def WD (H:Hp) (F:Addr) (ins:List Str) (gs:List (Str × Rl)) (ys:List Str) (ls:List Addr):Prop:=H F=some (.dK (fdK (au ys) ls))/\ls.length=ys.length/\∀(i:Nat) y l,ys[i]?=some y->ls[i]?=some l->H l=some (.lst ((nxS ins gs y).map V.str))
def pV:Sp:=λvs H Q _=>∃a li lg ins gvs gs z,vs=[.ref a,.str z]/\NAt H a li lg ins gvs gs/\NetOk ins gs/\StOk (ap ins gs).length z /\
 ∀(F:Addr) (ys xs:List Str) (ls:List Addr) (H':Hp),am H H'->H F=none->Met ins gs z xs->ys.Perm xs->WD H' F ins gs ys ls->Q (.ref F) H'
structure WI (ins:List Str) (gs:List (Str × Rl)) (z:Str) (xs ys ln:List Str):Prop where
 nd:ys.Nodup
 sub:∀y,y∈ys\/y∈ln->y∈xs
 start:z∈ys\/z∈ln
 cl:∀y∈ys,∀p∈ao ins gs y,p.2∈ys\/p.2∈ln
section
variable {ins:List Str} {gs:List (Str × Rl)} {z:Str} {xs ys ln:List Str}
theorem WI.fin (m:Met ins gs z xs) (w:WI ins gs z xs ys []):ys.Perm xs:=by
 refine(List.perm_ext_iff_of_nodup w.nd m.nd).mpr λx=>⟨λh=>w.sub x (.inl h),λh=>?_⟩;obtain⟨os,r⟩:=m.to h;have hz:z∈ys:=w.start.resolve_right (by simp);have cl:∀y∈ys,∀p∈ao ins gs y,p.2∈ys:=λy hy p hp=>(w.cl y hy p hp).resolve_right (by simp);clear h w m
 induction r with
 | nil=>exact hz
 | cons a _ _ ih=>exact ih (cl _ hz _ a)
theorem WI.old {h:Str} (w:WI ins gs z xs ys (ln++[h])) (hh:h∈ys):WI ins gs z xs ys ln:=by
 have f:∀x,x∈ys\/x∈ln++[h]->x∈ys\/x∈ln:=λx q=>by
  rcases q with q|q
  ·exact .inl q
  rcases Qv.mp q with q|q
  ·exact .inr q
  rw[QA]at q;rw[q];exact .inl hh
 exact⟨w.nd,λy q=>w.sub y (q.imp id λq=>List.mem_append_left _ q),f z w.start,λy hy p hp=>f _ (w.cl y hy p hp)⟩
theorem WI.new {h:Str} (m:Met ins gs z xs) (w:WI ins gs z xs ys (ln++[h])) (hh:h∉ys):WI ins gs z xs (ys++[h]) (ln++nxS ins gs h):=by
 have hx:h∈xs:=w.sub h (.inr (by simp))
 have f:∀x,x∈ys\/x∈ln++[h]->x∈ys++[h]\/x∈ln++nxS ins gs h:=λx q=>by
  rcases q with q|q
  ·exact .inl (List.mem_append_left _ q)
  rcases Qv.mp q with q|q
  ·exact .inr (List.mem_append_left _ q)
  exact .inl (QO _ q)
 have hn:∀{y},y∈nxS ins gs h->y∈xs:=λ{y} q=>by
  obtain⟨p,hp,rfl⟩:=Qk.mp q;exact m.closed hx hp
 refine⟨Xy.mpr ⟨w.nd,by simp,λa ha b hb q=>hh (by rw[QA]at hb;rw[<-hb,<-q];exact ha)⟩,λy q=>?_,f z w.start,λy hy p hp=>?_⟩
 ·rcases q with q|q
  ·rcases Qv.mp q with q|q
   ·exact w.sub y (.inl q)
   rw[QA]at q;rw[q];exact hx
  rcases Qv.mp q with q|q
  ·exact w.sub y (.inr (List.mem_append_left _ q))
  exact hn q
 rcases Qv.mp hy with q|q
 ·exact f _ (w.cl y q p hp)
 rw[QA]at q;subst q;exact .inr (QO _ (Qk.mpr ⟨p,hp,rfl⟩))
end
section
theorem oD:FnScope ["net", "standing", "found", "line", "here"] ["net", "standing"] (aA (top 44)):=by walk_at "k"
theorem w9 {f:Addr} {fd:FuncData} (Fu:Fun K "_law_ways" "_law_ways" (top 44) f fd) (T:Txt K mg TT) (f_law_asked:Fn P w K mg base "_law_asked" ["net", "standing"] 11 dH):FnOk P w K mg base CX0 12 f fd ["net", "standing"] pV:=by
 have S:=oD;refine Fu.ok S (by walk_at "l") (λcdv A outer s H vs Q E hr h=>?_);obtain⟨a,li,lg,ins,gvs,gs,z,rfl,NA,ok,st,k⟩:=h;have hu:=du hr;refine'⟨?_,?bb,?_⟩
 case bb =>
  walk_at "b";exact aF 2 S.nd gP;exact aF 3 S.nd (bx (aa (pv 1) ad ae));refine' fH PassesOwn.never ?_ ?_;rotate_left 2;exact(aG (nj hr.units) (pv 3) (bx ad) (aK _));walk_at "p";exact aF 4 S.nd (uX QM PySem.F.slot_list_pop PySem.F.type_list_pop zR (pv 3));exact(fG (cU hu (pv 4) (pv 2)));exact(f6 hu (pv 2) (pv 4) (dr (tgs:=["name", "there"]) (cap:=[]) rfl ⟨rfl,rfl,rfl,rfl,rfl,rfl⟩ (bu (aP f_law_asked hr (aa (pv 0) (aa (pv 4) ad ae) ae))) (λ_ _ _ _=>(ni (K:=K) (n:=2) rfl rfl (bD (bj (i:=0) (show List.Nodup [("name" : Str),("there" : Str)] by decide +kernel) rfl (by walk_at "z")) (bD (bj (i:=1) (show List.Nodup [("name" : Str),("there" : Str)] by decide +kernel) rfl (by walk_at "z")) eJ)))) (λ_ _ _ _=>bq) (λ_ _ _ _=>(pv 1))) rfl);exact aF 3 S.nd (av jR (pv 3) (bC hu (pv 2) (pv 4) (λ_ _=>rfl)));exact(aE (pv 2))
 walk_at "e";obtain⟨xs,met⟩:=zS ok st;have few:=met.few7 ok;have g7:=ok.g7;refine s_seq (ce ?_);intro F hF;refine az ?_;generalize hE:upd H F _=H1;obtain⟨S1,q1⟩:=aZ hF hE;clear hE;walk_at "s";refine ce (i_lst (aq (ai rfl (aI ⟨by simp[sizeLine],λL0 hL0=>az ?_⟩))));generalize hE:upd H1 L0 _=H2;obtain⟨S2,q2⟩:=aZ hL0 hE;clear hE;walk_at "s";let I33:IvF:=λm σ H'=>∃(ys ln:List Str) (ls:List Addr) (Ln:Addr) (x4:Option V),σ=[some (.ref a),some (.str z),some (.ref F),some (.ref Ln),x4]/\m=8*(129-ys.length)+ln.length/\am H H'/\WD H' F ins gs ys ls/\H' Ln=some (.lst (ln.map V.str))/\H Ln=none/\Ln∉ls/\ln.length<=8*ys.length+1/\WI ins gs z xs ys ln
 refine⟨I33,
  ⟨_,[],[z],[],L0,_,rfl,rfl,S1.trans S2,⟨S2 _ _ q1,rfl,λi y l e=>(nomatch e)⟩,q2,am.free S1 hL0,by simp,by simp,by simp,λy q=>by rw[QA.mp (q.resolve_left (by simp))];exact met.start,.inr (by simp),λy q=>(nomatch q)⟩,?_⟩
 rintro m σ H' ⟨ys,ln,ls,Ln,x4,rfl,rfl,SH,⟨hF',lls,hls⟩,hLn,hLn0,nLn,lln,wi⟩;have lys:ys.length<=xs.length:=Bf.pigeon _ _ wi.nd λy hy=>wi.sub y (.inl hy);have FL:F≠Ln:=λe=>by rw[e,hLn]at hF';cases hF'
 refine bi (br (ai rfl (i_lst (aI ⟨by simp[sizeLine],λp hp=>?_⟩))));generalize hE:upd H' p _=H3;obtain⟨S3,q3⟩:=aZ hp hE;clear hE;refine⟨Ln,p,ln.map V.str,[],λ_=>true,rfl,rfl,SqL.of (S3 _ _ hLn),SqL.of q3,(λj x y _ h=>by simp at h),⟨_,rfl,?_⟩⟩;have hLn3:=S3 _ _ hLn;have hF3:=S3 _ _ hF';have SH3:=SH.trans S3;have hls3:∀(i:Nat) y l,ys[i]?=some y->ls[i]?=some l->H3 l=some (.lst ((nxS ins gs y).map V.str)):=λi y l e1 e2=>S3 _ _ (hls i y l e1 e2);clear hls hF' hLn SH hp q3 S3;rcases List.eq_nil_or_concat ln with rfl|⟨l0,h,rfl⟩
 ·refine ck ?_;exact ca (ai rfl (k F ys xs ls H3 SH3 hF met (wi.fin met) ⟨hF3,lls,hls3⟩))
 rw[List.concat_eq_append] at *;refine ifT (by simp) ⟨_,λ_ _ h=>h,?_⟩;walk_at "s";refine ce (yO (ai rfl ⟨i_tyL hLn3,Ln,_,.str h,rfl,rfl,hLn3,by simp,az ?_⟩));rw[show ((l0++[h]).map V.str).dropLast=l0.map V.str by simp];have hLn4:upd H3 Ln (.lst (l0.map V.str)) Ln=some (.lst (l0.map V.str)):=ag;have hF4:upd H3 Ln (.lst (l0.map V.str)) F=some (.dK (fdK (au ys) ls)):=by rw[ak FL];exact hF3
 have SH4:am H (upd H3 Ln (.lst (l0.map V.str))):=aQ SH3 hLn0;have hls4:∀(i:Nat) y l,ys[i]?=some y->ls[i]?=some l->upd H3 Ln (.lst (l0.map V.str)) l=some (.lst ((nxS ins gs y).map V.str)):=λi y l e1 e2=>by rw[ak λe=>nLn (by rw[<-e];exact Qi e2)];exact hls3 i y l e1 e2
 generalize upd H3 Ln (.lst (l0.map V.str))=H4 at *;rw[Qj,List.length_singleton]at lln;have hx:h∈xs:=wi.sub h (.inr (by simp));have dg:cL H4 F (.str h) (ba (fdK (au ys) ls) (Sum.inr h)):=.inl ⟨_,Sum.inr h,.inl hF4,rfl,rfl⟩;refine s_if (bi (dJ (ai rfl (ai rfl ⟨F,_,rfl,dg,_,rfl,?_⟩))));by_cases c:h∈ys
 ·refine ifF ?_ ?_
  ·cases q:ba (fdK (au ys) ls) (Sum.inr h) with
   | none=>exact absurd c ((gZ (by omega)).mp q)
   | some _=>rfl
  exact⟨8*(129-ys.length)+l0.length,by simp,ys,l0,ls,Ln,_,rfl,rfl,SH4,⟨hF4,lls,hls4⟩,hLn4,hLn0,nLn,by omega,wi.old c⟩
 have hvn:=(gZ (ls:=ls) (by omega)).mpr c;refine ifT (by rw[hvn];rfl) ?_;have sth:=met.st h hx;walk_at "s";refine io (bS (s_list (i_call (aq (ai rfl (aq (ai rfl (aI ⟨a,li,lg,ins,gvs,gs,h,rfl,NA.same SH4,ok,sth,λl vs H5 S5 hl0 hl5 pr5=>⟨l,rfl,⟨_,SqL.of hl5⟩,λL hL=>?_⟩⟩))))))));have lv:=aN pr5;have l7:=d8 ins gs h;refine bU (xs:=vs) (λm H' ys=>am H5 H'/\H' L=some (.lst ys)/\ys=((nxS ins gs h).take m).map V.str) ⟨aj hL,ag,by simp⟩ (λm H' ys p=>⟨p.2.1,SqL.of (p.1 _ _ hl5)⟩) (λm v H' ys e p=>?_) (λH6 us p=>?_)
 ·obtain⟨Sm,hd,rfl⟩:=p;obtain⟨p,hp,b,rfl,hb⟩:=dA pr5 m v e;have hm:m<vs.length:=(Qe.mp e).1;refine⟨b,_,rfl,SqT.of (Sm _ _ hb),rfl,?_⟩;refine⟨_,_,rfl,az ⟨_,_,rfl,az ⟨rfl,by repeat' (first|exact trivial|refine⟨rfl,?_⟩),i_yes (bX ?_)⟩⟩⟩;refine ai rfl (bV.mk hd hm (by rw[Qa,Qs];omega) ⟨aQ Sm hL,ag,?_⟩);have:(nxS ins gs h)[m]?=some p.2:=by unfold nxS;rw[Qh,hp];rfl
  rw[QP,this,Qr];rfl
 obtain⟨Sm,hd,rfl⟩:=p;have ln:(nxS ins gs h).length=vs.length:=by unfold nxS;rw[Qa,lv]
 rw[Qt (by omega)]at hd;have S46:=S5.trans Sm;have hF6:=S46 _ _ hF4;have hLn6:=S46 _ _ hLn4;have L4:H4 L=none:=am.free S5 hL;refine ai rfl (ai rfl ⟨F,_,rfl,hX.k (k:=Sum.inr h) hF6 (by have:=nB (xs:=au ys) (as:=ls) (by unfold au;rw[Qa];omega);omega),?_⟩);rw[d_ _ hvn,show fdK (au ys) ls++[(Sum.inr h,V.ref L)]=fdK (au (ys++[h])) (ls++[L]) by unfold fdK au;rw[Qr,List.zip_append (by rw[Qa];omega),Qr];rfl];have FLh:F≠L:=λe=>by rw[<-e,hF4]at L4;cases L4
 have LnL:Ln≠L:=λe=>by rw[<-e,hLn4]at L4;cases L4
 have hF7:upd H6 F (.dK (fdK (au (ys++[h])) (ls++[L]))) F=some (.dK (fdK (au (ys++[h])) (ls++[L]))):=ag;have hL7:upd H6 F (.dK (fdK (au (ys++[h])) (ls++[L]))) L=some (.lst ((nxS ins gs h).map V.str)):=by rw[ak FLh.symm];exact hd
 have hLn7:upd H6 F (.dK (fdK (au (ys++[h])) (ls++[L]))) Ln=some (.lst (l0.map V.str)):=by rw[ak FL.symm];exact hLn6
 have hls7:∀(i:Nat) y l,(ys++[h])[i]?=some y->(ls++[L])[i]?=some l->upd H6 F (.dK (fdK (au (ys++[h])) (ls++[L]))) l=some (.lst ((nxS ins gs y).map V.str)):=λi y l e1 e2=>by
  by_cases ci:i<ys.length
  ·rw[QG ci]at e1;rw[QG (by omega)]at e2;have:=hls4 i y l e1 e2;rw[ak λe=>by rw[e,hF4]at this;cases this];exact S46 _ _ this
  have ei:i=ys.length:=by
   have:=(Qe.mp e1).1;simp at this;omega
  subst ei;rw[QE (Qg _),Nat.sub_self]at e1;rw[QE (by omega),lls,Nat.sub_self]at e2;cases e1;cases e2;exact hL7
 have SH7:am H (upd H6 F (.dK (fdK (au (ys++[h])) (ls++[L])))):=aQ (SH4.trans S46) hF;generalize upd H6 F (.dK (fdK (au (ys++[h])) (ls++[L])))=H7 at *;have w2:=wi.new met c;have nd2:=w2.nd;have lls2:(ls++[L]).length=(ys++[h]).length:=by simp[lls]
 have dg7:cL H7 F (.str h) (some (.ref L)):=eL (.inl hF7) nd2 (i:=ys.length) (by simp) (by rw[<-lls];simp);refine ce (br (ai rfl (i_dget (ai rfl (ai rfl ⟨F,_,rfl,dg7,pA hLn7 hL7 (by rw[Qa,Qa];omega) λN hN=>az ?_⟩)))));generalize hE:upd H7 N _=H8;obtain⟨S8,q8⟩:=aZ hN hE;clear hE;refine⟨8*(129-(ys++[h]).length)+(l0++nxS ins gs h).length,?_,ys++[h],l0++nxS ins gs h,ls++[L],N,_,rfl,rfl,SH7.trans S8,⟨S8 _ _ hF7,lls2,λi y l e1 e2=>S8 _ _ (hls7 i y l e1 e2)⟩,by rw[q8,Qr],am.free SH7 hN,λhm=>?_,?_,w2⟩
 ·have:(ys++[h]).length<=xs.length:=Bf.pigeon _ _ nd2 λy hy=>w2.sub y (.inl hy);rw[Qj,List.length_singleton]at this;simp only[Qj,List.length_singleton];omega
 ·obtain⟨i,hi,ei⟩:=Qq.mp hm;have:=hls7 i ((ys++[h])[i]'(by omega)) N (Qc _) (by rw[Qc hi,ei]);rw[hN]at this;cases this
 simp only[Qj,List.length_singleton];omega
end
section
variable {os hs ks:List Str}
theorem Run.last {x w:Str} (r:Run ins gs x os w):os=[]\/∃ps y n,Run ins gs x ps y/\ps.length+1=os.length/\(n,w)∈ao ins gs y:=by
 induction r with
 | nil=>exact .inl rfl
 | @cons z y w n os a b r ih =>
 refine .inr ?_;rcases ih with e|⟨ps,y',n',r',l,s⟩
 ·subst e;cases r;exact⟨[],z,n,.nil,rfl,a⟩
 exact⟨n::ps,y',n',.cons a b r',by simp[l],s⟩
theorem Run.cut {x w:Str} (r:Run ins gs x os w):∀k,k<=os.length->∃y,Run ins gs x (os.take k) y:=by
 induction r with
 | nil=>exact λk h=>⟨_,by rw[List.take_nil];exact .nil⟩
 | cons a b _ ih =>
 intro k h
 cases k with
 | zero=>exact⟨_,.nil⟩
 | succ k =>
 obtain⟨y,r'⟩:=ih k (by simpa using h);exact⟨y,.cons a b r'⟩
theorem rR:∀n,(∀os y,Run ins gs z os y->os.length<=n)->∃m,di ins gs z m
 | 0,h=>⟨0,h,[],z,.nil,rfl⟩
 | n+1,h=>by
  by_cases c:∃os y,Run ins gs z os y/\os.length=n+1
  ·exact⟨n+1,h,c⟩
  refine rR n λos y r=>?_;have:=h os y r;have:os.length≠n+1:=λe=>c ⟨os,y,r,e⟩;omega
def LvI (ins:List Str) (gs:List (Str × Rl)) (z:Str) (k:Nat) (hs:List Str):Prop:=hs.Nodup/\∀x,x∈hs↔∃os,os.length=k/\Run ins gs z os x
theorem LvI.next {k:Nat} (m:Met ins gs z xs) (l:LvI ins gs z k hs) (nd:ks.Nodup) (h:∀x,x∈ks↔∃y∈hs,x∈nxS ins gs y):LvI ins gs z (k+1) ks:=by
 refine⟨nd,λx=>(h x).trans ⟨λ⟨y,hy,hx⟩=>?_,λ⟨os,e,r⟩=>?_⟩⟩
 ·obtain⟨os,e,r⟩:=(l.2 y).mp hy;obtain⟨p,hp,rfl⟩:=Qk.mp hx;exact⟨os++[p.1],by simp[e],r.snoc hp (m.st _ (m.closed (m.runs r m.start) hp))⟩
 rcases r.last with e0|⟨ps,y,n,r',e',s⟩
 ·rw[e0]at e;cases e
 exact⟨y,(l.2 y).mpr ⟨ps,by omega,r'⟩,Qk.mpr ⟨_,s,rfl⟩⟩
theorem LvI.end {k:Nat} (l:LvI ins gs z (k+1) []):∃n,di ins gs z n:=by
 refine rR k λos y r=>Nat.le_of_not_lt λh=>?_;obtain⟨w,r'⟩:=r.cut (k+1) h;exact absurd ((l.2 w).mpr ⟨_,by rw[Qs];omega,r'⟩) (by simp)
theorem LvI.few {k:Nat} (m:Met ins gs z xs) (l:LvI ins gs z k hs):hs.length<=xs.length/\∀x∈hs,x∈xs:=by
 have:∀x∈hs,x∈xs:=λx hx=>by
  obtain⟨os,_,r⟩:=(l.2 x).mp hx;exact m.runs r m.start
 exact⟨Bf.pigeon _ _ l.1 this,this⟩
end
theorem uJ (kvs:List (Key × V)) (k:Key) (v:V):(cg kvs k v).length<=kvs.length+1:=by
 unfold cg
 split <;> simp
theorem zT (ks:List Str) (x:Str):cg (knK (au ks)) (Sum.inr x) (.bl true)=knK (au (Bf.bd ks [x])):=by
 by_cases c:x∈ks
 ·rw[Bf.kP c];have hm:(Sum.inr x:Key)∈au ks:=Qk.mpr ⟨x,c,rfl⟩;unfold cg;rw[cZ]
  cases q:ba (knK (au ks)) (Sum.inr x) with
  | none=>exact absurd hm (jd.mp q)
  | some v =>
  rw[Option.isSome_some,QF rfl];unfold knK;rw[QW];refine List.map_congr_left λy _=>?_;by_cases e:y=Sum.inr x
  ·subst e;simp
  simp[e]
 rw[Bf.kO c,d_ _ (jd.mpr λq=>by obtain⟨y,hy,e⟩:=Qk.mp q;cases e;exact c hy)];unfold knK au;simp
def jx:Sp:=λvs H Q _=>∃(F:Addr) (ins:List Str) (gs:List (Str × Rl)) (z:Str) (ys xs:List Str) (ls:List Addr),vs=[.ref F,.str z]/\WD H F ins gs ys ls/\Met ins gs z xs/\NetOk ins gs/\ys.Perm xs /\
 (∀d H',am H H'->(∃n,di ins gs z n)->Q (.ref d) H')/\(∀H',am H H'->(¬∃n,di ins gs z n)->Q .non H')
section
theorem k9:FnScope ["ways", "standing", "found", "here", "k", "ahead", "one", "there"] ["ways", "standing"] (aA (top 45)):=by walk_at "k"
theorem tH {f:Addr} {fd:FuncData} (Fu:Fun K "_law_levels" "_law_levels" (top 45) f fd) (T:Txt K mg TT):FnOk P w K mg base CX0 1 f fd ["ways", "standing"] jx:=by
 have S:=k9;refine Fu.ok S (by walk_at "l") (λcdv A outer s H vs Q E hr h=>?_);obtain⟨F,ins,gs,z,ys,xs,ls,rfl,⟨hF,lls,hls⟩,met,ok,pm,k1,k2⟩:=h;have hu:=du hr;refine'⟨?_,?bb,?_⟩
 case bb =>
  walk_at "b";exact aF 2 S.nd gP;exact aF 3 S.nd (bx (aa (pv 1) ad ae));walk_at "f";exact(cI (by rfl) T.n_range (aa (av aV (aB ud (by rfl) T.n_len QH (aa (pv 0) ad ae)) af) ad));exact(bQ 4 S.nd);walk_at "p";exact aF 5 S.nd gP;walk_at "f";exact(bu (pv 3));exact(bQ 6 S.nd);walk_at "p";exact(f6 hu (pv 2) (pv 6) (pv 4) rfl);walk_at "f";exact(bu (bC hu (pv 0) (pv 6) (λ_ _=>rfl)));exact(bQ 7 S.nd);walk_at "p";exact(f6 hu (pv 5) (pv 7) bR rfl);exact aF 3 S.nd (d6 (kG rfl) (by rfl) T.n_list Xu (aa (pv 5) ad ae));exact(aG (jQ hr.units) (pv 3) (bx ad) (aK _));exact(aE (pv 2));exact(aE fJ)
 walk_at "e";have few:=met.few7 ok;have g7:=ok.g7;have lys:=pm.length_eq;have ndy:=pm.nodup_iff.mpr met.nd;refine s_seq (ce ?_);intro D hD;refine az ?_;generalize hE:upd H D _=H1;obtain⟨S1,q1⟩:=aZ hD hE;clear hE;walk_at "s";refine ce (i_lst (aq (ai rfl (aI ⟨by simp[sizeLine],λL0 hL0=>az ?_⟩))));generalize hE:upd H1 L0 _=H2;obtain⟨S2,q2⟩:=aZ hL0 hE;clear hE;have S12:=S1.trans S2;have lk:(fdK (au ys) ls).length=ys.length:=by rw[nB (by unfold au;rw[Qa];omega)];exact lls
 walk_at "s";refine s_for (s_rng1 (aq (br (dL (aq (ai rfl (aI ⟨F,_,rfl,S12 _ _ hF,i_c (i_rI0 (aI ?_))⟩))))))) ;rw[lk];refine⟨_,rfl,by omega,by omega,?_⟩;rw[show ((ys.length:Int)+1).toNat=ys.length+1 by omega];let I34:IvF:=λi σ H'=>(∃(hs:List Str) (Hn:Addr) (kvs:List (Key × V)) (x4 x5 x6 x7:Option V),σ=[some (.ref F),some (.str z),some (.ref D),some (.ref Hn),x4,x5,x6,x7]/\am H H'/\H' D=some (.dK kvs)/\kvs.length<=128*i/\H' Hn=some (.lst (hs.map V.str))/\LvI ins gs z i hs/\hs≠[])
 refine dC (n:=ys.length+1) I34
  ⟨[z],L0,[],_,_,_,_,rfl,S12,S2 _ _ q1,by simp,q2,⟨by simp,λx=>⟨λh=>⟨[],rfl,by rw[QA]at h;rw[h];exact .nil⟩,λ⟨os,e,r⟩=>by rw[Xr]at e;subst e;cases r;simp⟩⟩,by simp⟩ (λi σ H' hi pv=>?_) (λσ H' pv=>?_)
 ·obtain⟨hs,Hn,kvs,x4,x5,x6,x7,rfl,SH,hD',lkv,hHn,lv,ne⟩:=pv;obtain⟨lhs,subx⟩:=lv.few met;refine az ?_;walk_at "s";refine ce ?_;intro Ah hAh;refine az ?_;generalize hE:upd H' Ah _=H3;obtain⟨S3,q3⟩:=aZ hAh hE;clear hE;have Ah0:H Ah=none:=am.free SH hAh;have AD:Ah≠D:=λe=>by rw[e,hD']at hAh;cases hAh
  have AN:Ah≠Hn:=λe=>by rw[e,hHn]at hAh;cases hAh
  have ND:Hn≠D:=λe=>by rw[e,hD']at hHn;cases hHn
  walk_at "s";refine s_for (s_list (ai rfl ⟨Hn,rfl,⟨_,SqL.of (S3 _ _ hHn)⟩,?_⟩));let Iv:=λ(j:Nat) (R:Str->Prop) (G:Hp)=>am H G/\G Hn=some (.lst (hs.map V.str))/\(∃kvs,G D=some (.dK kvs)/\kvs.length<=128*i+j)/\∃ks:List Str,G Ah=some (.dK (knK (au ks)))/\ks.Nodup/\∀x,x∈ks↔R x;let I35:IvF:=λj σ G=>(∃x6 x7:Option V,σ=[some (.ref F),some (.str z),some (.ref D),some (.ref Hn),some (.int (0+(i:Int))),some (.ref Ah),x6,x7])/\Iv j (λx=>∃y∈hs.take j,x∈nxS ins gs y) G
  refine dM (xs:=hs.map V.str) I35
   ⟨⟨_,_,rfl⟩,SH.trans S3,S3 _ _ hHn,⟨kvs,S3 _ _ hD',by omega⟩,[],q3,by simp,by simp⟩ (λj σ G _ pv=>SqL.of pv.2.2.1) (λj v σ G hv pv=>?_) (λσ G pv=>?_)
  ·obtain⟨⟨x6,x7,rfl⟩,SG,gHn,⟨kv2,gD,lkv2⟩,ks,gA,ndk,mk⟩:=pv;rw[Qh]at hv
   cases ey:hs[j]? with
   | none=>rw[ey]at hv;cases hv
   | some y =>
   rw[ey]at hv;cases hv;have hj:=(Qe.mp ey).1;have hyx:=subx y (Qi ey);refine az ?_;walk_at "s";refine io (ai rfl (ai rfl (ai rfl ⟨D,_,rfl,hX.k (k:=Sum.inr y) gD (by omega),?_⟩)));have lk2:=uJ kv2 (Sum.inr y) (.int (0+(i:Int)));generalize cg kv2 (Sum.inr y) (.int (0+(i:Int)))=kv3 at *;have SG2:am H (upd G D (.dK kv3)):=aQ SG hD;have gD2:upd G D (.dK kv3) D=some (.dK kv3):=ag;have gA2:upd G D (.dK kv3) Ah=some (.dK (knK (au ks))):=by rw[ak AD];exact gA
   have gHn2:upd G D (.dK kv3) Hn=some (.lst (hs.map V.str)):=by rw[ak ND];exact gHn
   generalize upd G D (.dK kv3)=G2 at *;obtain⟨ix,hix,eix⟩:=Qq.mp (pm.mem_iff.mpr hyx);have ex:ys[ix]?=some y:=by rw[Qc hix,eix]
   obtain⟨b,eb⟩:∃b,ls[ix]?=some b:=⟨_,Qc (by omega)⟩;have hb:=hls ix y b ex eb;have tk:hs.take (j+1)=hs.take j++[y]:=by rw[QP,ey];rfl
   refine s_for (s_list (i_dget (ai rfl (ai rfl ⟨F,_,rfl,eL (.inl (SG2 _ _ hF)) ndy ex eb,b,rfl,⟨_,SqL.of (SG2 _ _ hb)⟩,?_⟩))));let I36:IvF:=λl σ G=>(∃x7:Option V,σ=[some (.ref F),some (.str z),some (.ref D),some (.ref Hn),some (.int (0+(i:Int))),some (.ref Ah),some (.str y),x7])/\Iv (j+1) (λx=>(∃y∈hs.take j,x∈nxS ins gs y)\/x∈(nxS ins gs y).take l) G
   refine dM (xs:=(nxS ins gs y).map V.str) I36
    ⟨⟨_,rfl⟩,SG2,gHn2,⟨kv3,gD2,by omega⟩,ks,gA2,ndk,by simpa using mk⟩ (λl σ G _ pv=>SqL.of (pv.2.1 _ _ hb)) (λl v σ G hv pv=>?_) (λσ G pv=>?_)
   ·obtain⟨⟨x7,rfl⟩,SG,gHn,⟨kv4,gD,lkv4⟩,ks,gA,ndk,mk⟩:=pv;rw[Qh]at hv
    cases eu:(nxS ins gs y)[l]? with
    | none=>rw[eu]at hv;cases hv
    | some u =>
    rw[eu]at hv;cases hv
    have lks:ks.length<=xs.length:=Bf.pigeon _ _ ndk λx hx=>by
     rcases(mk x).mp hx with⟨y',hy',q⟩|q
     ·obtain⟨p,hp,rfl⟩:=Qk.mp q;exact met.closed (subx y' (List.mem_of_mem_take hy')) hp
     obtain⟨p,hp,rfl⟩:=Qk.mp (List.mem_of_mem_take q);exact met.closed hyx hp
    refine az ?_;refine io (i_c (ai rfl (ai rfl ⟨Ah,_,rfl,hX.k (k:=Sum.inr u) gA (by unfold knK au;rw[Qa,Qa];omega),?_⟩)));rw[zT];refine⟨⟨_,rfl⟩,aQ SG Ah0,by rw[ak AN.symm];exact gHn,⟨kv4,by rw[ak AD.symm];exact gD,lkv4⟩,_,ag,Bf.dX _ _ ndk,λx=>?_⟩;rw[Bf.eA,mk,QP,eu];show (_\/_)\/x∈[u]↔_\/x∈_++[u];rw[Qv,or_assoc]
   obtain⟨⟨x7,rfl⟩,SG,gHn,⟨kv4,gD,lkv4⟩,ks,gA,ndk,mk⟩:=pv;rw[Qa,Qt (Qg _)]at mk;refine⟨⟨_,_,rfl⟩,SG,gHn,⟨kv4,gD,lkv4⟩,ks,gA,ndk,λx=>(mk x).trans ?_⟩;rw[tk];simp[or_and_right,exists_or]
  obtain⟨⟨x6,x7,rfl⟩,SG,gHn,⟨kv2,gD,lkv2⟩,ks,gA,ndk,mk⟩:=pv;rw[Qa]at lkv2 mk;rw[Qt (Qg _)]at mk;have lv2:=lv.next met ndk mk
  try dsimp only
  walk_at "s";refine ce (dL (aq (ai rfl (aI ⟨Ah,_,rfl,.inl gA,λHm hHm=>az ?_⟩))));rw[show (knK (au ks)).map (λp=>kV p.1)=ks.map V.str by unfold knK au;rw[QW,QW];rfl];generalize hE:upd G Hm _=G3;obtain⟨S3,q3⟩:=aZ hHm hE;clear hE;refine s_if (bi (br (ai rfl (i_lst (aI ⟨by simp[sizeLine],λp hp=>?_⟩)))));generalize hE:upd G3 p _=G4;obtain⟨S4,q4⟩:=aZ hp hE;clear hE;refine⟨Hm,p,ks.map V.str,[],λ_=>true,rfl,rfl,SqL.of (S4 _ _ q3),SqL.of q4,(λj x y _ h=>by simp at h),⟨_,rfl,?_⟩⟩;have SG4:=SG.trans (S3.trans S4)
  cases ks with
  | nil =>
   refine bX ?_;exact ca (ai rfl (k1 _ _ SG4 lv2.end))
  | cons u ks =>
  refine ck ?_;walk_at "s";exact⟨_,Hm,kv2,_,_,_,_,rfl,SG4,(S3.trans S4) _ _ gD,by omega,S4 _ _ q3,lv2,by simp⟩
 obtain⟨hs,Hn,kvs,x4,x5,x6,x7,rfl,SH,hD',lkv,hHn,lv,ne⟩:=pv
 try dsimp only
 refine ca (i_c (k2 _ SH λ⟨n,l⟩=>?_))
 cases hs with
 | nil=>exact ne rfl
 | cons x hs =>
 obtain⟨os,e,r⟩:=(lv.2 x).mp (by simp);have:=l.lt met r;omega
end
section
theorem SD.fat (h:SD H F ins gs xs) (nd:xs.Nodup):FAt H F ins gs (·∈xs):=λy hy=>by
 obtain⟨as,r,las,sts⟩:=h;obtain⟨i,hi,e⟩:=Qq.mp hy;have e1:xs[i]?=some y:=by rw[Qc hi,e]
 obtain⟨b,e2⟩:∃b,as[i]?=some b:=⟨_,Qc (by omega)⟩;exact⟨b,eL r nd e1 e2,sts i y b e1 e2⟩
theorem SD.frz {kvs:List (Key × V)} {o:Obj} (h:SD H F ins gs xs) (r:Rd H F (.dK kvs)) (e:∀{as:List Addr},Rd H F (.dK (fdK (au xs) as))->kvs=fdK (au xs) as):SD (upd H F (.frz o (.dK kvs))) F ins gs xs:=by
 obtain⟨as,r2,las,sts⟩:=h;refine⟨as,.inr ⟨o,by rw[<-e r2];exact ag⟩,las,λi x b e1 e2=>?_⟩;obtain⟨vs,h1,h2⟩:=sts i x b e1 e2;refine⟨vs,by rw[ak (gO r h1 (λ_ z=>nomatch z) λ_ _ z=>nomatch z)];exact h1,bK (λv s ⟨c,ec,q⟩=>⟨c,ec,?_⟩) h2⟩;rw[ak (gO r q (λ_ z=>nomatch z) λ_ _ z=>nomatch z)];exact q
theorem uG {u v:HO} {a:Addr} (r:Rd H a u) (f:Fz u) (r2:Rd H a v) (f2:Fz v):u=v:=by
 rcases r with r|⟨o,r⟩ <;> rcases r2 with r2|⟨o2,r2⟩ <;> rw[r]at r2 <;> cases r2 <;> first|rfl|exact f.elim|exact f2.elim
end
def dS (ins:List Str) (gs:List (Str × Rl)) (xs:List Str):Bool:=xs.all λh=>(ao ins gs h).all λp=>decide (p.2∈xs)
def gn:Sp:=λvs H Q _=>∃(F:Addr) (ins:List Str) (gs:List (Str × Rl)) (xs:List Str),vs=[.ref F]/\SD H F ins gs xs/\xs.Nodup/\xs.length<=5000/\NetOk ins gs/\∀H',am H H'->Q (.bl (dS ins gs xs)) H'
theorem iS:dS ins gs xs=true↔∀h∈xs,∀p∈ao ins gs h,p.2∈xs:=by
 unfold dS;simp[QK]
theorem tY {ta:TA} (q:ta σ H λvs H1=>∃l ts,vs=[.ref l]/\SqL K H1 l (ts.map V.str)/\ts.length<4000/\∀(p:Addr) (ss:List Str),H1 p=none->xK ts ss->Q (.ref p) (upd H1 p (.lst (ss.map V.str)))):oo K ta σ H Q:=q
theorem yN {neg:Bool} {ys:List Str} (h1:SqL K H a (xs.map V.str)) (h2:SqL K H b (ys.map V.str)) (q:Q (.bl (if neg then !decide (xs=ys) else decide (xs=ys))) H):qm K neg (.ref a) (.ref b) H Q:=by
 refine⟨a,b,_,_,λj=>decide (xs[j]?=ys[j]?),rfl,rfl,h1,h2,λj x y e1 e2=>?_,?_⟩
 ·rw[Qh]at e1 e2
  cases c1:xs[j]? with
  | none=>rw[c1]at e1;cases e1
  | some u =>
  cases c2:ys[j]? with
  | none=>rw[c2]at e2;cases e2
  | some v =>
  rw[c1]at e1;rw[c2]at e2;cases e1;cases e2;have q:=EqD.flat (K:=K) (H:=H) (n:=8) (x:=V.str u) (y:=V.str v) rfl rfl
  have e:eqV (.str u) (.str v)=decide (some u=some v):=by
   show decide (u=v)=_;simp
  rw[e]at q;show EqD K H 8 (V.str u) (V.str v) (decide (xs[j]?=ys[j]?));rw[c1,c2];exact q
 have e:((xs.map V.str).length==(ys.map V.str).length&&(List.range (xs.map V.str).length).all λj=>decide (xs[j]?=ys[j]?))=decide (xs=ys):=by
  rw[Qa,Qa];by_cases c:xs=ys
  ·subst c;rw[Q7 rfl,beq_self_eq_true,Bool.true_and,QK];intro j _;exact Q7 rfl
  rw[QU c];refine Xi.mpr λz=>c ?_;rw[Xl,QK]at z;obtain⟨z1,z2⟩:=z;have z1:xs.length=ys.length:=of_decide_eq_true z1;refine List.ext_getElem? λj=>?_;by_cases cj:j<xs.length
  ·exact of_decide_eq_true (z2 j (List.mem_range.mpr cj))
  rw[Xc (by omega),Xc (by omega)]
 rw[e];exact q
noncomputable def wM (ss:List Str):Bool:=@decide (ss.Nodup/\ss.Pairwise leT) (Classical.propDecidable _)
theorem gJ:wM ss=true↔ss.Nodup/\ss.Pairwise leT:=by
 unfold wM;exact @XR _ (Classical.propDecidable _)
theorem uA {ts:List Str} (h:xK ts ss):decide (ts=ss)=wM ts:=by
 by_cases c:ts=ss
 ·rw[Q7 c,c];exact(gJ.mpr ⟨h.1,h.2.2⟩).symm
 rw[QU c];refine(Xi.mpr λz=>c ?_).symm;obtain⟨z1,z2⟩:=gJ.mp z;exact jB z2 h.2.2 ((List.perm_ext_iff_of_nodup z1 h.1).mpr λx=>(h.2.1 x).symm)
noncomputable def jO (n:Nat) (ss:List Str):Bool:=ss.all (stB n)&&wM ss
def ij:Sp:=λvs H Q _=>∃(a li lg:Addr) (ins:List Str) (gvs:List V) (gs:List (Str × Rl)) (p:Addr) (ss:List Str),vs=[.ref a,.ref p]/\NAt H a li lg ins gvs gs/\NetOk ins gs/\H p=some (.lst (ss.map V.str))/\ss.length<4000/\(∀x∈ss,x.length<=1000)/\∀H',am H H'->Q (.bl (jO (ap ins gs).length ss)) H'
theorem zp (h:jO n ss=true):(∀x∈ss,StOk n x)/\ss.Nodup/\ss.Pairwise leT:=by
 unfold jO at h;rw[Xl,QK]at h;exact⟨λx hx=>mw.mp (h.1 x hx),gJ.mp h.2⟩
theorem sV (nd:xs.Nodup) (l:as.length=xs.length):bw [] (cN (xs.zip (as.map V.ref)))=fdK (au xs) as:=by
 suffices h:∀(pre:List Str) (pas:List Addr),pas.length=pre.length->(pre++xs).Nodup->bw (fdK (au pre) pas) (cN (xs.zip (as.map V.ref)))=fdK (au (pre++xs)) (pas++as) from h [] [] rfl nd
 clear nd
 induction xs generalizing as with
 | nil=>intro pre pas h _;simp at l;subst l;simp[cN,bw]
 | cons x xs ih =>
 cases as with
 | nil=>simp at l
 | cons a as =>
 intro pre pas h nd;show bw (cg (fdK (au pre) pas) (Sum.inr x) (.ref a)) (cN (xs.zip (as.map V.ref)))=_;have nx:x∉pre:=λhx=>(Xy.mp nd).2.2 x hx x (by simp) rfl;rw[d_ _ ((gZ h).mpr nx),<-v4 h,ih (by simpa using l) (pre++[x]) (pas++[a]) (by simp[h]) (by simpa using nd)];simp
section
theorem mS:FnScope ["steps", "here"] ["steps"] (aA (top 23)):=by walk_at "k"
theorem oW {f:Addr} {fd:FuncData} (Fu:Fun K "is_closed" "is_closed" (top 23) f fd) (T:Txt K mg TT):FnOk P w K mg base CX0 1 f fd ["steps"] gn:=by
 have S:=mS;refine Fu.ok S (by walk_at "l") (λcdv A outer s H vs Q E hr h=>?_);obtain⟨F,ins,gs,xs,rfl,sd,nd,few,ok,k⟩:=h;have hu:=du hr;refine'⟨?_,?bb,?_⟩
 case bb =>
  walk_at "b";refine' nc ?_;rotate_left 1;walk_at "f";exact(ed (pv 0));exact(bQ 1 S.nd);walk_at "p";exact(c8 (cK (aB (fR rfl) (by rfl) T.n_all PyProof.Rows.boot_all (aa (dr (tgs:=["step"]) (cap:=[("steps", 0)]) rfl ⟨rfl,rfl,rfl,rfl,rfl,rfl⟩ (bu (bC hu (pv 0) (pv 1) (λ_ _=>rfl))) (λ_ _ _ _=>(bj (i:=0) (show List.Nodup [("step" : Str),("steps" : Str)] by decide +kernel) rfl (by walk_at "z"))) (λ_ _ _ _=>bq) (λ_ _ _ _=>(zn (zo hu (aC (je (K:=K) rfl) (pv 0) af (λ_ _=>rfl)) (pv 1))))) ad))));exact(aE bR);exact(aE bR)
 walk_at "e";obtain⟨as,r,las,sts⟩:=id sd;have lk:(fdK (au xs) as).length=xs.length:=by unfold fdK au;simp[las]
 walk_at "s";refine rD r trivial λo=>?_
 have sd2:SD (upd H F (.frz o (.dK (fdK (au xs) as)))) F ins gs xs:=sd.frz r λr2=>by
  injection uG r trivial r2 trivial
 have hF2:upd H F (.frz o (.dK (fdK (au xs) as))) F=some (.frz o (.dK (fdK (au xs) as))):=ag;have bk:∀{H':Hp},am (upd H F (.frz o (.dK (fdK (au xs) as)))) H'->am H (back H F H'):=λS=>dE r S;generalize upd H F (.frz o (.dK (fdK (au xs) as)))=H2 at *;refine s_for (fg (ai rfl ⟨F,o,_,rfl,hF2,?_⟩));let I37:IvF:=λi σ' H'=>(∃x1,σ'=[some (.ref F),x1])/\am H2 H'/\∀i'<i,∀h,xs[i']?=some h->((ao ins gs h).all λp=>decide (p.2∈xs))=true;refine gY I37 ⟨⟨_,rfl⟩,am.refl _,λi' h=>absurd h (Nat.not_lt_zero _)⟩ (λi σ' H' _ pv=>pv.2.1 _ _ hF2) (λi k' v σ' H' e pv=>?_) (λσ' H' pv=>?_)
 ·obtain⟨⟨x1,rfl⟩,Sm,no⟩:=pv;obtain⟨x,b,e1,e2,rfl,rfl⟩:=ki e;have hx:=Qi e1;obtain⟨b',dg,vs,hvs,pvs⟩:=(sd2.same Sm).fat nd x hx;have rF:Rd H' F (.dK (fdK (au xs) as)):=.inr ⟨o,Sm _ _ hF2⟩;have lvs:vs.length=(ao ins gs x).length:=by have:=aN pvs;unfold cM at this;rwa [Qa]at this
  have l7:=d8 ins gs x;have g7:=ok.g7;refine az ?_;walk_at "s";refine i_not (i_tB (dL (aq (bS (s_list (i_dget (ai rfl (ai rfl ⟨F,_,rfl,dg,b',rfl,⟨_,SqL.of hvs⟩,λL hL=>?_⟩))))))));let I38:IvC:=λm H3 ys=>am H' H3/\H3 L=some (.lst ys)/\ys=(((ao ins gs x).take m).map λp=>decide (p.2∈xs)).map V.bl;refine bU (xs:=vs) I38 ⟨aj hL,ag,rfl⟩ (λm H' ys p=>⟨p.2.1,SqL.of (p.1 _ _ hvs)⟩) (λm v H3 ys e p=>?_) (λH3 ys p=>?_)
  ·obtain⟨S3,hd,rfl⟩:=p;obtain⟨p,b2,hp,rfl,hb2⟩:=gk pvs e;have hm:m<vs.length:=(Qe.mp e).1;refine az ⟨by repeat' (first|exact trivial|refine⟨rfl,?_⟩),i_yes (bX ?_)⟩;refine De (br (ai rfl (i_c (i_ixT (S3 _ _ hb2) rfl (ai rfl ?_)))));refine⟨F,ba (fdK (au xs) as) (Sum.inr p.2),rfl,.inl ⟨_,Sum.inr p.2,mW S3 rF,rfl,rfl⟩,?_⟩
   have dv:(ba (fdK (au xs) as) (Sum.inr p.2)).isSome=decide (p.2∈xs):=by
    by_cases c:p.2∈xs
    ·rw[Q7 c]
     cases hv:ba (fdK (au xs) as) (Sum.inr p.2) with
     | none=>exact absurd c ((gZ las).mp hv)
     | some _=>rfl
    rw[QU c,(gZ las).mpr c];rfl
   rw[dv];refine bV.mk hd hm (by rw[Qa,Qa,Qs];omega) ⟨aQ S3 hL,ag,?_⟩;rw[QP,hp,XB,Qr,Qr];rfl
  obtain⟨S3,hd,rfl⟩:=p;rw[lvs,Qt (Qg _)]at hd;refine aI ⟨L,_,rfl,SqL.of hd,?_⟩;refine⟨_,rfl,?_⟩;rw[List.all_map];by_cases c:((ao ins gs x).all λp=>decide (p.2∈xs))=true
  ·have e:((ao ins gs x).all (id∘λp=>decide (p.2∈xs)))=true:=c;rw[e];refine ck ?_;walk_at "w";refine⟨⟨_,rfl⟩,Sm.trans S3,λi' hi' h eh=>?_⟩;by_cases ci:i'<i
   ·exact no i' ci h eh
   have:i'=i:=by omega
   subst this;rw[e1]at eh;cases eh;exact c
  have e:((ao ins gs x).all (id∘λp=>decide (p.2∈xs)))=false:=Xi.mpr c;rw[e];refine bX ?_;walk_at "w";refine⟨(Sm.trans S3) _ _ hF2,?_⟩;have hb:dS ins gs xs=false:=Xi.mpr λz=>c (QK.mp z x hx);have:=k _ (bk (Sm.trans S3));rwa [hb]at this
 obtain⟨⟨x1,rfl⟩,Sm,no⟩:=pv;refine⟨Sm _ _ hF2,?_⟩;walk_at "w"
 have hb:dS ins gs xs=true:=QK.mpr λh hh=>by
  obtain⟨i,hi,e⟩:=Qq.mp hh;exact no i (by rw[lk];exact hi) h (by rw[Qc hi,e])
 have:=k _ (bk Sm);rwa [hb]at this
theorem oJ:FnScope ["net", "thing"] ["net", "thing"] (aA (top 22)):=by walk_at "k"
theorem qy {f:Addr} {fd:FuncData} (Fu:Fun K "is_paper" "is_paper" (top 22) f fd) (T:Txt K mg TT) (f_is_standing:Fn P w K mg base "is_standing" ["net", "thing"] 2 i8):FnOk P w K mg base CX0 3 f fd ["net", "thing"] ij:=by
 have S:=oJ;refine Fu.ok S (by walk_at "l") (λcdv A outer s H vs Q E hr h=>?_);obtain⟨a,li,lg,ins,gvs,gs,p,ss,rfl,NA,ok,hp,few,len,k⟩:=h;refine'⟨?_,?bb,?_⟩
 case bb =>
  walk_at "b";exact(PW.pt (dq (c8 (cK (aB bB (by rfl) T.n_isinstance QY (aa (pv 1) (aa (c_ (v:=.ty "list") (by rfl) T.n_list Xu rfl) ad ae) ae)))) (cR (c8 (cK (aB (fR rfl) (by rfl) T.n_all PyProof.Rows.boot_all (aa (dr (tgs:=["part"]) (cap:=[("net", 0)]) rfl ⟨rfl,rfl,rfl,rfl,rfl,rfl⟩ (bu (pv 1)) (λ_ _ _ _=>(bj (i:=0) (show List.Nodup [("part" : Str),("net" : Str)] by decide +kernel) rfl (by walk_at "z"))) (λ_ _ _ _=>bq) (λ_ _ _ _=>(aP f_is_standing hr (aa (pv 1) (aa (pv 0) ad ae) ae)))) ad)))))));exact(aE bR);exact(aE (c9 (jQ hr.units) (pv 1) (qo rfl (by rfl) T.n_sorted (by rfl) T.n_set (aa (pv 1) ad ae)) (aK _)))
 walk_at "e";walk_at "w";refine⟨_,_,_,_,rfl,TyOf.lst hp,dh "list", ?_⟩;refine⟨_,rfl,ck ?_⟩;refine i_not (i_tB (dL (aq (bS (s_list (ai rfl ⟨p,rfl,⟨_,SqL.of hp⟩,λL hL=>?_⟩))))));refine bU (xs:=ss.map V.str) (λm H3 ys=>am H H3/\H3 L=some (.lst ys)/\ys=((ss.take m).map (stB (ap ins gs).length)).map V.bl) ⟨aj hL,ag,rfl⟩ (λm H' ys pv=>⟨pv.2.1,SqL.of (pv.1 _ _ hp)⟩) (λm v H3 ys e pv=>?_) (λH3 ys pv=>?_)
 ·obtain⟨S3,hd,rfl⟩:=pv;rw[Qh]at e
  cases ex:ss[m]? with
  | none=>rw[ex]at e;cases e
  | some x =>
  rw[ex]at e;cases e;have hm:m<ss.length:=(Qe.mp ex).1;refine az ⟨by repeat' (first|exact trivial|refine⟨rfl,?_⟩),i_yes (bX ?_)⟩;refine i_call (aq (ai rfl (aq (ai rfl (aI ⟨a,li,lg,ins,gvs,gs,x,rfl,NA.same S3,ok,len x (Qi ex),λH4 S4=>?_⟩)))));refine bV.mk (S4 _ _ hd) (by rw[Qa];exact hm) (by rw[Qa,Qa,Qs];omega) ⟨aQ (S3.trans S4) hL,ag,?_⟩;rw[QP,ex,XB,Qr,Qr];rfl
 obtain⟨S3,hd,rfl⟩:=pv;rw[Qa,Qt (Qg _)]at hd;refine aI ⟨L,_,rfl,SqL.of hd,?_⟩;refine⟨_,rfl,?_⟩;rw[List.all_map];by_cases c:ss.all (stB (ap ins gs).length)=true
 ·have e:ss.all (id∘stB (ap ins gs).length)=true:=c;rw[e];refine ck ?_;walk_at "w";refine tY (aq (ai rfl (aI ⟨p,ss,rfl,SqL.of (S3 _ _ hp),few,λq s7 hq su=>?_⟩)));refine yN (SqL.of (aj hq _ _ (S3 _ _ hp))) (SqL.of ag) ?_;have:=k _ (S3.trans (aj (o:=.lst (s7.map V.str)) hq));unfold jO at this;rw[c,Bool.true_and,<-uA su]at this;exact this
 have e:ss.all (id∘stB (ap ins gs).length)=false:=Xi.mpr c;rw[e];refine bX ?_;walk_at "w";have:=k _ S3;unfold jO at this;rw[Xi.mpr c]at this;exact this
end
theorem vK:PySem.W.kitOne K (.type "int") (.type "bool")=some false:=by with_unfolding_all rfl
def hV (H:Hp) (p:Addr) (bs:List Addr) (qs:List (Str × Int)):Prop:=H p=some (.lst (bs.map V.ref))/\bs.length=qs.length/\∀(i:Nat) b q,bs[i]?=some b->qs[i]?=some q->H b=some (.tup [.str q.1,.int q.2])
variable {qs:List (Str × Int)}
theorem hV.same {bs:List Addr} (S:am H H') (h:hV H p bs qs):hV H' p bs qs:=⟨S _ _ h.1,h.2.1,λi b q e1 e2=>S _ _ (h.2.2 i b q e1 e2)⟩
theorem hV.prs {bs:List Addr} (h:hV H p bs qs):Paired (pN H) (bs.map V.ref) (qs.map λq=>(q.1,V.int q.2)):=by
 refine eS (by rw[Qa,Qa,h.2.1]) λi v q e1 e2=>?_;rw[Qh]at e1 e2
 cases c1:bs[i]? with
 | none=>rw[c1]at e1;cases e1
 | some b =>
 cases c2:qs[i]? with
 | none=>rw[c2]at e2;cases e2
 | some q' =>
 rw[c1]at e1;rw[c2]at e2;cases e1;cases e2;exact⟨b,rfl,h.2.2 i b q' c1 c2⟩
theorem eW (qs:List (Str × Int)):(bG qs).map (·.1)=au (qs.map (·.1)):=by unfold bG au;rw[QW,QW];rfl
theorem pi (nd:(qs.map (·.1)).Nodup):bw [] (cN (qs.map λq=>(q.1,V.int q.2)))=bG qs:=by
 have e:cN (qs.map λq=>(q.1,V.int q.2))=bG qs:=by unfold cN bG;rw[QW];rfl
 rw[e,fZ _ _ (by rw[eW];exact fP nd) (λ_ _=>rfl),List.nil_append]
theorem gU (nd:(qs.map (·.1)).Nodup) {q:Str × Int} (h:q∈qs):ba (bG qs) (Sum.inr q.1)=some (.int q.2):=by
 obtain⟨i,hi,e⟩:=Qq.mp h;refine eF (i:=i) (by rw[eW];exact fP nd) ?_;unfold bG;rw[Qh,Qc hi,e];rfl
theorem rY:(ba (bG qs) (Sum.inr x)).isSome=decide (x∈qs.map (·.1)):=by
 cases q:ba (bG qs) (Sum.inr x) with
 | none =>
  have:=cS.mp q;rw[eW]at this;rw[QU λh=>this (Qk.mpr ⟨x,h,rfl⟩)];rfl
 | some v =>
 rw[Q7]
 ·rfl
 refine Decidable.byContradiction λh=>?_
 have:ba (bG qs) (Sum.inr x)=none:=cS.mpr λz=>by
  rw[eW]at z;obtain⟨y,hy,e⟩:=Qk.mp z;cases e;exact h hy
 rw[this]at q;cases q
theorem vN (nd:(qs.map (·.1)).Nodup) (h:x∈qs.map (·.1)):∃n,(x,n)∈qs/\ba (bG qs) (Sum.inr x)=some (.int n):=by
 obtain⟨q,hq,rfl⟩:=Qk.mp h;exact⟨q.2,hq,gU nd hq⟩
def ltV:Option V->Int->Bool
 | some (.int m),n=>decide (m<n)
 | _,_=>false
def lU (ins:List Str) (gs:List (Str × Rl)) (qs:List (Str × Int)):Bool:=qs.all λq=>(ao ins gs q.1).all λp=>ltV (ba (bG qs) (Sum.inr p.2)) q.2
def vC (qs:List (Str × Int)):Bool:=qs.all λq=>decide (0<=q.2)
noncomputable def shB (ins:List Str) (gs:List (Str × Rl)) (z r:Str) (qs:List (Str × Int)):Bool:=vC qs&&jO (ap ins gs).length (qs.map (·.1))&&decide (z∈qs.map (·.1))&&dS ins gs (qs.map (·.1))&&lU ins gs qs&&decide (((qs.map (·.1)).filter λh=>decide ((ao ins gs h).length=0))=[r])
def pW:Sp:=λvs H Q _=>∃(b:Addr) (x y:V),vs=[.ref b]/\H b=some (.tup [x,y])/\Q (.bl true) H
def mC:Sp:=λvs H Q _=>∃i:Int,vs=[.int i]/\Q (.bl true) H
def pX:Sp:=λvs H Q _=>∃(b:Addr) (x:Str) (n:Int),vs=[.ref b]/\H b=some (.tup [.str x,.int n])/\Q (.bl (decide (0<=n))) H
def p6:Sp:=λvs H Q _=>∃(a li lg:Addr) (ins:List Str) (gvs:List V) (gs:List (Str × Rl)) (p:Addr) (bs:List Addr) (qs:List (Str × Int)),vs=[.ref a,.ref p]/\NAt H a li lg ins gvs gs/\NetOk ins gs/\hV H p bs qs/\qs.length<4000/\(∀q∈qs,q.1.length<=1000)/\∀H',am H H'->Q (.bl (vC qs&&jO (ap ins gs).length (qs.map (·.1)))) H'
def qc:Sp:=λvs H Q _=>∃(F N:Addr) (ins:List Str) (gs:List (Str × Rl)) (qs:List (Str × Int)),vs=[.ref F,.ref N]/\SD H F ins gs (qs.map (·.1))/\(qs.map (·.1)).Nodup/\qs.length<=5000/\H N=some (.dK (bG qs))/\N≠F/\dS ins gs (qs.map (·.1))=true/\NetOk ins gs/\∀H',am H H'->Q (.bl (lU ins gs qs)) H'
def ju:Sp:=λvs H Q _=>∃(a li lg:Addr) (ins:List Str) (gvs:List V) (gs:List (Str × Rl)) (z r:Str) (p:Addr) (bs:List Addr) (qs:List (Str × Int)),vs=[.ref a,.str z,.str r,.ref p]/\NAt H a li lg ins gvs gs/\NetOk ins gs/\StOk (ap ins gs).length z/\hV H p bs qs/\qs.length<4000/\(∀q∈qs,q.1.length<=1000)/\∀H',am H H'->Q (.bl (shB ins gs z r qs)) H'
section
theorem qk:FnScope ["thing"] ["thing"] (aA (top 5)):=by walk_at "k"
variable {fd:FuncData} {f:Addr}
theorem w_ (Fu:Fun K "is_pair" "is_pair" (top 5) f fd) (T:Txt K mg TT):FnOk P w K mg base CX0 1 f fd ["thing"] pW:=by
 have S:=qk;refine Fu.ok S (by walk_at "l") (λcdv A outer s H vs Q E hr h=>?_);obtain⟨b,x,y,rfl,hb,k⟩:=h;refine⟨_,(a8 (aE (fK (aB bB (by rfl) T.n_isinstance QY (aa (pv 0) (aa (c_ (v:=.ty "tuple") (by rfl) T.n_tuple PyProof.Rows.boot_tuple rfl) ad ae) ae)) (fI (c9 cA (aB aJ (by rfl) T.n_len QH (aa (pv 0) ad ae)) af (aK _)))))),?_⟩;walk_at "e";refine ca (i_andV (dL (aq (ai rfl (aq (i_c (aI ⟨_,_,_,_,rfl,TyOf.tup hb,dh "tuple", ⟨_,rfl,bX ?_⟩⟩)))))));exact br (dL (aq (ai rfl (aI ⟨b,_,rfl,.inr (SqT.of hb),i_c (i_eq rfl k)⟩))))
theorem oH:FnScope ["thing"] ["thing"] (aA (top 6)):=by walk_at "k"
theorem vm (Fu:Fun K "is_whole" "is_whole" (top 6) f fd) (T:Txt K mg TT):FnOk P w K mg base CX0 1 f fd ["thing"] mC:=by
 have S:=oH;refine Fu.ok S (by walk_at "l") (λcdv A outer s H vs Q E hr h=>?_);obtain⟨i,rfl,q⟩:=h;refine⟨_,(a8 (aE (fK (aB bB (by rfl) T.n_isinstance QY (aa (pv 0) (aa (c_ (v:=.ty "int") (by rfl) T.n_int PyProof.Rows.boot_int rfl) ad ae) ae)) (fI (qp (aB bB (by rfl) T.n_isinstance QY (aa (pv 0) (aa (c_ (v:=.ty "bool") (by rfl) T.n_bool PyProof.Rows.boot_bool rfl) ad ae) ae))))))),?_⟩;walk_at "e";walk_at "w";refine⟨_,_,_,_,rfl,TyOf.int i,dh "int", _,rfl,bX ?_⟩;walk_at "w";exact⟨_,_,_,_,rfl,TyOf.int i,vK,_,rfl,q⟩
theorem jI:FnScope ["thing"] ["thing"] (aA (top 29)):=by walk_at "k"
theorem xa (Fu:Fun K "is_numbered" "is_numbered" (top 29) f fd) (T:Txt K mg TT) (f_is_pair:Fn P w K mg base "is_pair" ["thing"] 1 pW) (f_is_whole:Fn P w K mg base "is_whole" ["thing"] 1 mC):FnOk P w K mg base CX0 2 f fd ["thing"] pX:=by
 have S:=jI;refine Fu.ok S (by walk_at "l") (λcdv A outer s H vs Q E hr h=>?_);obtain⟨b,x,n,rfl,hb,k⟩:=h;refine⟨_,(a8 (aE (fK (aP f_is_pair hr (aa (pv 0) ad ae)) (fK (aP f_is_whole hr (aa (aC aU (pv 0) af (λ_ _=>rfl)) ad)) (fI (c9 u_ (aC aU (pv 0) af (λ_ _=>rfl)) af (aK _))))))),?_⟩;walk_at "e";refine ca (i_andV (i_call (aq (ai rfl (aI ⟨b,_,_,rfl,hb,⟨_,rfl,bX ?_⟩⟩)))));refine i_andV (i_call (aq (br (ai rfl (i_c (i_ixT hb rfl (aI ⟨n,rfl,⟨_,rfl,bX ?_⟩⟩)))))));exact br (br (ai rfl (i_c (i_ixT hb rfl (i_c (i_rI0 k))))))
theorem im:FnScope ["net", "thing"] ["net", "thing"] (aA (top 30)):=by walk_at "k"
theorem xi (Fu:Fun K "is_rest_paper" "is_rest_paper" (top 30) f fd) (T:Txt K mg TT) (f_is_numbered:Fn P w K mg base "is_numbered" ["thing"] 2 pX) (f_is_paper:Fn P w K mg base "is_paper" ["net", "thing"] 3 ij):FnOk P w K mg base CX0 4 f fd ["net", "thing"] p6:=by
 have S:=im;refine Fu.ok S (by walk_at "l") (λcdv A outer s H vs Q E hr h=>?_);obtain⟨a,li,lg,ins,gvs,gs,p,bs,qs,rfl,NA,ok,⟨hp,lb,hb⟩,few,len,k⟩:=h;refine'⟨?_,?bb,?_⟩
 case bb =>
  walk_at "b";exact(PW.pt (dq (c8 (cK (aB bB (by rfl) T.n_isinstance QY (aa (pv 1) (aa (c_ (v:=.ty "list") (by rfl) T.n_list Xu rfl) ad ae) ae)))) (cR (c8 (cK (aB (fR rfl) (by rfl) T.n_all PyProof.Rows.boot_all (aa (dr (tgs:=["part"]) (cap:=[]) rfl ⟨rfl,rfl,rfl,rfl,rfl,rfl⟩ (bu (pv 1)) (λ_ _ _ _=>(bj (i:=0) (show List.Nodup [("part" : Str)] by decide +kernel) rfl (by walk_at "z"))) (λ_ _ _ _=>bq) (λ_ _ _ _=>(aP f_is_numbered hr (aa (pv 0) ad ae)))) ad)))))));exact(aE bR);exact(aE (aP f_is_paper hr (aa (pv 0) (aa (dr (tgs:=["part"]) (cap:=[]) rfl ⟨rfl,rfl,rfl,rfl,rfl,rfl⟩ (bu (pv 1)) (λ_ _ _ _=>(bj (i:=0) (show List.Nodup [("part" : Str)] by decide +kernel) rfl (by walk_at "z"))) (λ_ _ _ _=>bq) (λ_ _ _ _=>(aC (je (K:=K) rfl) (pv 0) af (λ_ _=>rfl)))) ad) ae)))
 walk_at "e";walk_at "s";walk_at "s";walk_at "s";refine i_not (i_tB (dL (aq (ai rfl (aq (i_c (aI ⟨_,_,_,_,rfl,TyOf.lst hp,dh "list", ⟨_,rfl,ck ?_⟩⟩)))))));refine i_not (i_tB (dL (aq (bS (s_list (ai rfl ⟨p,rfl,⟨_,SqL.of hp⟩,λL hL=>?_⟩))))));refine bU (xs:=bs.map V.ref) (λm H3 ys=>am H H3/\H3 L=some (.lst ys)/\ys=((qs.take m).map λq=>decide (0<=q.2)).map V.bl) ⟨aj hL,ag,rfl⟩ (λm H' ys pv=>⟨pv.2.1,SqL.of (pv.1 _ _ hp)⟩) (λm v H3 ys e pv=>?_) (λH3 ys pv=>?_)
 ·obtain⟨S3,hd,rfl⟩:=pv;rw[Qh]at e
  cases ex:bs[m]? with
  | none=>rw[ex]at e;cases e
  | some b =>
  rw[ex]at e;cases e;have hm:m<bs.length:=(Qe.mp ex).1;obtain⟨q,eq⟩:∃q,qs[m]?=some q:=⟨_,Qc (by omega)⟩;refine az ⟨by repeat' (first|exact trivial|refine⟨rfl,?_⟩),i_yes (bX ?_)⟩;refine i_call (aq (ai rfl (aI ⟨b,q.1,q.2,rfl,S3 _ _ (hb m b q ex eq),?_⟩)));refine bV.mk hd (by rw[Qa];exact hm) (by rw[Qa,Qa,Qs];omega) ⟨aQ S3 hL,ag,?_⟩;rw[QP,eq,XB,Qr,Qr];rfl
 obtain⟨S3,hd,rfl⟩:=pv;rw[Qa,lb,Qt (Qg _)]at hd;refine aI ⟨L,_,rfl,SqL.of hd,?_⟩;refine⟨_,rfl,?_⟩;rw[List.all_map];by_cases c:vC qs=true
 ·have e:qs.all (id∘λq=>decide (0<=q.2))=true:=c;rw[e];refine ck ?_;walk_at "s";refine ca (i_call (aq (ai rfl (aq (bS (s_list (ai rfl ⟨p,rfl,⟨_,SqL.of (S3 _ _ hp)⟩,λL2 hL2=>?_⟩)))))));refine bU (xs:=bs.map V.ref) (λm H4 ys=>am H3 H4/\H4 L2=some (.lst ys)/\ys=((qs.take m).map (·.1)).map V.str) ⟨aj hL2,ag,rfl⟩ (λm H' ys pv=>⟨pv.2.1,SqL.of (pv.1 _ _ (S3 _ _ hp))⟩) (λm v H4 ys e pv=>?_) (λH4 ys pv=>?_)
  ·obtain⟨S4,hd,rfl⟩:=pv;rw[Qh]at e
   cases ex:bs[m]? with
   | none=>rw[ex]at e;cases e
   | some b =>
   rw[ex]at e;cases e;have hm:m<bs.length:=(Qe.mp ex).1;obtain⟨q,eq⟩:∃q,qs[m]?=some q:=⟨_,Qc (by omega)⟩;refine az ⟨by repeat' (first|exact trivial|refine⟨rfl,?_⟩),i_yes (bX ?_)⟩;refine br (ai rfl (i_c (i_ixT ((S3.trans S4) _ _ (hb m b q ex eq)) rfl ?_)));refine bV.mk hd (by rw[Qa];exact hm) (by rw[Qa,Qa,Qs];omega) ⟨aQ S4 hL2,ag,?_⟩;rw[QP,eq,XB,Qr,Qr];rfl
  obtain⟨S4,hd,rfl⟩:=pv;rw[Qa,lb,Qt (Qg _)]at hd;refine aI ⟨a,li,lg,ins,gvs,gs,L2,qs.map (·.1),rfl,NA.same (S3.trans S4),ok,hd,by rw[Qa];exact few,λx hx=>?_,λH5 S5=>?_⟩
  ·obtain⟨q,hq,rfl⟩:=Qk.mp hx;exact len q hq
  have:=k _ ((S3.trans S4).trans S5);rwa [c,Bool.true_and]at this
 have e:qs.all (id∘λq=>decide (0<=q.2))=false:=Xi.mpr c;rw[e];refine bX ?_;refine ca (i_c ?_);have:=k _ S3;rwa [Xi.mpr c,Bool.false_and]at this
theorem lc:FnScope ["steps", "numbers", "here"] ["steps", "numbers"] (aA (top 31)):=by walk_at "k"
theorem xk (Fu:Fun K "is_falling" "is_falling" (top 31) f fd) (T:Txt K mg TT):FnOk P w K mg base CX0 1 f fd ["steps", "numbers"] qc:=by
 have S:=lc;refine Fu.ok S (by walk_at "l") (λcdv A outer s H vs Q E hr h=>?_);obtain⟨F,N,ins,gs,qs,rfl,sd,nd,few,hN,NF,cl,ok,k⟩:=h;have hu:=du hr;refine'⟨?_,?bb,?_⟩
 case bb =>
  walk_at "b";refine' nc ?_;rotate_left 1;walk_at "f";exact(ed (pv 0));exact(bQ 2 S.nd);walk_at "p";exact(c8 (cK (aB (fR rfl) (by rfl) T.n_all PyProof.Rows.boot_all (aa (dr (tgs:=["step"]) (cap:=[("numbers", 1),("here", 2)]) rfl ⟨rfl,rfl,rfl,rfl,rfl,rfl⟩ (bu (bC hu (pv 0) (pv 2) (λ_ _=>rfl))) (λ_ _ _ _=>(bj (i:=0) (show List.Nodup [("step" : Str),("numbers" : Str),("here" : Str)] by decide +kernel) rfl (by walk_at "z"))) (λ_ _ _ _=>bq) (λ_ _ _ _=>(c9 iN (bC hu (pv 1) (aC (je (K:=K) rfl) (pv 0) af (λ_ _=>rfl)) (λ_ _=>rfl)) (bC hu (pv 1) (pv 2) (λ_ _=>rfl)) (aK _)))) ad))));exact(aE bR);exact(aE bR)
 walk_at "e";have cl:=iS.mp cl;obtain⟨as,r,las,sts⟩:=id sd;have lx:(qs.map (·.1)).length=qs.length:=Qa _;have lk:(fdK (au (qs.map (·.1))) as).length=qs.length:=by unfold fdK au;simp[las]
 walk_at "s";refine rD r trivial λo=>?_
 have sd2:SD (upd H F (.frz o (.dK (fdK (au (qs.map (·.1))) as)))) F ins gs (qs.map (·.1)):=sd.frz r λr2=>by
  injection uG r trivial r2 trivial
 have hF2:upd H F (.frz o (.dK (fdK (au (qs.map (·.1))) as))) F=some (.frz o (.dK (fdK (au (qs.map (·.1))) as))):=ag;have bk:∀{H':Hp},am (upd H F (.frz o (.dK (fdK (au (qs.map (·.1))) as)))) H'->am H (back H F H'):=λS=>dE r S;have hN2:upd H F (.frz o (.dK (fdK (au (qs.map (·.1))) as))) N=some (.dK (bG qs)):=by rw[ak NF];exact hN
 generalize upd H F (.frz o (.dK (fdK (au (qs.map (·.1))) as)))=H2 at *;refine s_for (fg (ai rfl ⟨F,o,_,rfl,hF2,?_⟩));let I39:IvF:=λi σ' H'=>(∃x1,σ'=[some (.ref F),some (.ref N),x1])/\am H2 H'/\∀i'<i,∀q,qs[i']?=some q->((ao ins gs q.1).all λp=>ltV (ba (bG qs) (Sum.inr p.2)) q.2)=true;refine gY I39 ⟨⟨_,rfl⟩,am.refl _,λi' h=>absurd h (Nat.not_lt_zero _)⟩ (λi σ' H' _ pv=>pv.2.1 _ _ hF2) (λi k' v σ' H' e pv=>?_) (λσ' H' pv=>?_)
 ·obtain⟨⟨x1,rfl⟩,Sm,no⟩:=pv;obtain⟨x,b,e1,e2,rfl,rfl⟩:=ki e;have hx:=Qi e1;rw[Qh]at e1
  cases eq:qs[i]? with
  | none=>rw[eq]at e1;cases e1
  | some q =>
  rw[eq]at e1;cases e1;have hq:=Qi eq;obtain⟨b',dg,vs,hvs,pvs⟩:=(sd2.same Sm).fat nd q.1 hx;have lvs:vs.length=(ao ins gs q.1).length:=by have:=aN pvs;unfold cM at this;rwa [Qa]at this
  have l7:=d8 ins gs q.1;have g7:=ok.g7;have hN3:=Sm _ _ hN2;refine az ?_;walk_at "s";refine i_not (i_tB (dL (aq (bS (s_list (i_dget (ai rfl (ai rfl ⟨F,_,rfl,dg,b',rfl,⟨_,SqL.of hvs⟩,λL hL=>?_⟩))))))));let I40:IvC:=λm H3 ys=>am H' H3/\H3 L=some (.lst ys)/\ys=(((ao ins gs q.1).take m).map λp=>ltV (ba (bG qs) (Sum.inr p.2)) q.2).map V.bl;refine bU (xs:=vs) I40 ⟨aj hL,ag,rfl⟩ (λm H' ys p=>⟨p.2.1,SqL.of (p.1 _ _ hvs)⟩) (λm v H3 ys e p=>?_) (λH3 ys p=>?_)
  ·obtain⟨S3,hd,rfl⟩:=p;obtain⟨p,b2,hp,rfl,hb2⟩:=gk pvs e;have hm:m<vs.length:=(Qe.mp e).1;obtain⟨n,hn,ev⟩:=vN nd (cl q.1 hx p (Qi hp));have dg1:cL H3 N (.str p.2) (some (.int n)):=.inl ⟨_,Sum.inr p.2,.inl (S3 _ _ hN3),rfl,ev.symm⟩;have dg2:cL H3 N (.str q.1) (some (.int q.2)):=.inl ⟨_,Sum.inr q.1,.inl (S3 _ _ hN3),rfl,(gU nd hq).symm⟩;refine az ⟨by repeat' (first|exact trivial|refine⟨rfl,?_⟩),i_yes (bX ?_)⟩;refine br (i_dget (ai rfl (br (ai rfl (i_c (i_ixT (S3 _ _ hb2) rfl ⟨N,_,rfl,dg1,i_dget (ai rfl (ai rfl ⟨N,_,rfl,dg2,i_rI0 ?_⟩))⟩))))));refine bV.mk hd hm (by rw[Qa,Qa,Qs];omega) ⟨aQ S3 hL,ag,?_⟩;rw[QP,hp,XB,Qr,Qr];show _=_++[V.bl (ltV (ba (bG qs) (Sum.inr p.2)) q.2)];rw[ev];rfl
  obtain⟨S3,hd,rfl⟩:=p;rw[lvs,Qt (Qg _)]at hd;refine aI ⟨L,_,rfl,SqL.of hd,?_⟩;refine⟨_,rfl,?_⟩;rw[List.all_map];by_cases c:((ao ins gs q.1).all λp=>ltV (ba (bG qs) (Sum.inr p.2)) q.2)=true
  ·have e:((ao ins gs q.1).all (id∘λp=>ltV (ba (bG qs) (Sum.inr p.2)) q.2))=true:=c;rw[e];refine ck ?_;walk_at "s";refine⟨⟨_,rfl⟩,Sm.trans S3,λi' hi' h eh=>?_⟩;by_cases ci:i'<i
   ·exact no i' ci h eh
   have:i'=i:=by omega
   subst this;rw[eq]at eh;cases eh;exact c
  have e:((ao ins gs q.1).all (id∘λp=>ltV (ba (bG qs) (Sum.inr p.2)) q.2))=false:=Xi.mpr c;rw[e];refine bX ?_;refine ca (i_c ?_);refine⟨(Sm.trans S3) _ _ hF2,?_⟩;have hb:lU ins gs qs=false:=Xi.mpr λz=>c (QK.mp z q hq);have:=k _ (bk (Sm.trans S3));rwa [hb]at this
 obtain⟨⟨x1,rfl⟩,Sm,no⟩:=pv;refine⟨Sm _ _ hF2,?_⟩;walk_at "w"
 have hb:lU ins gs qs=true:=QK.mpr λh hh=>by
  obtain⟨i,hi,e⟩:=Qq.mp hh;exact no i (by rw[lk];exact hi) h (by rw[Qc hi,e])
 have:=k _ (bk Sm);rwa [hb]at this
theorem kY:FnScope ["net", "standing", "rest", "paper", "numbers", "steps"] ["net", "standing", "rest", "paper"] (aA (top 32)):=by walk_at "k"
theorem tD (Fu:Fun K "rest_shows" "rest_shows" (top 32) f fd) (T:Txt K mg TT) (f_check_standing:Fn P w K mg base "check_standing" ["net", "thing"] 3 (jz .non)) (f_is_rest_paper:Fn P w K mg base "is_rest_paper" ["net", "thing"] 4 p6) (f_steps_from:Fn P w K mg base "steps_from" ["net", "standing"] 12 dH)
  (f_is_closed:Fn P w K mg base "is_closed" ["steps"] 1 gn) (f_is_falling:Fn P w K mg base "is_falling" ["steps", "numbers"] 1 qc) (f_rests_in:Fn P w K mg base "rests_in" ["steps"] 1 dZ):FnOk P w K mg base CX0 13 f fd ["net", "standing", "rest", "paper"] ju:=by
 have S:=kY;refine Fu.ok S (by walk_at "l") (λcdv A outer s H vs Q E hr h=>?_);obtain⟨a,li,lg,ins,gvs,gs,z,r,p,bs,qs,rfl,NA,ok,st,pp,few,len,k⟩:=h;have hu:=du hr;refine'⟨?_,?bb,?_⟩
 case bb =>
  walk_at "b";exact(bI (aP f_check_standing hr (aa (pv 0) (aa (pv 1) ad ae) ae)));exact(c8 (cK (aP f_is_rest_paper hr (aa (pv 0) (aa (pv 3) ad ae) ae))));exact(aE bR);exact aF 4 S.nd (d5 rfl (by rfl) T.n_dict (aa (pv 3) ad ae));exact(fG (cU hu (pv 1) (pv 4)));exact(aE bR);exact aF 5 S.nd (d5 rfl (by rfl) T.n_dict (aa (qq (dr (tgs:=["here"]) (cap:=[("net", 0)]) rfl ⟨rfl,rfl,rfl,rfl,rfl,rfl⟩ (ed (pv 4)) (λ_ _ _ _=>(bj (i:=0) (show List.Nodup [("here" : Str),("net" : Str)] by decide +kernel) rfl (by walk_at "z"))) (λ_ _ _ _=>bq) (λ_ _ _ _=>(bh (aa (pv 0) (aa (aP f_steps_from hr (aa (pv 1) (aa (pv 0) ad ae) ae)) ad se_call) ae))))) ad))
  with_reducible refine' aE ?e
  case e =>
   exact(fK (aP f_is_closed hr (aa (pv 5) ad ae)) (fK (aP f_is_falling hr (aa (pv 5) (aa (pv 4) ad ae) ae)) (fI (c9 (jQ hr.units) (aP f_rests_in hr (aa (pv 5) ad ae)) (bx (aa (pv 2) ad ae)) (aK _)))))
 walk_at "e";unfold shB at k;walk_at "w";refine⟨a,li,lg,ins,gvs,gs,z,rfl,NA,ok,st,λH0 S0=>?_⟩;walk_at "w";refine⟨a,li,lg,ins,gvs,gs,p,bs,qs,rfl,NA.same S0,ok,pp.same S0,few,len,λH1 S1=>⟨_,rfl,?_⟩⟩;have S01:=S0.trans S1;by_cases c:(vC qs&&jO (ap ins gs).length (qs.map (·.1)))=true
 case neg =>
  have cf:=Xi.mpr c;rw[cf]at k ⊢;exact bX (ca (i_c (k _ S01)))
 have hpap:jO (ap ins gs).length (qs.map (·.1))=true:=by rw[Xl]at c;exact c.2
 rw[c]at k ⊢;refine ck ?_;walk_at "s";obtain⟨sts,nd,so⟩:=zp hpap;obtain⟨hp,lb,hb⟩:=pp.same S01;have w11:(ap ins gs).length<=11:=by rw[bH];have:=ok.i4;have:=ok.g7;omega
 have f11:=fO w11 (fP nd) λx hx=>by
  obtain⟨y,hy,rfl⟩:=Qk.mp hx;exact⟨y,rfl,sts y hy⟩
 unfold au at f11;rw[Qa]at f11;walk_at "s";refine ce (iC (aq (ai rfl (aI ⟨p,bs.map V.ref,_,rfl,SqL.of hp,by rw[Qa];omega,(pp.same S01).prs,λN hN=>az ?_⟩))));rw[pi nd];generalize hE:upd H1 N _=H2;obtain⟨S2,hN2⟩:=aZ hN hE;clear hE;have S02:=S01.trans S2;have dgz:cL H2 N (.str z) (ba (bG qs) (Sum.inr z)):=.inl ⟨_,Sum.inr z,.inl hN2,rfl,rfl⟩;walk_at "s";refine s_if (bi (dJ (ai rfl (ai rfl ⟨N,_,rfl,dgz,_,rfl,?_⟩))));rw[rY];by_cases cz:z∈qs.map (·.1)
 case neg =>
  rw[QU cz]at k ⊢;exact bX (ca (i_c (k _ S02)))
 rw[Q7 cz]at k ⊢;refine ck ?_;walk_at "s";walk_at "s";refine ce (iC (aq (vS (.inl hN2) trivial λo=>?_)));have hN3:upd H2 N (.frz o (.dK (bG qs))) N=some (.frz o (.dK (bG qs))):=ag;have bk:∀{H':Hp},am (upd H2 N (.frz o (.dK (bG qs)))) H'->am H2 (back H2 N H'):=λS=>dE (.inl hN2) S;have NA3:NAt (upd H2 N (.frz o (.dK (bG qs)))) a li lg ins gvs gs:=NA.mono (λb xs e=>by rw[ak (λq=>by rw[q]at e;rw[S02 _ _ e]at hN2;cases hN2)];exact S02 _ _ e) (λb xs e=>by rw[ak (λq=>by rw[q]at e;rw[S02 _ _ e]at hN2;cases hN2)];exact S02 _ _ e)
 have fr3:∀{b},upd H2 N (.frz o (.dK (bG qs))) b=none->H2 b=none:=λ{b} e=>by
  by_cases c:b=N
  ·rw[c,hN3]at e;cases e
  rw[ak c]at e;exact e
 generalize upd H2 N (.frz o (.dK (bG qs)))=H3 at *;refine bS (fg (ai rfl ⟨N,o,_,rfl,hN3,λL hL=>?_⟩));have lkq:(bG qs).length=qs.length:=by unfold bG;rw[Qa]
 let I41:IvC:=λm H4 ys=>am H3 H4/\H4 L=some (.lst ys)/\ys.length=m/\∃as:List Addr,as.length=m/\(∀b∈as,b≠L/\b≠N)/\(∀v∈ys,v≠.ref N)/\Paired (pN H4) ys (((qs.map (·.1)).take m).zip (as.map V.ref))/\∀(i:Nat) x b,((qs.map (·.1)).take m)[i]?=some x->as[i]?=some b->bo H4 b (cM (ao ins gs x))
 refine iE I41
  ⟨aj hL,ag,rfl,[],rfl,(λb h=>nomatch h),(λv h=>nomatch h),.nil,λi x b _ e=>by simp at e⟩ (λm H' ys pv=>⟨pv.2.1,pv.1 _ _ hN3⟩) (λm k' v H4 ys e pv=>?_) (λH4 ys pv=>?_)
 ·obtain⟨S4,hd,ly,as,las,nL,nY,pr,sas⟩:=pv;have e0:(bG qs)[m]?=some (k',v):=e;unfold bG at e;rw[Qh]at e
  cases eq:qs[m]? with
  | none=>rw[eq]at e;cases e
  | some q =>
  rw[eq]at e;cases e;have hm:m<qs.length:=(Qe.mp eq).1;have ex:(qs.map (·.1))[m]?=some q.1:=by rw[Qh,eq];rfl
  refine az ⟨by repeat' (first|exact trivial|refine⟨rfl,?_⟩),i_yes (bX ?_)⟩;refine i_tup (aq (ai rfl (aq (i_call (aq (ai rfl (aq (ai rfl (aI ?_)))))))));refine⟨a,li,lg,ins,gvs,gs,q.1,rfl,NA3.same S4,ok,sts q.1 (Qi ex),λl vs H5 S5 hl0 hl5 pr5=>?_⟩;refine aI ⟨by simp[sizeLine],λt ht=>?_⟩;generalize hE:upd H5 t _=H6;obtain⟨S6,q6⟩:=aZ ht hE;clear hE;have S56:=S5.trans S6;have hd6:=S56 _ _ hd;have hN6:=(S4.trans S5) _ _ hN3;refine bV.mk hd6 (by rw[lkq];exact hm) (by omega) ⟨aQ (S4.trans S56) hL,ag,by rw[Qj,ly];rfl,as++[l],by rw[Qj,las];rfl,λb hb=>?_,λv hv=>?_,?_,λi y b e1 e2=>?_⟩
  all_goals have kt:dj H6 (upd H6 L (.lst (ys++[V.ref t]))):=λb us e=>by rw[ak (λzz=>by rw[zz,hd6]at e;cases e)];exact e
  ·rcases Qv.mp hb with h|h
   ·exact nL b h
   rw[QA]at h;rw[h];exact⟨λzz=>(by rw[zz,hd]at hl0;cases hl0),λzz=>(by rw[zz,S4 _ _ hN3]at hl0;cases hl0)⟩
  ·rcases Qv.mp hv with h|h
   ·exact nY v h
   rw[QA]at h;rw[h];exact λzz=>by cases zz;rw[hN6]at ht;cases ht
  ·rw[QP,ex,XB,Qr,List.zip_append (by rw[Qs,Qa,Qa];omega)];refine iM (bK (λv q ⟨b,e,h⟩=>⟨b,e,kt _ _ (S56 _ _ h)⟩) pr) ⟨t,rfl,kt _ _ q6⟩
  rw[QP,ex,XB]at e1;have ltk:((qs.map (·.1)).take m).length=m:=by rw[Qs,Qa];omega
  have lift:∀{Hx:Hp} {b:Addr} {sts:List (V × Key)},b≠L->dj Hx (upd H6 L (.lst (ys++[V.ref t])))->(∀us,Hx b=some (.lst us)->H6 b=some (.lst us))->bo Hx b sts->bo (upd H6 L (.lst (ys++[V.ref t]))) b sts:=λ{Hx b sts} hb kk hh ⟨us,h1,h2⟩=>⟨us,by rw[ak hb];exact hh us h1,bK (λv s ⟨c,ec,q⟩=>⟨c,ec,kk _ _ q⟩) h2⟩;by_cases ci:i<m
  ·rw[QG (by omega)]at e1;rw[QG (by omega)]at e2;exact lift (nL b (Qi e2)).1 (λc us e=>kt _ _ (S56 _ _ e)) (λus e=>S56 _ _ e) (sas i y b e1 e2)
  rw[QE (by omega)]at e1 e2
  have hi:i=m:=by
   have:=(Qe.mp e2).1;simp at this;omega
  subst hi;rw[ltk,Nat.sub_self]at e1;rw[las,Nat.sub_self]at e2;cases e1;cases e2;exact lift (λzz=>by rw[zz,hd]at hl0;cases hl0) (λc us e=>kt _ _ (S6 _ _ e)) (λus e=>S6 _ _ e) (iK hl5 pr5)
 obtain⟨S4,hd,ly,as,las,nL,nY,pr,sas⟩:=pv;rw[lkq]at ly las pr sas;rw[Qt (by rw[Qa];exact Qg _)]at pr sas;have LN:L≠N:=λe=>by rw[e,hN3]at hL;cases hL
 have bkx:∀{b u},H4 b=some u->b≠N->back H2 N H4 b=some u:=λe n=>by rw[bM n];exact e
 have lxs:(qs.map (·.1)).length=qs.length:=Qa _;refine⟨S4 _ _ hN3,aI ⟨L,ys,(qs.map (·.1)).zip (as.map V.ref),rfl,SqL.of (bkx hd LN),by omega,?_,λF hF=>?_⟩⟩
 ·refine eS (aN pr) λi v q e1 e2=>?_;obtain⟨q',e3,b,eb,hb⟩:=paired_get pr e1;rw[e2]at e3;cases e3;exact⟨b,eb,bkx hb λe=>nY v (Qi e1) (by rw[eb,e])⟩
 rw[sV nd (by omega)];refine az ?_;generalize hE:upd (back H2 N H4) F _=H5;obtain⟨S5,q5⟩:=aZ hF hE;clear hE;have SB:=bk S4;have S25:=SB.trans S5;have hN5:=S25 _ _ hN2
 have sd:SD H5 F ins gs (qs.map (·.1)):=⟨as,.inl q5,by omega,λi x b e1 e2=>by
  obtain⟨us,h1,h2⟩:=sas i x b e1 e2;refine⟨us,S5 _ _ (bkx h1 (nL b (Qi e2)).2),bK (λv s ⟨c,ec,q⟩=>⟨c,ec,S5 _ _ (bkx q λe=>?_)⟩) h2⟩
  rw[e,S4 _ _ hN3]at q;cases q⟩
 have NF:N≠F:=λe=>by rw[<-e,SB _ _ hN2]at hF;cases hF
 refine ca (i_andV (i_call (aq (ai rfl (aI ⟨F,ins,gs,_,rfl,sd,nd,by omega,ok,λH6 S6=>⟨_,rfl,?_⟩⟩)))));have S06:=S02.trans (S25.trans S6);by_cases cc:dS ins gs (qs.map (·.1))=true
 case neg =>
  rw[Xi.mpr cc]at k ⊢;exact ck (k _ S06)
 rw[cc]at k ⊢;refine bX ?_;refine i_andV (i_call (aq (ai rfl (aq (ai rfl (aI ⟨F,N,ins,gs,qs,rfl,sd.same S6,nd,by omega,S6 _ _ hN5,NF,cc,ok,λH7 S7=>⟨_,rfl,?_⟩⟩))))));by_cases cf:lU ins gs qs=true
 case neg =>
  rw[Xi.mpr cf]at k ⊢;exact ck (k _ (S06.trans S7))
 rw[cf]at k ⊢;refine bX ?_;obtain⟨as7,r7,las7,sts7⟩:=(sd.same S6).same S7;refine br (i_call (aq (ai rfl (aI ⟨F,qs.map (·.1),as7,λh=>(ao ins gs h).length,rfl,r7,las7,by omega,nd,λi x b e1 e2=>?_,λp8 ss H8 S8 hp8 pm so8 q8=>?_⟩))))
 ·obtain⟨vs,h1,h2⟩:=sts7 i x b e1 e2;exact⟨vs,h1,by have:=aN h2;unfold cM at this;rwa [Qa]at this⟩
 have es:=jB so8 so pm;subst es;refine i_lst (aq (ai rfl (aI ⟨by simp[sizeLine],λp9 hp9=>?_⟩)));refine yN (ys:=[r]) (SqL.of (aj hp9 _ _ q8)) (SqL.of ag) ?_;exact k _ (S06.trans (S7.trans (S8.trans (aj hp9))))
end
def iU (ins:List Str) (gs:List (Str × Rl)) (z:Str) (qs:List (Str × Int)):Prop:=∃xs ps,Met ins gs z xs/\NumOk ins gs xs ps/\qs.Perm (ps.map λ(p:Str × Nat)=>((p.1,(p.2:Int)):Str × Int))/\qs.Pairwise λx y=>leT x.1 y.1
section
variable {ins:List Str} {gs:List (Str × Rl)} {z r:Str} {qs qs':List (Str × Int)}
theorem di.uniq {h:Str} {n m:Nat} (a:di ins gs h n) (b:di ins gs h m):n=m:=by
 obtain⟨h1,os,y,r1,e1⟩:=a;obtain⟨h2,ps,w,r2,e2⟩:=b;have:=h1 _ _ r2;have:=h2 _ _ r1;omega
theorem NumOk.sub_of {xs:List Str} {ps ps':List (Str × Nat)} (m:Met ins gs z xs) (a:NumOk ins gs xs ps) (b:NumOk ins gs xs ps') {p:Str × Nat} (hp:p∈ps):p∈ps':=by
 have hx:=a.sub p hp;obtain⟨p',hp',e⟩:=Qk.mp ((b.long_of m hx).mpr ⟨p.2,a.long p hp⟩);have l:=b.long p' hp';rw[e]at l;have:p'=p:=Prod.ext e (l.uniq (a.long p hp));rwa [this]at hp'
theorem rX {α β:Type} {ps:List (α × β)} (nd:(ps.map (·.1)).Nodup):ps.Nodup:=(List.pairwise_map.mp nd).imp λ{a b} h e=>h (by rw[e])
theorem iU.nd (a:iU ins gs z qs):(qs.map (·.1)).Nodup:=by
 obtain⟨xs,ps,m,o,pm,so⟩:=a;rw[(pm.map _).nodup_iff,QW];exact o.nd
theorem iU.det (a:iU ins gs z qs) (b:iU ins gs z qs'):qs=qs':=by
 have nd':=b.nd;obtain⟨xs,ps,m,o,pm,so⟩:=a;obtain⟨xs',ps',m',o',pm',so'⟩:=b;have e:=m.one m';subst e;have pp:ps.Perm ps':=(List.perm_ext_iff_of_nodup (rX o.nd) (rX o'.nd)).mpr λp=>⟨λh=>o.sub_of m o' h,λh=>o'.sub_of m o h⟩;have pq:qs.Perm qs':=pm.trans ((pp.map _).trans pm'.symm);refine List.Perm.eq_of_pairwise (λa b ha hb h1 h2=>?_) so so' pq;have ek:a.1=b.1:=pf h1 h2;have ha':=pq.mem_iff.mp ha;obtain⟨i,hi,ei⟩:=Qq.mp ha';obtain⟨j,hj,ej⟩:=Qq.mp hb;have:i=j:=(List.getElem_inj (h₀:=by rw[Qa];exact hi) (h₁:=by rw[Qa];exact hj) nd').mp (by rw[List.getElem_map,List.getElem_map,ei,ej];exact ek);subst this;rw[<-ei,ej]
structure ShOk (ins:List Str) (gs:List (Str × Rl)) (z r:Str) (qs:List (Str × Int)):Prop where
 nd:(qs.map (·.1)).Nodup
 so:(qs.map (·.1)).Pairwise leT
 zin:z∈qs.map (·.1)
 rin:r∈qs.map (·.1)
 st:∀q∈qs,StOk (ap ins gs).length q.1
 pos:∀q∈qs,0<=q.2
 rest:∀q∈qs,ao ins gs q.1=[]↔q.1=r
 fall:∀q∈qs,∀p∈ao ins gs q.1,∃n,(p.2,n)∈qs/\n<q.2
theorem iU.shows (a:iU ins gs z qs) (one:fe ins gs z r):ShOk ins gs z r qs:=by
 have nd:=a.nd;obtain⟨xs,ps,m,o,pm,so⟩:=a;obtain⟨xs',m',uni,n,l⟩:=one;have e:=m.one m';subst e;have keys:∀x,x∈qs.map (·.1)↔x∈ps.map (·.1):=λx=>by rw[(pm.map _).mem_iff,QW];rfl
 have mem:∀q∈qs,∃p∈ps,q=(p.1,(p.2:Int)):=λq hq=>by
  obtain⟨p,hp,e⟩:=Qk.mp (pm.mem_iff.mp hq);exact⟨p,hp,e.symm⟩
 obtain⟨hr,er⟩:=(uni r).mpr rfl;refine⟨nd,List.pairwise_map.mpr so,(keys z).mpr ((o.long_of m m.start).mpr ⟨n,l⟩),(keys r).mpr ((o.long_of m hr).mpr ⟨0,.rest er⟩),λq hq=>?_,λq hq=>?_,λq hq=>?_,λq hq p hp=>?_⟩
 ·obtain⟨p,hp,rfl⟩:=mem q hq;exact m.st _ (o.sub p hp)
 ·obtain⟨p,hp,rfl⟩:=mem q hq;show (0:Int)<=(p.2:Int);omega
 ·obtain⟨p,hp,rfl⟩:=mem q hq
  exact⟨λe=>(uni p.1).mp ⟨o.sub p hp,e⟩,λe=>by
   show ao ins gs p.1=[]
   rw[show p.1=r from e];exact er⟩
 obtain⟨u,hu,rfl⟩:=mem q hq;have hx:=o.sub u hu;have lu:=o.long u hu;have hy:=m.closed hx hp;have b:=lu.at (m.st _ hx) hp;obtain⟨v,hv,ev⟩:=Qk.mp ((o.iff m hy).mpr ⟨u.2,λos y r=>by have:=b os y r;omega⟩);obtain⟨_,os,y,ry,el⟩:=o.long v hv;rw[ev]at ry;have:=b os y ry;refine⟨(v.2:Int),pm.mem_iff.mpr (Qk.mpr ⟨v,hv,by rw[<-ev]⟩),?_⟩;show (v.2:Int)<(u.2:Int);omega
theorem ShOk.bool (a:ShOk ins gs z r qs):shB ins gs z r qs=true:=by
 have h1:vC qs=true:=QK.mpr λq hq=>Q7 (a.pos q hq)
 have h2:jO (ap ins gs).length (qs.map (·.1))=true:=by
  unfold jO;rw[Xl,QK,gJ];refine⟨λx hx=>?_,a.nd,a.so⟩;obtain⟨q,hq,rfl⟩:=Qk.mp hx;exact mw.mpr (a.st q hq)
 have h3:dS ins gs (qs.map (·.1))=true:=iS.mpr λx hx p hp=>by
  obtain⟨q,hq,rfl⟩:=Qk.mp hx;obtain⟨n,hn,_⟩:=a.fall q hq p hp;exact Qk.mpr ⟨_,hn,rfl⟩
 have h4:lU ins gs qs=true:=QK.mpr λq hq=>QK.mpr λp hp=>by
  obtain⟨n,hn,l⟩:=a.fall q hq p hp;have:=gU a.nd hn;rw[this];exact Q7 l
 have h5:((qs.map (·.1)).filter λh=>decide ((ao ins gs h).length=0))=[r]:=gQ (a.nd.filter _) λx=>by
  rw[List.mem_filter,XR,Xr];refine⟨λ⟨hx,e⟩=>?_,λe=>?_⟩
  ·obtain⟨q,hq,rfl⟩:=Qk.mp hx;exact(a.rest q hq).mp e
  subst e;obtain⟨q,hq,e⟩:=Qk.mp a.rin;refine⟨a.rin,?_⟩;rw[<-e];exact(a.rest q hq).mpr e
 unfold shB;rw[h1,h2,h3,h4,Q7 a.zin,Q7 h5];rfl
end
def uD (TL:Addr):Sp:=λvs H Q _=>∃a li lg ins gvs gs z,vs=[.ref a,.str z]/\NAt H a li lg ins gvs gs/\NetOk ins gs/\StOk (ap ins gs).length z/\gE TL fA H /\
 (∀(r:Str) (xs:List Str) H',Tk TL H H'->Met ins gs z xs->fe ins gs z r->Q (.str r) H')/\(∀(xs:List Str) H',Tk TL H H'->Met ins gs z xs->(∀r,¬fe ins gs z r)->Q .non H')
def jv (TL:Addr):Sp:=λvs H Q _=>∃a li lg ins gvs gs z,vs=[.ref a,.str z]/\NAt H a li lg ins gvs gs/\NetOk ins gs/\StOk (ap ins gs).length z/\gE TL fA H /\
 (∀(r:Str) (p:Addr) (bs:List Addr) (qs:List (Str × Int)) H',Tk TL H H'->H p=none->fe ins gs z r->iU ins gs z qs->qs.length<=128->hV H' p bs qs->Q (.ref p) H')/\(∀H',Tk TL H H'->(∀r,¬fe ins gs z r)->Q .non H')
def mD:Sp:=λvs H Q _=>∃(a li lg:Addr) (ins:List Str) (gvs:List V) (gs:List (Str × Rl)) (z r:Str) (p:Addr) (bs:List Addr) (qs:List (Str × Int)),vs=[.ref a,.str z,.str r,.ref p]/\NAt H a li lg ins gvs gs/\NetOk ins gs/\StOk (ap ins gs).length z/\hV H p bs qs/\qs.length<4000/\ShOk ins gs z r qs/\∀H',am H H'->Q (.bl true) H'
theorem r_eqNil (hl:H l=some (.lst us)) (q:∀H',am H H'->Q (.bl (us.length==0)) H'):wJ ig σ H λy H2=>qm K false (.ref l) y H2 Q:=by
 refine i_lst (aI ⟨by simp[sizeLine],λp hp=>?_⟩);refine⟨l,p,us,[],λ_=>true,rfl,rfl,SqL.of (aj hp _ _ hl),SqL.of ag,(λj x y _ h=>by simp at h),?_⟩;rw[QB Qn,show (us.length==([]:List V).length&&(List.range us.length).all λ_=>true)=(us.length==0) by simp];exact q _ (aj hp)
theorem wL (st:StOk n z):gj "01" z=Str.empty:=sP.mpr λc hc=>by
 rcases st.signs c hc with e|e <;> subst e <;> decide +kernel
theorem xw {tl:TE} (q:tl σ H λx H1=>∃a kvs,x=.ref a/\H1 a=some (.dK kvs)/\∀r,H1 r=none->Q (.ref r) (upd H1 r (dN (og a)))):uv tl σ H Q:=q
section
theorem oC:FnScope ["net", "standing", "found", "rests"] ["net", "standing"] (aA (top 27)):=by walk_at "k"
variable {fd:FuncData} {f TL:Addr}
theorem zQ (Fu:Fun K "one_rest" "one_rest" (top 27) f fd) (T:Txt K mg TT) (f_check_standing:Fn P w K mg base "check_standing" ["net", "thing"] 3 (jz .non)) (f_steps_found:Fn P w K mg base "steps_found" ["net", "standing"] 15 (fX TL)) (f_rests_in:Fn P w K mg base "rests_in" ["steps"] 1 dZ) (f_most_switchings:Fn P w K mg base "most_switchings" ["found"] 2 mE) :
  FnOk P w K mg base CX0 16 f fd ["net", "standing"] (uD TL):=by
 have S:=oC;refine Fu.ok S (by walk_at "l") (λcdv A outer s H vs Q E hr h=>?_);obtain⟨a,li,lg,ins,gvs,gs,z,rfl,NA,ok,st,tb,k1,k2⟩:=h;have hu:=du hr;refine'⟨?_,?bb,?_⟩
 case bb =>
  walk_at "b";exact(bI (aP f_check_standing hr (aa (pv 0) (aa (pv 1) ad ae) ae)));exact aF 2 S.nd (aP f_steps_found hr (aa (pv 0) (aa (pv 1) ad ae) ae));exact aF 3 S.nd (aP f_rests_in hr (aa (pv 2) ad ae));exact(PW.pt (dq (aG fL (aB aJ (by rfl) T.n_len QH (aa (pv 3) ad ae)) af (aK _)) (cR (fG (cU hu (pv 1) (aP f_most_switchings hr (aa (pv 2) ad ae)))))));exact(aE fJ);exact(aE (aC aH (pv 3) af (λ_ _=>rfl)))
 walk_at "e";walk_at "w";refine⟨a,li,lg,ins,gvs,gs,z,rfl,NA,ok,st,λH0 S0=>?_⟩;have NA0:=NA.same S0;have tb0:=gI tb S0;walk_at "w";refine⟨a,li,lg,ins,gvs,gs,z,rfl,NA0,ok,st,tb0,λF as n H1 t1 hF0 ln las hF1 sts=>?_⟩;obtain⟨xs,exs,lxs,met,few⟩:=qG ok st ln;rw[exs]at hF1 sts;have t01:Tk TL H H1:=(Tk.of tb S0).trans t1;have sd:SD H1 F ins gs xs:=⟨as,.inl hF1,by omega,λi x b e1 e2=>sts i (Sum.inr x) b (cV.mpr ⟨x,e1,rfl⟩) e2⟩;walk_at "w";refine⟨F,xs,as,λh=>(ao ins gs h).length,rfl,.inl hF1,by omega,few,met.nd,λi x b e1 e2=>?_,λRs ss H2 S2 hp pm so hp2=>?_⟩
 ·obtain⟨vs,h1,h2⟩:=sts i (Sum.inr x) b (cV.mpr ⟨x,e1,rfl⟩) e2;exact⟨vs,h1,by have:=aN h2;unfold stN cM at this;rwa [Qa]at this⟩
 have t02:Tk TL H H2:=t01.trans (Tk.of t01.tab S2);obtain⟨ndr,rmem⟩:=ip met pm;generalize (ss.filter λh=>decide ((ao ins gs h).length=0))=rs at *
 have non:∀{r},fe ins gs z r->rs=[r]/\∃n,di ins gs z n:=λ{r} ⟨ys,m',h,l⟩=>by
  have:=met.one m';subst this;exact⟨gQ ndr λx=>(rmem x).trans (h x),l⟩
 walk_at "w";rw[Qa];by_cases c1:rs.length=1
 ·refine ifF (by rw[c1];rfl) ?_;refine bi (dJ (ai rfl ?_));walk_at "w";refine⟨F,ins,gs,z,xs,rfl,sd.same S2,met,ok,λN ps H3 S3 hN0 hN num=>?_⟩;have t03:Tk TL H H3:=t02.trans (Tk.of t02.tab S3);have dg:cL H3 N (.str z) (ba (eV ps) (Sum.inr z)):=.inl ⟨_,Sum.inr z,.inl hN,rfl,rfl⟩;refine⟨N,_,rfl,dg,_,rfl,?_⟩;by_cases c2:z∈ps.map (·.1)
  ·refine ifF ?_ ?_
   ·cases q:ba (eV ps) (Sum.inr z) with
    | none=>exact absurd c2 (eU.mp q)
    | some _=>rfl
   obtain⟨r,er⟩:∃r,rs=[r]:=List.length_eq_one_iff.mp c1;subst er;walk_at "w";refine a_ (SqL.of (S3 _ _ hp2)) (cC (j:=0) rfl) (k1 r xs H3 t03 met ⟨xs,met,λx=>(rmem x).symm.trans QA,(num.long_of met met.start).mp c2⟩)
  refine ifT (by rw[eU.mpr c2];rfl) ?_;walk_at "w";exact k2 xs H3 t03 met λr o=>c2 ((num.long_of met met.start).mpr (non o).2)
 refine ifT (by simpa using λz=>c1 (by omega)) ?_;walk_at "w";exact k2 xs H2 t02 met λr o=>c1 (by rw[(non o).1];rfl)
theorem kZ:FnScope ["net", "standing", "found", "numbers"] ["net", "standing"] (aA (top 28)):=by walk_at "k"
theorem tE (Fu:Fun K "rest_paper" "rest_paper" (top 28) f fd) (T:Txt K mg TT) (f_check_standing:Fn P w K mg base "check_standing" ["net", "thing"] 3 (jz .non)) (f_steps_found:Fn P w K mg base "steps_found" ["net", "standing"] 15 (fX TL)) (f_rests_in:Fn P w K mg base "rests_in" ["steps"] 1 dZ) (f_most_switchings:Fn P w K mg base "most_switchings" ["found"] 2 mE) :
  FnOk P w K mg base CX0 16 f fd ["net", "standing"] (jv TL):=by
 have S:=kZ;refine Fu.ok S (by walk_at "l") (λcdv A outer s H vs Q E hr h=>?_);obtain⟨a,li,lg,ins,gvs,gs,z,rfl,NA,ok,st,tb,k1,k2⟩:=h;have hu:=du hr;refine'⟨?_,?bb,?_⟩
 case bb =>
  walk_at "b";exact(bI (aP f_check_standing hr (aa (pv 0) (aa (pv 1) ad ae) ae)));exact aF 2 S.nd (aP f_steps_found hr (aa (pv 0) (aa (pv 1) ad ae) ae));exact aF 3 S.nd (aP f_most_switchings hr (aa (pv 2) ad ae));exact(PW.pt (dq (aG fL (aB aJ (by rfl) T.n_len QH (aa (aP f_rests_in hr (aa (pv 2) ad ae)) ad se_call)) af (aK _)) (cR (fG (cU hu (pv 1) (pv 3))))));exact(aE fJ);exact(aE (aB (q_ rfl) (by rfl) T.n_sorted PyProof.Rows.boot_sorted (aa (uU (pv 3)) ad se_call)))
 walk_at "e";walk_at "w";refine⟨a,li,lg,ins,gvs,gs,z,rfl,NA,ok,st,λH0 S0=>?_⟩;have NA0:=NA.same S0;have tb0:=gI tb S0;walk_at "w";refine⟨a,li,lg,ins,gvs,gs,z,rfl,NA0,ok,st,tb0,λF as n H1 t1 hF0 ln las hF1 sts=>?_⟩;obtain⟨xs,exs,lxs,met,few⟩:=qG ok st ln;rw[exs]at hF1 sts;have t01:Tk TL H H1:=(Tk.of tb S0).trans t1;have sd:SD H1 F ins gs xs:=⟨as,.inl hF1,by omega,λi x b e1 e2=>sts i (Sum.inr x) b (cV.mpr ⟨x,e1,rfl⟩) e2⟩;walk_at "w";refine⟨F,ins,gs,z,xs,rfl,sd,met,ok,λN ps H2 S2 hN0 hN num=>?_⟩;obtain⟨as2,r2,las2,sts2⟩:=sd.same S2;walk_at "w";refine⟨F,xs,as2,λh=>(ao ins gs h).length,rfl,r2,las2,few,met.nd,λi x b e1 e2=>?_,λRs ss H3 S3 hp pm so hp2=>?_⟩
 ·obtain⟨vs,h1,h2⟩:=sts2 i x b e1 e2;exact⟨vs,h1,by have:=aN h2;unfold cM at this;rwa [Qa]at this⟩
 have t03:Tk TL H H3:=(t01.trans (Tk.of t01.tab S2)).trans (Tk.of (gI t01.tab S2) S3);obtain⟨ndr,rmem⟩:=ip met pm;generalize (ss.filter λh=>decide ((ao ins gs h).length=0))=rs at *
 have non:∀{r},fe ins gs z r->rs=[r]/\∃n,di ins gs z n:=λ{r} ⟨ys,m',h,l⟩=>by
  have:=met.one m';subst this;exact⟨gQ ndr λx=>(rmem x).trans (h x),l⟩
 have hN3:=S3 _ _ hN;walk_at "w";rw[Qa];by_cases c1:rs.length=1
 case neg =>
  refine ifT (by simpa using λz=>c1 (by omega)) ?_;walk_at "w";exact k2 H3 t03 λr o=>c1 (by rw[(non o).1];rfl)
 refine ifF (by rw[c1];rfl) ?_;have dg:cL H3 N (.str z) (ba (eV ps) (Sum.inr z)):=.inl ⟨_,Sum.inr z,.inl hN3,rfl,rfl⟩;refine bi (dJ (ai rfl (ai rfl ⟨N,_,rfl,dg,_,rfl,?_⟩)));by_cases c2:z∈ps.map (·.1)
 case neg =>
  refine ifT (by rw[eU.mpr c2];rfl) ?_;walk_at "w";exact k2 H3 t03 λr o=>c2 ((num.long_of met met.start).mpr (non o).2)
 refine ifF ?_ ?_
 ·cases q:ba (eV ps) (Sum.inr z) with
  | none=>exact absurd c2 (eU.mp q)
  | some _=>rfl
 obtain⟨r,er⟩:∃r,rs=[r]:=List.length_eq_one_iff.mp c1;subst er
 have lps:ps.length<=xs.length:=by
  have:=Bf.pigeon (ps.map (·.1)) xs num.nd λx hx=>by
   obtain⟨p,hp,rfl⟩:=Qk.mp hx;exact num.sub p hp
  rwa [Qa]at this
 have f7:=met.few7 ok;refine ca (dL (aq (xw (ai rfl ⟨N,_,rfl,hN3,λv hv=>aI ?_⟩))));generalize hE:upd H3 v _=H4;obtain⟨S4,q4⟩:=aZ hv hE;clear hE;refine⟨v,N,ps.map λ(p:Str × Nat)=>((p.1,(p.2:Int)):Str × Int),rfl,q4,S4 _ _ hN3,by rw[Qa];omega,λe=>?_,λp bs kf H5 S5 hp5 pm5 so5 tup hl=>?_⟩
 ·rw[List.map_eq_nil_iff]at e;rw[e]at c2;cases c2
 have t04:=t03.trans (Tk.of t03.tab S4);have lb:=pm5.length_eq;rw[Qa,Qa]at lb;refine k1 r p bs (bs.map kf) H5 (t04.trans (Tk.of t04.tab S5)) (t04.free hp5) ⟨xs,met,λx=>(rmem x).symm.trans QA,(num.long_of met met.start).mp c2⟩ ⟨xs,ps,met,num,pm5,List.pairwise_map.mpr so5⟩ (by rw[Qa];omega) ⟨hl,by rw[Qa],λi b q e1 e2=>?_⟩;rw[Qh,e1]at e2;cases e2;exact tup b (Qi e1)
theorem mM:FnScope ["net", "standing", "rest", "paper", "told", "here", "some", "name", "there"] ["net", "standing", "rest", "paper"] (aA (top 47)):=by walk_at "k"
theorem tG (Fu:Fun K "_law_shows" "_law_shows" (top 47) f fd) (T:Txt K mg TT) (f_law_asked:Fn P w K mg base "_law_asked" ["net", "standing"] 11 dH):FnOk P w K mg base CX0 12 f fd ["net", "standing", "rest", "paper"] mD:=by
 have S:=mM;refine Fu.ok S (by walk_at "l") (λcdv A outer s H vs Q E hr h=>?_);obtain⟨a,li,lg,ins,gvs,gs,z,r,p,bs,qs,rfl,NA,ok,st,pp,few,sh,k⟩:=h;have hu:=du hr;refine'⟨?_,?bb,?_⟩
 case bb =>
  walk_at "b";exact aF 4 S.nd (d5 rfl (by rfl) T.n_dict (aa (pv 3) ad ae));exact(PW.pt (dq (aG (nj hr.units) (dr (tgs:=["here", "number"]) (cap:=[]) rfl ⟨rfl,rfl,rfl,rfl,rfl,rfl⟩ (bu (pv 3)) (λ_ _ _ _=>(ni (K:=K) (n:=2) rfl rfl (bD (bj (i:=0) (show List.Nodup [("here" : Str),("number" : Str)] by decide +kernel) rfl (by walk_at "z")) (bD (bj (i:=1) (show List.Nodup [("here" : Str),("number" : Str)] by decide +kernel) rfl (by walk_at "z")) eJ)))) (λ_ _ _ _=>bq) (λ_ _ _ _=>(pv 0))) (aB (gz rfl) (by rfl) T.n_sorted PyProof.Rows.boot_sorted (aa (pv 4) ad ae)) (aK _)) (dq (fG (cU hu (pv 1) (pv 4))) (cR (fG (cU hu (pv 2) (pv 4)))))));exact(aE bR);refine' nc ?_;rotate_left 1;walk_at "f";exact(ed (pv 4));exact(bQ 5 S.nd);walk_at "p";exact(PW.pt (dq (aG fL (aB dW (by rfl) T.n_len QH (aa (pv 5) ad ae)) (aB dW (by rfl) T.n_len QH (aa (pv 1) ad ae)) (aK _)) (dq (aG fL (dI PySem.F.plainAttrs_str PySem.F.slot_str_strip PySem.F.type_str_strip vF (pv 5) (aa aM ad aL)) aM (aK _)) (cR (aG iN (bC hu (pv 4) (pv 5) (λ_ _=>rfl)) af (aK _))))));exact(aE bR);exact aF 6 S.nd (aP f_law_asked hr (aa (pv 0) (aa (pv 5) ad ae) ae));exact(aG fL (c9 (jQ hr.units) (pv 6) (bx ad) (aK _)) (c9 cA (pv 5) (pv 2) (aK _)) (aK _));exact(aE bR);walk_at "f";exact(bu (pv 6));exact(iw rfl (bD (bQ 7 S.nd) (bD (bQ 8 S.nd) eJ)));walk_at "p";exact(PW.pt (dq (fG (cU hu (pv 8) (pv 4))) (cR (aG u_ (bC hu (pv 4) (pv 8) (λ_ _=>rfl)) (bC hu (pv 4) (pv 5) (λ_ _=>rfl)) (aK _)))));exact(aE bR);exact(aE bR)
 walk_at "e";have nd:=sh.nd;obtain⟨hp,lb,hb⟩:=id pp;have lkq:(bG qs).length=qs.length:=by unfold bG;rw[Qa]
 have w11:(ap ins gs).length<=11:=by rw[bH];have:=ok.i4;have:=ok.g7;omega
 have zl:z.length=(ap ins gs).length:=st.len;have inn:∀{x:Str},x∈qs.map (·.1)->(!(ba (bG qs) (Sum.inr x)).isSome)=false:=λh=>by rw[rY,Q7 h];rfl
 walk_at "s";refine ce (iC (aq (ai rfl (aI ⟨p,bs.map V.ref,_,rfl,SqL.of hp,by rw[Qa];omega,pp.prs,λN hN=>az ?_⟩))));rw[pi nd];generalize hE:upd H N _=H1;obtain⟨S1,hN1⟩:=aZ hN hE;clear hE;walk_at "s";walk_at "s";walk_at "s";refine bi (br (bS (s_list (ai rfl ⟨p,rfl,⟨_,SqL.of (S1 _ _ hp)⟩,λL hL=>?_⟩))));refine bU (xs:=bs.map V.ref) (λm H3 ys=>am H1 H3/\H3 L=some (.lst ys)/\ys=((qs.take m).map (·.1)).map V.str) ⟨aj hL,ag,rfl⟩ (λm H' ys pv=>⟨pv.2.1,SqL.of (pv.1 _ _ (S1 _ _ hp))⟩) (λm v H3 ys e pv=>?_) (λH3 ys pv=>?_)
 ·obtain⟨S3,hd,rfl⟩:=pv;rw[Qh]at e
  cases ex:bs[m]? with
  | none=>rw[ex]at e;cases e
  | some b =>
  rw[ex]at e;cases e;have hm:m<bs.length:=(Qe.mp ex).1;obtain⟨q,eq⟩:∃q,qs[m]?=some q:=⟨_,Qc (by omega)⟩;refine⟨b,_,rfl,SqT.of ((S1.trans S3) _ _ (hb m b q ex eq)),rfl,?_⟩;refine⟨_,_,rfl,az ⟨_,_,rfl,az ⟨rfl,by repeat' (first|exact trivial|refine⟨rfl,?_⟩),i_yes (bX ?_)⟩⟩⟩;refine ai rfl (bV.mk hd (by rw[Qa];exact hm) (by rw[Qa,Qa,Qs];omega) ⟨aQ S3 hL,ag,?_⟩);rw[QP,eq,XB,Qr,Qr];rfl
 obtain⟨S3,hd,rfl⟩:=pv;rw[Qa,lb,Qt (Qg _)]at hd;have S03:=S1.trans S3;have hN3:=S3 _ _ hN1;have src:Ak K H3 N (qs.map (·.1)):=.inr ⟨_,.inl hN3,eW qs⟩;refine dL (aq (ai rfl (aI ⟨N,_,rfl,src,by rw[Qa];omega,λp4 ss hp4 pm so=>?_⟩)));have es:=jB so sh.so pm;subst es;generalize hE:upd H3 p4 _=H4;obtain⟨S4,q4⟩:=aZ hp4 hE;clear hE;refine yM (SqL.of (S4 _ _ hd)) (SqL.of q4) rfl (oq _) ⟨_,rfl,ck ?_⟩;have S04:=S03.trans S4;have hN4:=S4 _ _ hN3;walk_at "s";refine bi (dJ (ai rfl (ai rfl ⟨N,_,rfl,.inl ⟨_,Sum.inr z,.inl hN4,rfl,rfl⟩,_,rfl,ifF (inn sh.zin) ?_⟩)));refine bi (dJ (ai rfl (ai rfl ⟨N,_,rfl,.inl ⟨_,Sum.inr r,.inl hN4,rfl,rfl⟩,_,rfl,ifF (inn sh.rin) ?_⟩)));walk_at "s";clear hd q4 hp4 hN hN1 S3 S4;walk_at "s";refine rD (.inl hN4) trivial λo=>?_;have hN5:upd H4 N (.frz o (.dK (bG qs))) N=some (.frz o (.dK (bG qs))):=ag;have bk:∀{H':Hp},am (upd H4 N (.frz o (.dK (bG qs)))) H'->am H4 (back H4 N H'):=λS=>dE (.inl hN4) S;have NA5:NAt (upd H4 N (.frz o (.dK (bG qs)))) a li lg ins gvs gs:=NA.mono (λb xs e=>by rw[ak (λq=>by rw[q]at e;rw[S04 _ _ e]at hN4;cases hN4)];exact S04 _ _ e) (λb xs e=>by rw[ak (λq=>by rw[q]at e;rw[S04 _ _ e]at hN4;cases hN4)];exact S04 _ _ e);generalize upd H4 N (.frz o (.dK (bG qs)))=H5 at *;refine s_for (fg (ai rfl ⟨N,o,_,rfl,hN5,?_⟩));let I42:IvF:=λi σ' H'=>(∃x5 x6 x7 x8,σ'=[some (.ref a),some (.str z),some (.str r),some (.ref p),some (.ref N),x5,x6,x7,x8])/\am H5 H';refine gY I42 ⟨⟨_,_,_,_,rfl⟩,am.refl _⟩ (λi σ' H' _ pv=>pv.2 _ _ hN5) (λi k' v σ' H' e pv=>?_) (λσ' H' pv=>?_)
 ·obtain⟨⟨x5,x6,x7,x8,rfl⟩,Sm⟩:=pv;unfold bG at e;rw[Qh]at e
  cases eq:qs[i]? with
  | none=>rw[eq]at e;cases e
  | some q =>
  rw[eq]at e;cases e;have hq:=Qi eq;have stq:=sh.st q hq;have ql:q.1.length=(ap ins gs).length:=stq.len;have get:∀{G:Hp} {x:Str} {n:Int},am H' G->(x,n)∈qs->cL G N (.str x) (some (.int n)):=λ{G x n} S h=>.inl ⟨_,Sum.inr x,.inr ⟨o,(Sm.trans S) _ _ hN5⟩,rfl,(gU nd h).symm⟩;refine az ?_;walk_at "s";walk_at "s";walk_at "s";refine bi (br (dL (aq (ai rfl (aI ⟨q.1,rfl,by omega,dL (aq (ai rfl (aI ⟨z,rfl,by omega,i_ne rfl ⟨_,rfl,ifF (by rw[ql,zl];simp) ?_⟩⟩)))⟩)))));walk_at "s";refine bi (br (i_bm (ai rfl ⟨Dd,aq (i_c (aI ⟨q.1,_,rfl,rfl,by omega,i_c (i_ne rfl ⟨_,rfl,ifF ?_ ?_⟩)⟩))⟩)))
  ·rw[show gj _ q.1=Str.empty from wL stq];decide +kernel
  refine bi (br (i_dget (ai rfl (ai rfl ⟨N,_,rfl,get (am.refl _) (show (q.1,q.2)∈qs from hq),i_c (i_rI0 ⟨_,rfl,ifF (QU (by have:=sh.pos q hq;omega)) ?_⟩)⟩))));walk_at "s";walk_at "s";refine ce (i_call (aq (ai rfl (aq (ai rfl (aI ⟨a,li,lg,ins,gvs,gs,q.1,rfl,NA5.same Sm,ok,stq,λl vs H6 S6 hl0 hl6 pr6=>az ?_⟩))))));have lv:=aN pr6;walk_at "s";walk_at "s";refine bi (br (br (ai rfl (r_eqNil hl6 λH7 S7=>br (ai rfl (ai rfl (i_eq rfl (i_ne rfl ⟨_,rfl,ifF ?_ ?_⟩))))))))
  ·show (!decide (V.bl (vs.length==0)=V.bl (decide (V.str q.1=V.str r))))=false;have hr:=sh.rest q hq;by_cases c:q.1=r
   ·have l0:vs.length=0:=by rw[lv,hr.mpr c];rfl
    rw[l0,Q7 (show V.str q.1=V.str r by rw[c])];rfl
   have l0:¬vs.length=0:=λe=>c (hr.mp (Xa (lv▸e)));rw[show (vs.length==0)=false by simpa using l0,QU (λe=>c (V.str.inj e))];rfl
  walk_at "s";have hl7:=S7 _ _ hl6;have S67:=S6.trans S7;refine s_for (s_list (ai rfl ⟨l,rfl,⟨_,SqL.of hl7⟩,?_⟩));let I43:IvF:=λj σ' G=>(∃x7 x8,σ'=[some (.ref a),some (.str z),some (.str r),some (.ref p),some (.ref N),some (.str q.1),some (.ref l),x7,x8])/\am H7 G;refine dM (xs:=vs) I43 ⟨⟨_,_,rfl⟩,am.refl _⟩ (λj σ' G _ pv=>SqL.of (pv.2 _ _ hl7)) (λj v σ' G hv pv=>?_) (λσ' G pv=>?_)
  ·obtain⟨⟨x7,x8,rfl⟩,SG⟩:=pv;obtain⟨u,hu',b,rfl,hb6⟩:=dA pr6 j v hv;obtain⟨n,hn,ln⟩:=sh.fall q hq u (Qi hu');have S6G:=S67.trans SG;refine⟨b,_,rfl,SqT.of ((S7.trans SG) _ _ hb6),rfl,?_⟩;refine⟨_,_,rfl,az ⟨_,_,rfl,az ⟨rfl,?_⟩⟩⟩;walk_at "s";walk_at "s";refine bi (dJ (ai rfl (ai rfl ⟨N,_,rfl,get S6G hn,_,rfl,ifF rfl ?_⟩)));refine bi (br (i_dget (ai rfl (ai rfl ⟨N,_,rfl,get S6G hn,i_dget (ai rfl (ai rfl ⟨N,_,rfl,get S6G (show (q.1,q.2)∈qs from hq),i_rI0 ⟨_,rfl,ifF (QU (by omega)) ?_⟩⟩))⟩))));walk_at "s";exact⟨⟨_,_,rfl⟩,SG⟩
  obtain⟨⟨x7,x8,rfl⟩,SG⟩:=pv;exact⟨⟨_,_,_,_,rfl⟩,Sm.trans (S67.trans SG)⟩
 obtain⟨⟨x5,x6,x7,x8,rfl⟩,Sm⟩:=pv;refine⟨Sm _ _ hN5,?_⟩
 try dsimp only
 exact ca (i_c (k _ (S04.trans (bk Sm))))
end
def pZ:Sp:=λvs H Q _=>∃(F:Addr) (ins:List Str) (gs:List (Str × Rl)) (z:Str) (ys xs:List Str) (ls:List Addr),vs=[.ref F,.str z]/\WD H F ins gs ys ls/\Met ins gs z xs/\NetOk ins gs/\ys.Perm xs /\
 (∀r H',am H H'->fe ins gs z r->Q (.str r) H')/\(∀H',am H H'->(∀r,¬fe ins gs z r)->Q .non H')
section
theorem qi:FnScope ["ways", "standing", "rest"] ["ways", "standing"] (aA (top 46)):=by walk_at "k"
theorem xg {f:Addr} {fd:FuncData} (Fu:Fun K "_law_one" "_law_one" (top 46) f fd) (T:Txt K mg TT) (f_law_levels:Fn P w K mg base "_law_levels" ["ways", "standing"] 1 jx):FnOk P w K mg base CX0 2 f fd ["ways", "standing"] pZ:=by
 have S:=qi;refine Fu.ok S (by walk_at "l") (λcdv A outer s H vs Q E hr h=>?_);obtain⟨F,ins,gs,z,ys,xs,ls,rfl,wd,met,ok,pm,k1,k2⟩:=h;have hu:=du hr;refine'⟨?_,?bb,?_⟩
 case bb =>
  walk_at "b";exact(yd (j:=2) S.nd rfl (by walk_at "z") (tgs:=["one"]) (cap:=[("ways", 0)]) rfl ⟨rfl,rfl,rfl,rfl,rfl,rfl⟩ (bu (aB (gz rfl) (by rfl) T.n_sorted PyProof.Rows.boot_sorted (aa (pv 0) ad ae))) (λ_ _ _ _=>(bj (i:=0) (show List.Nodup [("one" : Str),("ways" : Str)] by decide +kernel) rfl (by walk_at "z"))) (λ_ _ _ _=>(oQ (aG (wY (K:=K) rfl hr.units) (bC hu (pv 1) (pv 0) (λ_ _=>rfl)) (bx ad) (aK _)))) (λ_ _ _ _=>(pv 0)));exact(PW.pt (dq (aG uZ (aP f_law_levels hr (aa (pv 0) (aa (pv 1) ad ae) ae)) fJ rfl) (cR (aG fL (aB aJ (by rfl) T.n_len QH (aa (pv 2) ad ae)) af (aK _)))));exact(aE fJ);exact(aE (aC aH (pv 2) af (λ_ _=>rfl)))
 walk_at "e";have few:=met.few7 ok;obtain⟨hF,lls,hls⟩:=id wd;have lys:=pm.length_eq;have ndy:=pm.nodup_iff.mpr met.nd;walk_at "s";refine ce (bS (s_list (dL (aq (ai rfl (aI ⟨F,ys,rfl,vY (.inl hF) lls,by omega,λp ss hp pm2 so=>?_⟩))))));generalize hE:upd H p _=H1;obtain⟨S1,q1⟩:=aZ hp hE;clear hE;have lss:=pm2.length_eq;refine⟨p,rfl,⟨_,SqL.of q1⟩,λL hL=>?_⟩;let I44:IvC:=λm H' us=>am H1 H'/\H' L=some (.lst us)/\us=((ss.take m).filter λh=>decide ((ao ins gs h).length=0)).map V.str;refine kn (xs:=ss.map V.str) I44 ⟨aj hL,ag,by simp⟩ (λm H' ys p=>⟨p.2.1,SqL.of (p.1 _ _ q1)⟩) (λm v H' us e p=>?_) (λH2 us p=>?_)
 ·obtain⟨Sm,hd,rfl⟩:=p;rw[Qh]at e
  cases ex:ss[m]? with
  | none=>rw[ex]at e;cases e
  | some x =>
  rw[ex]at e;cases e;have hm:m<ss.length:=(Qe.mp ex).1;obtain⟨i,hi,exi⟩:=Qq.mp (pm2.mem_iff.mp (Qi ex));have e1:ys[i]?=some x:=by rw[Qc hi,exi]
  obtain⟨b,e2⟩:∃b,ls[i]?=some b:=⟨_,Qc (by omega)⟩;have S0m:=S1.trans Sm;refine az ⟨by repeat' (first|exact trivial|refine⟨rfl,?_⟩),?_⟩;refine bi (br (i_dget (ai rfl (ai rfl ⟨F,_,rfl,eL (.inl (S0m _ _ hF)) ndy e1 e2,r_eqNil (S0m _ _ (hls i x b e1 e2)) λH3 S3=>⟨_,rfl,?_⟩⟩))));have tk:(ss.take (m+1)).filter (λh=>decide ((ao ins gs h).length=0))=(ss.take m).filter (λh=>decide ((ao ins gs h).length=0))++[x].filter (λh=>decide ((ao ins gs h).length=0)):=by rw[QP,ex,List.filter_append];rfl
  have ln:((nxS ins gs x).map V.str).length=(ao ins gs x).length:=by unfold nxS;rw[Qa,Qa]
  rw[ln];by_cases c:(ao ins gs x).length=0
  ·refine ifT (by rw[c];rfl) ?_;refine ai rfl (bV.mk (S3 _ _ hd) (by rw[Qa];exact hm) ?_ ⟨aQ (Sm.trans S3) hL,ag,?_⟩)
   ·rw[Qa];have:=List.length_filter_le (λh=>decide ((ao ins gs h).length=0)) (ss.take m);rw[Qs]at this;omega
   rw[tk,Qr,List.filter_cons_of_pos (by simpa using c)];rfl
  refine ifF (by simpa using c) ?_;rw[Qa];refine⟨ss.length-(m+1),by omega,rfl,by omega,Sm.trans S3,S3 _ _ hd,?_⟩;rw[tk,List.filter_cons_of_neg (by simpa using c),List.filter_nil,XJ]
 obtain⟨Sm,hd,rfl⟩:=p;rw[Qa,Qt (Qg _)]at hd;obtain⟨ndr,rmem⟩:=ip met (pm2.trans pm);generalize (ss.filter λh=>decide ((ao ins gs h).length=0))=rs at *;have S02:=S1.trans Sm
 have non:∀{r},fe ins gs z r->rs=[r]/\∃n,di ins gs z n:=λ{r} ⟨ys,m',h,l⟩=>by
  have:=met.one m';subst this;exact⟨gQ ndr λx=>(rmem x).trans (h x),l⟩
 refine az ?_;walk_at "s";walk_at "s";walk_at "s";refine bi (br (i_call (aq (ai rfl (aq (ai rfl (aI ⟨F,ins,gs,z,ys,xs,ls,rfl,⟨S02 _ _ hF,lls,λi y l e1 e2=>S02 _ _ (hls i y l e1 e2)⟩,met,ok,pm,λd H3 S3 lg=>?_,λH3 S3 no=>?_⟩)))))))
 ·refine i_c ⟨rfl,⟨_,rfl,ifF rfl ?_⟩⟩;refine bi (br (dL (aq (ai rfl (aI ⟨L,_,rfl,.inl (SqL.of (S3 _ _ hd)),i_c (i_ne rfl ⟨_,rfl,?_⟩)⟩)))));rw[Qa];by_cases c:rs.length=1
  ·refine ifF (by rw[c];rfl) ?_;walk_at "s";obtain⟨r,er⟩:∃r,rs=[r]:=List.length_eq_one_iff.mp c;subst er;exact ca (br (ai rfl (i_c (a_ (SqL.of (S3 _ _ hd)) (cC (j:=0) rfl) (k1 r H3 (S02.trans S3) ⟨xs,met,λx=>(rmem x).symm.trans QA,lg⟩)))))
  refine ifT (by simpa using λz=>c (by omega)) ?_;exact ca (i_c (k2 H3 (S02.trans S3) λr o=>c (by rw[(non o).1];rfl)))
 refine i_c ⟨rfl,⟨_,rfl,ifT rfl ?_⟩⟩;exact ca (i_c (k2 H3 (S02.trans S3) λr o=>no (non o).2))
end
section
theorem yZ:FnScope ["script", "d", "net", "handed", "turn", "standing", "due", "paper", "row", "kept"] ["script"] (aA (top 49)):=by walk_at "k"
theorem vo {TL:Addr} {f:Addr} {fd:FuncData} (Fu:Fun K "law" "law" (top 49) f fd) (T:Txt K mg TT) (f_law_draws:Fn P w K mg base "_law_draws" ["script", "many"] 1 (mI K)) (f_law_net:Fn P w K mg base "_law_net" ["d", "spot"] 12 pY) (f_law_copy:Fn P w K mg base "_law_copy" ["net"] 1 qe) (f_law_standing:Fn P w K mg base "_law_standing" ["x", "net"] 1 jt)
  (f_law_ways:Fn P w K mg base "_law_ways" ["net", "standing"] 12 pV) (f_law_one:Fn P w K mg base "_law_one" ["ways", "standing"] 2 pZ) (f_law_shows:Fn P w K mg base "_law_shows" ["net", "standing", "rest", "paper"] 12 mD) (f_rest_paper:Fn P w K mg base "rest_paper" ["net", "standing"] 16 (jv TL)) (f_one_rest:Fn P w K mg base "one_rest" ["net", "standing"] 16 (uD TL)) (f_rest_shows:Fn P w K mg base "rest_shows" ["net", "standing", "rest", "paper"] 13 ju):FnOk P w K mg base CX0 17 f fd ["script"] (rB K TL):=by
 have S:=yZ;refine Fu.ok S (by walk_at "l") (λcdv A outer s H vs Q E hr h=>?_);obtain⟨sc,cells,rfl,hS,hlen,tb,k⟩:=h;have hu:=du hr;refine'⟨?_,?bb,?_⟩
 case bb =>
  walk_at "b";exact aF 1 S.nd (aP f_law_draws hr (aa (pv 0) (aa af ad aL) ae));exact aF 2 S.nd (aP f_law_net hr (aa (pv 1) (aa af ad aL) ae));exact aF 3 S.nd (aP f_law_copy hr (aa (pv 2) ad ae));walk_at "f";exact(cI (by rfl) T.n_range (aa af ad aL));exact(bQ 4 S.nd);walk_at "p";exact aF 5 S.nd (aP f_law_standing hr (aa (aC aH (pv 1) (av aV af (pv 4)) (λ_ _=>rfl)) (aa (pv 2) ad ae)));exact aF 6 S.nd (aP f_law_one hr (aa (aP f_law_ways hr (aa (pv 2) (aa (pv 5) ad ae) ae)) (aa (pv 5) ad ae) se_call));exact aF 7 S.nd (aP f_rest_paper hr (aa (pv 3) (aa (pv 5) ad ae) ae));exact(aG uZ (pv 6) fJ rfl);exact(PW.pt (dq (aG rN (pv 7) fJ rfl) (cR (aG rN (aP f_one_rest hr (aa (pv 3) (aa (pv 5) ad ae) ae)) fJ rfl))));exact(aE bR);exact(c8 (cK (aB bB (by rfl) T.n_isinstance QY (aa (pv 7) (aa (c_ (v:=.ty "list") (by rfl) T.n_list Xu rfl) ad ae) ae))));exact(aE bR);walk_at "f";exact(bu (pv 7));exact(bQ 8 S.nd);walk_at "p";exact(PW.pt (dq (c8 (cK (aB bB (by rfl) T.n_isinstance QY (aa (pv 8) (aa (c_ (v:=.ty "tuple") (by rfl) T.n_tuple PyProof.Rows.boot_tuple rfl) ad ae) ae)))) (dq (aG fL (aB aJ (by rfl) T.n_len QH (aa (pv 8) ad ae)) af (aK _)) (cR (c8 (cK (aB bB (by rfl) T.n_isinstance QY (aa (aC aU (pv 8) af (λ_ _=>rfl)) (aa (c_ (v:=.ty "str") (by rfl) T.n_str PyProof.Rows.boot_str rfl) ad ae)))))))));exact(aE bR);exact(PW.pt (dq (c8 (cK (aB bB (by rfl) T.n_isinstance QY (aa (aC aU (pv 8) af (λ_ _=>rfl)) (aa (c_ (v:=.ty "int") (by rfl) T.n_int PyProof.Rows.boot_int rfl) ad ae))))) (cR (cK (aB bB (by rfl) T.n_isinstance QY (aa (aC aU (pv 8) af (λ_ _=>rfl)) (aa (c_ (v:=.ty "bool") (by rfl) T.n_bool PyProof.Rows.boot_bool rfl) ad ae)))))));exact(aE bR);exact aF 9 S.nd (d6 dU (by rfl) T.n_list Xu (aa (pv 7) ad ae));exact(c8 (cK (aP f_law_shows hr (aa (pv 2) (aa (pv 5) (aa (pv 6) (aa (pv 7) ad ae) ae) ae) ae))));exact(aE bR);exact(aG wX (aP f_rest_shows hr (aa (pv 3) (aa (pv 5) (aa (pv 6) (aa (pv 7) ad ae) ae) ae) ae)) bR rfl);exact(aE bR);exact(bI (uX QM PySem.F.slot_list_reverse PySem.F.type_list_reverse qD (pv 7)));exact(bI (dI QM QR QS bp (pv 7) (aa af ad aL)));exact(PW.pt (dq (aG (nj hr.units) (aP f_rest_paper hr (aa (pv 3) (aa (pv 5) ad ae) ae)) (pv 9) (aK _)) (cR (aG fL (aP f_one_rest hr (aa (pv 3) (aa (pv 5) ad ae) ae)) (pv 6) (aK _)))));exact(aE bR);exact(aG (zu hr.units) (pv 3) (pv 2) (aK _));exact(aE bR);exact(aE bR)
 walk_at "e";walk_at "w";refine⟨sc,cells,rfl,hS,hlen,λd ds H1 S1 nd hd dok=>?_⟩;walk_at "w";refine⟨d,ds,0,rfl,hd,dok,by omega,by omega,λa li lg ins gvs gs H2 S2 NA ok=>?_⟩;have hd2:=S2 _ _ hd;walk_at "w";refine⟨a,li,lg,ins,gvs,gs,rfl,NA,λa' li' lg' H3 S3 n1 n2 n3 NB=>?_⟩;have hd3:=S3 _ _ hd2;have NA3:=NA.same S3;have tb3:=gI tb (S1.trans (S2.trans S3));have w11:(ap ins gs).length<=11:=by rw[bH];have:=ok.i4;have:=ok.g7;omega
 walk_at "w";refine⟨by decide,by decide,?_⟩;let I45:IvF:=λi σ H'=>(∃x4 x5 x6 x7 x8 x9:Option V,σ=[some (.ref sc),some (.ref d),some (.ref a),some (.ref a'),x4,x5,x6,x7,x8,x9])/\Tk TL H3 H';refine dC (n:=2) I45 ⟨⟨_,_,_,_,_,_,rfl⟩,Tk.of tb3 (am.refl _)⟩ (λi σ H' hi pv=>?_) (λσ H' pv=>?_);rotate_left
 ·obtain⟨⟨x4,x5,x6,x7,x8,x9,rfl⟩,tk⟩:=pv
  try dsimp only
  walk_at "w";exact k _
 obtain⟨⟨x4,x5,x6,x7,x8,x9,rfl⟩,tk⟩:=pv;have tbH:=tk.tab;have NAH:=NA3.mono (tk.lst tb3) (tk.tup tb3);have hdH:=tk.lst tb3 _ _ hd3;obtain⟨y1,y10,_,e1⟩:=jh dok (i:=120+(0+(i:Int))) (by omega) (by omega);refine az ?_;walk_at "s";refine ce (i_call (aq (br (ai rfl (br (i_c (ai rfl (i_rI0 (a_ (SqL.of hdH) e1 (aq (ai rfl (aI ?_))))))))))));refine⟨y1,a,li,lg,ins,gvs,gs,rfl,NAH,ok,λz H4 st S4=>az ?_⟩;walk_at "s";refine ce (i_call (aq (i_call (aq (ai rfl (aq (ai rfl (aI ?_))))))));refine⟨a,li,lg,ins,gvs,gs,z,rfl,NAH.same S4,ok,st,λF ys xs ls H5 S5 hF met pm wd=>aq (ai rfl (aI ?_))⟩;have S15:∀{H6:Hp},am H5 H6->Tk TL H3 H6:=λs=>tk.trans (Tk.of tbH (S4.trans (S5.trans s)));refine⟨F,ins,gs,z,ys,xs,ls,rfl,wd,met,ok,pm,λr H6 S6 one=>az ?_,λH6 S6 no=>az ?_⟩;rotate_left
 ·have t6:=S15 S6;have tb6:=t6.tab;have NB6:=NB.mono (t6.lst tb3) (t6.tup tb3);walk_at "s";refine ce (i_call (aq (ai rfl (aq (ai rfl (aI ?_))))));refine⟨a',li',lg',ins,gvs,gs,z,rfl,NB6,ok,st,tb6,λr p bs qs H7 t7 hp0 one=>absurd one (no r),λH7 t7 _=>az ?_⟩;have t37:=t6.trans t7;have tb7:=t37.tab;have NB7:=NB.mono (t37.lst tb3) (t37.tup tb3);walk_at "s";walk_at "s";refine bi (br (ai rfl (i_c ⟨rfl,⟨_,rfl,ifT rfl ?_⟩⟩)));walk_at "s";walk_at "s";refine bi (br (ai rfl (i_c ⟨rfl,⟨_,rfl,ifF rfl ?_⟩⟩)));refine bi (br (i_call (aq (ai rfl (aq (ai rfl (aI ⟨a',li',lg',ins,gvs,gs,z,rfl,NB7,ok,st,tb7,λr xs H8 t8 _ one=>absurd one (no r),λxs H8 t8 _ _=>?_⟩)))))));refine i_c ⟨rfl,⟨_,rfl,ifF rfl ?_⟩⟩;have t38:=t37.trans t8;have NA8:=NA3.mono (t38.lst tb3) (t38.tup tb3);have NB8:=NB.mono (t38.lst tb3) (t38.tup tb3);walk_at "s";walk_at "s";refine bi (br (ai rfl (ai rfl (yL (SqT.of NB8.ha) (SqT.of NA8.ha) rfl (o9 NA8 NB8) ⟨_,rfl,ck ?_⟩))));walk_at "s";exact⟨⟨_,_,_,_,_,_,rfl⟩,t38⟩
 have t6:=S15 S6;have tb6:=t6.tab;have NB6:=NB.mono (t6.lst tb3) (t6.tup tb3);walk_at "s";refine ce (i_call (aq (ai rfl (aq (ai rfl (aI ?_))))));refine⟨a',li',lg',ins,gvs,gs,z,rfl,NB6,ok,st,tb6,λr' p bs qs H7 t7 hp0 one' po lq pp=>az ?_,λH7 t7 no=>absurd one (no r)⟩;have er:=one'.one one;subst er;have sh:=po.shows one;have t37:=t6.trans t7;have tb7:=t37.tab;have NA7:=NA3.mono (t37.lst tb3) (t37.tup tb3);have NB7:=NB.mono (t37.lst tb3) (t37.tup tb3);obtain⟨hp,lb,hb⟩:=id pp
 have qlen:∀q∈qs,q.1.length<=1000:=λq hq=>by
  have:q.1.length=(ap ins gs).length:=(sh.st q hq).len;omega
 walk_at "s";walk_at "s";refine bi (br (ai rfl (i_c ⟨rfl,⟨_,rfl,ifF rfl ?_⟩⟩)));walk_at "s";walk_at "s";refine i_not (i_tB (dL (aq (ai rfl (aq (i_c (aI ⟨_,_,_,_,rfl,TyOf.lst hp,dh "list", ⟨_,rfl,ck ?_⟩⟩)))))));walk_at "s";walk_at "s";refine s_for (s_list (ai rfl ⟨p,rfl,⟨_,SqL.of hp⟩,?_⟩));let I46:IvF:=λj σ' G=>(∃x8:Option V,σ'=[some (.ref sc),some (.ref d),some (.ref a),some (.ref a'),some (.int (0+(i:Int))),some (.str z),some (.str r'),some (.ref p),x8,x9])/\am H7 G;refine dM (xs:=bs.map V.ref) I46 ⟨⟨_,rfl⟩,am.refl _⟩ (λj σ' G _ pv=>SqL.of (pv.2 _ _ hp)) (λj v σ' G hv pv=>?_) (λσ' G pv=>?_)
 ·obtain⟨⟨x8,rfl⟩,SG⟩:=pv;rw[Qh]at hv
  cases ex:bs[j]? with
  | none=>rw[ex]at hv;cases hv
  | some b =>
  rw[ex]at hv;cases hv;obtain⟨q,eq⟩:∃q,qs[j]?=some q:=⟨_,Qc (by have:=(Qe.mp ex).1;omega)⟩;have hbG:=SG _ _ (hb j b q ex eq);refine az ?_;walk_at "s";walk_at "s";walk_at "s";refine i_not (i_tB (dL (aq (ai rfl (aq (i_c (aI ⟨_,_,_,_,rfl,TyOf.tup hbG,dh "tuple", ⟨_,rfl,ck ?_⟩⟩)))))));walk_at "s";refine bi (br (dL (aq (ai rfl (aI ⟨b,_,rfl,.inr (SqT.of hbG),i_c (i_ne rfl ⟨_,rfl,ck ?_⟩)⟩)))));refine i_not (i_tB (dL (aq (br (ai rfl (i_c (i_ixT hbG rfl (aq (i_c (aI ⟨_,_,_,_,rfl,TyOf.str _,dh "str", ⟨_,rfl,ck ?_⟩⟩))))))))));walk_at "s";walk_at "s";walk_at "s";refine i_not (i_tB (dL (aq (br (ai rfl (i_c (i_ixT hbG rfl (aq (i_c (aI ⟨_,_,_,_,rfl,TyOf.int _,dh "int", ⟨_,rfl,ck ?_⟩⟩))))))))));refine i_tB (dL (aq (br (ai rfl (i_c (i_ixT hbG rfl (aq (i_c (aI ⟨_,_,_,_,rfl,TyOf.int _,vK,⟨_,rfl,ck ?_⟩⟩)))))))));walk_at "s";exact⟨⟨_,rfl⟩,SG⟩
 obtain⟨⟨x8,rfl⟩,SG⟩:=pv
 try dsimp only
 have hpG:=SG _ _ hp;walk_at "s";refine ce (dL (aq (ai rfl (aI ⟨p,_,rfl,.inl (SqL.of hpG),λkp hkp=>az ?_⟩))));generalize hE:upd G kp _=H8;obtain⟨S8,q8⟩:=aZ hkp hE;clear hE;have S78:=SG.trans S8;walk_at "s";walk_at "s";refine i_not (i_tB (i_call (aq (ai rfl (aq (ai rfl (aq (ai rfl (aq (ai rfl (aI ⟨a,li,lg,ins,gvs,gs,z,r',p,bs,qs,rfl,NA7.same S78,ok,st,pp.same S78,by omega,sh,λH9 S9=>⟨_,rfl,ck ?_⟩⟩)))))))))));walk_at "s";have S79:=S78.trans S9;walk_at "s";walk_at "s";refine bi (br (i_call (aq (ai rfl (aq (ai rfl (aq (ai rfl (aq (ai rfl (aI ⟨a',li',lg',ins,gvs,gs,z,r',p,bs,qs,rfl,NB7.same S79,ok,st,pp.same S79,by omega,qlen,λH10 S10=>?_⟩)))))))))));rw[sh.bool];refine i_c ⟨_,_,rfl,rfl,⟨_,rfl,ck ?_⟩⟩;walk_at "s";have S710:=S79.trans S10;have hp10:=S710 _ _ hp;have q10:=(S9.trans S10) _ _ q8;have pk:kp≠p:=(aD hpG hkp).symm;have hb10:∀(i:Nat) b q,bs[i]?=some b->qs[i]?=some q->H10 b=some (.tup [.str q.1,.int q.2]):=λi b q e1 e2=>S710 _ _ (hb i b q e1 e2);have t10:Tk TL H6 H10:=t7.trans (Tk.of t7.tab S710);walk_at "s";refine s_drop (yO (ai rfl ⟨i_tyL hp10,p,_,rfl,rfl,hp10,?_⟩));have t11:Tk TL H6 (upd H10 p (.lst (bs.map V.ref).reverse)):=t10.upd hp0 hp10;have hp11:upd H10 p (.lst (bs.map V.ref).reverse) p=some (.lst (bs.map V.ref).reverse):=ag;have k11:upd H10 p (.lst (bs.map V.ref).reverse) kp=some (.lst (bs.map V.ref)):=by rw[ak pk];exact q10
 have hb11:∀(i:Nat) b q,bs[i]?=some b->qs[i]?=some q->upd H10 p (.lst (bs.map V.ref).reverse) b=some (.tup [.str q.1,.int q.2]):=λi b q e1 e2=>by
  have:=hb10 i b q e1 e2;rw[ak λe=>by rw[e,hp10]at this;cases this];exact this
 generalize upd H10 p (.lst (bs.map V.ref).reverse)=H11 at *;walk_at "s";refine s_drop (i_bm (ai rfl ⟨i_tyL hp11,aq (i_c (aI (fw hp11 (by rw[List.length_reverse,Qa];omega) ?_)))⟩));generalize hu12:HO.lst ((bs.map V.ref).reverse++[V.int 0])=u12;have t12:Tk TL H6 (upd H11 p u12):=t11.upd hp0 hp11;have k12:upd H11 p u12 kp=some (.lst (bs.map V.ref)):=by rw[ak pk];exact k11
 have hb12:∀(i:Nat) b q,bs[i]?=some b->qs[i]?=some q->upd H11 p u12 b=some (.tup [.str q.1,.int q.2]):=λi b q e1 e2=>by
  have:=hb11 i b q e1 e2;rw[ak λe=>by rw[e,hp11]at this;cases this];exact this
 generalize upd H11 p u12=H12 at *;have tb12:=t12.tab;have NB12:=NB6.mono (t12.lst tb6) (t12.tup tb6);walk_at "s";walk_at "s";refine bi (br (i_call (aq (ai rfl (aq (ai rfl (aI ?_)))))));refine⟨a',li',lg',ins,gvs,gs,z,rfl,NB12,ok,st,tb12,λr2 p2 bs2 qs2 H13 t13 _ _ po2 _ pp2=>ai rfl ?_,λH7 t7 no=>absurd one (no _)⟩;have eq:=po2.det po;subst eq;obtain⟨hp2,lb2,hb2⟩:=pp2;have k13:=t13.lst tb12 _ _ k12;refine yM (SqL.of hp2) (SqL.of k13) (by rw[Qa,Qa,lb2,lb]) (λj x y ex ey=>?_) ⟨_,rfl,ck ?_⟩
 ·rw[Qh]at ex ey
  cases c1:bs2[j]? with
  | none=>rw[c1]at ex;cases ex
  | some b1 =>
  cases c2:bs[j]? with
  | none=>rw[c2]at ey;cases ey
  | some b2 =>
  rw[c1]at ex;rw[c2]at ey;cases ex;cases ey;obtain⟨q,eq⟩:∃q,qs2[j]?=some q:=⟨_,Qc (by have:=(Qe.mp c1).1;omega)⟩;exact xB (n:=7) (SqT.of (hb2 j b1 q c1 eq)) (SqT.of (t13.tup tb12 _ _ (hb12 j b2 q c2 eq))) rfl (lV rfl)
 have t613:=t12.trans t13;have tb13:=t613.tab;have NB13:=NB6.mono (t613.lst tb6) (t613.tup tb6);refine bi (br (i_call (aq (ai rfl (aq (ai rfl (aI ?_)))))));refine⟨a',li',lg',ins,gvs,gs,z,rfl,NB13,ok,st,tb13,λr3 xs3 H14 t14 _ one3=>ai rfl ?_,λxs3 H14 t14 _ no=>absurd one (no _)⟩;have er3:=one3.one one;subst er3;refine i_ne rfl ⟨_,rfl,ifF (by simp) ?_⟩;have t36:=t6.trans (t613.trans t14);have NA16:=NA3.mono (t36.lst tb3) (t36.tup tb3);have NB16:=NB.mono (t36.lst tb3) (t36.tup tb3);walk_at "s";walk_at "s";refine bi (br (ai rfl (ai rfl (yL (SqT.of NB16.ha) (SqT.of NA16.ha) rfl (o9 NA16 NB16) ⟨_,rfl,ck ?_⟩))));walk_at "s";exact⟨⟨_,_,_,_,_,_,rfl⟩,t36⟩
end
end K2
namespace K2
open PySem L2 PySem.Spec PyProof.Rows
variable {A:Type}
theorem fN {us:List A} (h:us.length=1):∃a0,us=[a0]:=by
 match us,h with
 | [a0],_=>exact⟨_,rfl⟩
theorem cB {us:List A} (h:us.length=2):∃a0 a1,us=[a0,a1]:=by
 match us,h with
 | [a0,a1],_=>exact⟨_,_,rfl⟩
theorem yK {us:List A} (h:us.length=3):∃a0 a1 a2,us=[a0,a1,a2]:=by
 match us,h with
 | [a0,a1,a2],_=>exact⟨_,_,_,rfl⟩
theorem rT {us:List A} (h:us.length=4):∃a0 a1 a2 a3,us=[a0,a1,a2,a3]:=by
 match us,h with
 | [a0,a1,a2,a3],_=>exact⟨_,_,_,_,rfl⟩
structure FX (K:PySem.W.Frag) (n:Str) (i:Nat) (f:Addr) (cd:Value):Prop where
 a:PySem.W.nsIn K mainGlobals n=some (some (.ref f))
 l:∃oc od kV dc pm an ct sl,K.lookup f=some ⟨oc,od,.func (PySem.W.fnOf n n (dR (top i)) (cQ (top i)) (aA (top i)) .none kV dc pm an cd ct),sl⟩
 c:PySem.W.codeIn K cd n=true
 k:PySem.W.keepIn K (.ref f)=true
variable {mg:Str->Option Value}
theorem FX.fn {K:PySem.W.Frag} {n:Str} {i:Nat} {f:Addr} {cd:Value} {h:Heap} (X:K.In h) (G:h.Ns mainGlobals mg) (x:FX K n i f cd):∃fd,Fun K n n (top i) f fd/\mg n=some (.ref f):=by
 obtain⟨a,⟨_,_,_,_,_,_,_,_,l⟩,c,k⟩:=x;exact⟨_,qQ (st:=top i) l c k,PySem.W.mg_of X G a⟩
abbrev ZN (K:PySem.W.Frag) (n:Str):Prop:=PySem.W.nsIn K mainGlobals n=some none
theorem Ag {l:PySem.W.OpenLaw} {w:World} {K:PySem.W.Frag} {h:Heap} {fa:Addr} (X:K.In h) (G:h.Ns mainGlobals mg) (hfa:mg "law" = some (.ref fa))
  (aT:PySem.W.nsIn K mainGlobals "TURNED" = some (some (.ref 40))) (tab:rl K 40 [("0", .flat (.str "1")),("1", .flat (.str "0"))])
  (x0:FX K "is_pair" 5 47 (.ref 46)) (x1:FX K "is_whole" 6 54 (.ref 53)) (x2:FX K "is_row" 7 59 (.ref 58)) (x3:FX K "gates_of" 8 64 (.ref 63)) (x4:FX K "wires_of" 9 71 (.ref 70)) (x5:FX K "is_standing" 10 78 (.ref 77)) (x6:FX K "check_standing" 11 85 (.ref 84)) (x7:FX K "rule_holds" 12 92 (.ref 91)) (x8:FX K "rule_worth" 13 99 (.ref 98)) (x9:FX K "signs_in" 14 106 (.ref 105)) (x10:FX K "turned_at" 15 113 (.ref 112)) (x11:FX K "steps_from" 16 120 (.ref 119)) (x12:FX K "found_from" 18 127 (.ref 126)) (x13:FX K "steps_found" 19 134 (.ref 133))(h13:PySem.W.codeHdIn K 133 129=true) (x14:FX K "rests_in" 20 139 (.ref 138)) (x15:FX K "is_paper" 22 144 (.ref 143)) (x16:FX K "is_closed" 23 149 (.ref 148)) (x17:FX K "standings_ahead" 25 154 (.ref 153)) (x18:FX K "most_switchings" 26 159 (.ref 158)) (x19:FX K "one_rest" 27 166 (.ref 165)) (x20:FX K "rest_paper" 28 173 (.ref 172)) (x21:FX K "is_numbered" 29 180 (.ref 179)) (x22:FX K "is_rest_paper" 30 185 (.ref 184)) (x23:FX K "is_falling" 31 190 (.ref 189)) (x24:FX K "rest_shows" 32 195 (.ref 194)) (x25:FX K "_law_draws" 34 202 (.ref 201)) (x26:FX K "_law_names" 35 207 (.ref 206)) (x27:FX K "_law_rule" 36 214 (.ref 213)) (x28:FX K "_law_held" 37 221 (.ref 220)) (x29:FX K "_law_known" 38 226 (.ref 225)) (x30:FX K "_law_deeper" 39 233 (.ref 232)) (x31:FX K "_law_net" 40 240 (.ref 239)) (x32:FX K "_law_standing" 41 245 (.ref 244)) (x33:FX K "_law_holds" 42 252 (.ref 251)) (x34:FX K "_law_asked" 43 257 (.ref 256)) (x35:FX K "_law_ways" 44 262 (.ref 261)) (x36:FX K "_law_levels" 45 269 (.ref 268)) (x37:FX K "_law_one" 46 274 (.ref 273)) (x38:FX K "_law_shows" 47 279 (.ref 278)) (x39:FX K "_law_copy" 48 286 (.ref 285)) (x40:FX K "law" 49 293 (.ref 292))
  (z0:ZN K "len") (z1:ZN K "range") (z2:ZN K "max") (z3:ZN K "min") (z4:ZN K "int") (z5:ZN K "list") (z6:ZN K "str") (z7:ZN K "isinstance") (z8:ZN K "all") (z9:ZN K "set") (z10:ZN K "dict") (z11:ZN K "enumerate") (z12:ZN K "sorted") (z13:ZN K "tuple") (z14:ZN K "bool") (z15:ZN K "zip") (z16:ZN K "reversed") (z17:ZN K "abs")
  : ∃fd:FuncData,(∀(s:Shared) (v:Value),BindsTo s fd ⟨[v],[]⟩ [("script", v)])/\∀base:Heap,K.In base->base.Ns mainGlobals mg->L2.gg base mg->FnOk l.prog w K mg base CX0 17 fa fd ["script"] (rB K 129):=by
 have e:=hfa.symm.trans (PySem.W.mg_of X G x40.a);cases e;have T:Txt K mg 40:=⟨QX X G z0,QX X G z1,QX X G z2,QX X G z3,QX X G z4,QX X G z5,QX X G z6,QX X G z7,QX X G z8,QX X G z9,QX X G z10,QX X G z11,QX X G z12,QX X G z13,QX X G z14,QX X G z15,QX X G z16,QX X G z17,PySem.W.mg_of X G aT,tab⟩;obtain⟨_,F0,m0⟩:=x0.fn X G;have b0:=F0.binds (ps:=["thing"]) λ_ _ _ _ _ _ us hl=>by obtain⟨_,rfl⟩:=fN hl;rfl
 obtain⟨_,F1,m1⟩:=x1.fn X G;have b1:=F1.binds (ps:=["thing"]) λ_ _ _ _ _ _ us hl=>by obtain⟨_,rfl⟩:=fN hl;rfl
 obtain⟨_,F2,m2⟩:=x2.fn X G;have b2:=F2.binds (ps:=["thing", "many"]) λ_ _ _ _ _ _ us hl=>by obtain⟨_,_,rfl⟩:=cB hl;rfl
 obtain⟨_,F3,m3⟩:=x3.fn X G;have b3:=F3.binds (ps:=["net"]) λ_ _ _ _ _ _ us hl=>by obtain⟨_,rfl⟩:=fN hl;rfl
 obtain⟨_,F4,m4⟩:=x4.fn X G;have b4:=F4.binds (ps:=["net"]) λ_ _ _ _ _ _ us hl=>by obtain⟨_,rfl⟩:=fN hl;rfl
 obtain⟨_,F5,m5⟩:=x5.fn X G;have b5:=F5.binds (ps:=["net", "thing"]) λ_ _ _ _ _ _ us hl=>by obtain⟨_,_,rfl⟩:=cB hl;rfl
 obtain⟨_,F6,m6⟩:=x6.fn X G;have b6:=F6.binds (ps:=["net", "thing"]) λ_ _ _ _ _ _ us hl=>by obtain⟨_,_,rfl⟩:=cB hl;rfl
 obtain⟨_,F7,m7⟩:=x7.fn X G;have b7:=F7.binds (ps:=["rule", "signs"]) λ_ _ _ _ _ _ us hl=>by obtain⟨_,_,rfl⟩:=cB hl;rfl
 obtain⟨_,F8,m8⟩:=x8.fn X G;have b8:=F8.binds (ps:=["rule", "signs"]) λ_ _ _ _ _ _ us hl=>by obtain⟨_,_,rfl⟩:=cB hl;rfl
 obtain⟨_,F9,m9⟩:=x9.fn X G;have b9:=F9.binds (ps:=["net", "standing"]) λ_ _ _ _ _ _ us hl=>by obtain⟨_,_,rfl⟩:=cB hl;rfl
 obtain⟨_,F10,m10⟩:=x10.fn X G;have b10:=F10.binds (ps:=["standing", "place"]) λ_ _ _ _ _ _ us hl=>by obtain⟨_,_,rfl⟩:=cB hl;rfl
 obtain⟨_,F11,m11⟩:=x11.fn X G;have b11:=F11.binds (ps:=["net", "standing"]) λ_ _ _ _ _ _ us hl=>by obtain⟨_,_,rfl⟩:=cB hl;rfl
 obtain⟨_,F12,m12⟩:=x12.fn X G;have b12:=F12.binds (ps:=["start", "steps_of"]) λ_ _ _ _ _ _ us hl=>by obtain⟨_,_,rfl⟩:=cB hl;rfl
 obtain⟨a13,⟨_,_,_,_,_,_,_,_,l13⟩,c13,k13⟩:=x13;have m13:=PySem.W.mg_of X G a13;have F13:=qQ (st:=top 19) l13 c13 k13;have b13:=F13.binds (ps:=["net", "standing"]) λ_ _ _ _ _ _ us hl=>by obtain⟨_,_,rfl⟩:=cB hl;rfl
 obtain⟨_,F14,m14⟩:=x14.fn X G;have b14:=F14.binds (ps:=["steps"]) λ_ _ _ _ _ _ us hl=>by obtain⟨_,rfl⟩:=fN hl;rfl
 obtain⟨_,F15,m15⟩:=x15.fn X G;have b15:=F15.binds (ps:=["net", "thing"]) λ_ _ _ _ _ _ us hl=>by obtain⟨_,_,rfl⟩:=cB hl;rfl
 obtain⟨_,F16,m16⟩:=x16.fn X G;have b16:=F16.binds (ps:=["steps"]) λ_ _ _ _ _ _ us hl=>by obtain⟨_,rfl⟩:=fN hl;rfl
 obtain⟨_,F17,m17⟩:=x17.fn X G;have b17:=F17.binds (ps:=["found"]) λ_ _ _ _ _ _ us hl=>by obtain⟨_,rfl⟩:=fN hl;rfl
 obtain⟨_,F18,m18⟩:=x18.fn X G;have b18:=F18.binds (ps:=["found"]) λ_ _ _ _ _ _ us hl=>by obtain⟨_,rfl⟩:=fN hl;rfl
 obtain⟨_,F19,m19⟩:=x19.fn X G;have b19:=F19.binds (ps:=["net", "standing"]) λ_ _ _ _ _ _ us hl=>by obtain⟨_,_,rfl⟩:=cB hl;rfl
 obtain⟨_,F20,m20⟩:=x20.fn X G;have b20:=F20.binds (ps:=["net", "standing"]) λ_ _ _ _ _ _ us hl=>by obtain⟨_,_,rfl⟩:=cB hl;rfl
 obtain⟨_,F21,m21⟩:=x21.fn X G;have b21:=F21.binds (ps:=["thing"]) λ_ _ _ _ _ _ us hl=>by obtain⟨_,rfl⟩:=fN hl;rfl
 obtain⟨_,F22,m22⟩:=x22.fn X G;have b22:=F22.binds (ps:=["net", "thing"]) λ_ _ _ _ _ _ us hl=>by obtain⟨_,_,rfl⟩:=cB hl;rfl
 obtain⟨_,F23,m23⟩:=x23.fn X G;have b23:=F23.binds (ps:=["steps", "numbers"]) λ_ _ _ _ _ _ us hl=>by obtain⟨_,_,rfl⟩:=cB hl;rfl
 obtain⟨_,F24,m24⟩:=x24.fn X G;have b24:=F24.binds (ps:=["net", "standing", "rest", "paper"]) λ_ _ _ _ _ _ us hl=>by obtain⟨_,_,_,_,rfl⟩:=rT hl;rfl
 obtain⟨_,F25,m25⟩:=x25.fn X G;have b25:=F25.binds (ps:=["script", "many"]) λ_ _ _ _ _ _ us hl=>by obtain⟨_,_,rfl⟩:=cB hl;rfl
 obtain⟨_,F26,m26⟩:=x26.fn X G;have b26:=F26.binds (ps:=["d", "spot"]) λ_ _ _ _ _ _ us hl=>by obtain⟨_,_,rfl⟩:=cB hl;rfl
 obtain⟨_,F27,m27⟩:=x27.fn X G;have b27:=F27.binds (ps:=["d", "pos", "names", "deep"]) λ_ _ _ _ _ _ us hl=>by obtain⟨_,_,_,_,rfl⟩:=rT hl;rfl
 obtain⟨_,F28,m28⟩:=x28.fn X G;have b28:=F28.binds (ps:=["one", "other", "own"]) λ_ _ _ _ _ _ us hl=>by obtain⟨_,_,_,rfl⟩:=yK hl;rfl
 obtain⟨_,F29,m29⟩:=x29.fn X G;have b29:=F29.binds (ps:=["way", "many", "names"]) λ_ _ _ _ _ _ us hl=>by obtain⟨_,_,_,rfl⟩:=yK hl;rfl
 obtain⟨_,F30,m30⟩:=x30.fn X G;have b30:=F30.binds (ps:=["d", "pos", "names", "rule"]) λ_ _ _ _ _ _ us hl=>by obtain⟨_,_,_,_,rfl⟩:=rT hl;rfl
 obtain⟨_,F31,m31⟩:=x31.fn X G;have b31:=F31.binds (ps:=["d", "spot"]) λ_ _ _ _ _ _ us hl=>by obtain⟨_,_,rfl⟩:=cB hl;rfl
 obtain⟨_,F32,m32⟩:=x32.fn X G;have b32:=F32.binds (ps:=["x", "net"]) λ_ _ _ _ _ _ us hl=>by obtain⟨_,_,rfl⟩:=cB hl;rfl
 obtain⟨_,F33,m33⟩:=x33.fn X G;have b33:=F33.binds (ps:=["rule", "signs"]) λ_ _ _ _ _ _ us hl=>by obtain⟨_,_,rfl⟩:=cB hl;rfl
 obtain⟨_,F34,m34⟩:=x34.fn X G;have b34:=F34.binds (ps:=["net", "standing"]) λ_ _ _ _ _ _ us hl=>by obtain⟨_,_,rfl⟩:=cB hl;rfl
 obtain⟨_,F35,m35⟩:=x35.fn X G;have b35:=F35.binds (ps:=["net", "standing"]) λ_ _ _ _ _ _ us hl=>by obtain⟨_,_,rfl⟩:=cB hl;rfl
 obtain⟨_,F36,m36⟩:=x36.fn X G;have b36:=F36.binds (ps:=["ways", "standing"]) λ_ _ _ _ _ _ us hl=>by obtain⟨_,_,rfl⟩:=cB hl;rfl
 obtain⟨_,F37,m37⟩:=x37.fn X G;have b37:=F37.binds (ps:=["ways", "standing"]) λ_ _ _ _ _ _ us hl=>by obtain⟨_,_,rfl⟩:=cB hl;rfl
 obtain⟨_,F38,m38⟩:=x38.fn X G;have b38:=F38.binds (ps:=["net", "standing", "rest", "paper"]) λ_ _ _ _ _ _ us hl=>by obtain⟨_,_,_,_,rfl⟩:=rT hl;rfl
 obtain⟨_,F39,m39⟩:=x39.fn X G;have b39:=F39.binds (ps:=["net"]) λ_ _ _ _ _ _ us hl=>by obtain⟨_,rfl⟩:=fN hl;rfl
 obtain⟨a40,⟨_,_,kV,dc,pm,an,ct,_,l40⟩,c40,k40⟩:=x40;have m40:=PySem.W.mg_of X G a40;have F40:=qQ (st:=top 49) l40 c40 k40;have b40:=F40.binds (ps:=["script"]) λ_ _ _ _ _ _ us hl=>by obtain⟨_,rfl⟩:=fN hl;rfl
 refine⟨PySem.W.fnOf "law" "law" (dR (top 49)) (cQ (top 49)) (aA (top 49)) .none kV dc pm an (.ref 292) ct,λs v=>.of_eq rfl,λbase KB _ BM=>?_⟩;have CT0:=PySem.W.codeHd_of_K KB h13;have FC13:FunC K "steps_found" "steps_found" (top 19) 134 _ 133:=⟨_,_,_,_,_,_,_,_,rfl,l13,c13⟩;have g25:Fn l.prog w K mg base "_law_draws" ["script", "many"] 1 (mI K):=⟨_,_,vt F25 T,m25,x25.k,b25⟩;have g26:Fn l.prog w K mg base "_law_names" ["d", "spot"] 1 jw:=⟨_,_,tF F26 T,m26,x26.k,b26⟩;have g28:Fn l.prog w K mg base "_law_held" ["one", "other", "own"] 1 p_:=⟨_,_,xj F28 T,m28,x28.k,b28⟩;have g29:Fn l.prog w K mg base "_law_known" ["way", "many", "names"] 2 jy:=⟨_,_,tI F29 T g28,m29,x29.k,b29⟩;have g27:Fn l.prog w K mg base "_law_rule" ["d", "pos", "names", "deep"] 11 (gK 10):=⟨_,_,oV F27 T m27 x27.k b27 10,m27,x27.k,b27⟩;have g30:Fn l.prog w K mg base "_law_deeper" ["d", "pos", "names", "rule"] 1 gL:=⟨_,_,tJ F30 T,m30,x30.k,b30⟩;have g31:Fn l.prog w K mg base "_law_net" ["d", "spot"] 12 pY:=⟨_,_,xc F31 T g26 g29 g27 g30,m31,x31.k,b31⟩;have g39:Fn l.prog w K mg base "_law_copy" ["net"] 1 qe:=⟨_,_,xm F39 T,m39,x39.k,b39⟩;have g32:Fn l.prog w K mg base "_law_standing" ["x", "net"] 1 jt:=⟨_,_,tz F32 T,m32,x32.k,b32⟩;have g33:Fn l.prog w K mg base "_law_holds" ["rule", "signs"] 10 (eG 10):=⟨_,_,lJ F33 T m33 x33.k b33 10,m33,x33.k,b33⟩;have g34:Fn l.prog w K mg base "_law_asked" ["net", "standing"] 11 dH:=⟨_,_,qx F34 T g33,m34,x34.k,b34⟩;have g35:Fn l.prog w K mg base "_law_ways" ["net", "standing"] 12 pV:=⟨_,_,w9 F35 T g34,m35,x35.k,b35⟩;have g36:Fn l.prog w K mg base "_law_levels" ["ways", "standing"] 1 jx:=⟨_,_,tH F36 T,m36,x36.k,b36⟩;have g37:Fn l.prog w K mg base "_law_one" ["ways", "standing"] 2 pZ:=⟨_,_,xg F37 T g36,m37,x37.k,b37⟩;have g38:Fn l.prog w K mg base "_law_shows" ["net", "standing", "rest", "paper"] 12 mD:=⟨_,_,tG F38 T g34,m38,x38.k,b38⟩;have g2:Fn l.prog w K mg base "is_row" ["thing", "many"] 1 uC:=⟨_,_,zP F2 T,m2,x2.k,b2⟩;have g5:Fn l.prog w K mg base "is_standing" ["net", "thing"] 2 i8:=⟨_,_,xh F5 T g2,m5,x5.k,b5⟩;have g6:Fn l.prog w K mg base "check_standing" ["net", "thing"] 3 (jz .non):=⟨_,_,vv F6 T g5,m6,x6.k,b6⟩;have g12:Fn l.prog w K mg base "found_from" ["start", "steps_of"] 14 (mG l.prog w K mg base 13):=⟨_,_,vq F12 T,m12,x12.k,b12⟩;have g3:Fn l.prog w K mg base "gates_of" ["net"] 1 mF:=⟨_,_,vp F3 T,m3,x3.k,b3⟩;have g4:Fn l.prog w K mg base "wires_of" ["net"] 2 mB:=⟨_,_,vk F4 T g3,m4,x4.k,b4⟩;have g9:Fn l.prog w K mg base "signs_in" ["net", "standing"] 3 ii:=⟨_,_,qu F9 T g4,m9,x9.k,b9⟩;have g7:Fn l.prog w K mg base "rule_holds" ["rule", "signs"] 10 (eG 10):=⟨_,_,oX F7 T m7 x7.k b7 10,m7,x7.k,b7⟩;have g8:Fn l.prog w K mg base "rule_worth" ["rule", "signs"] 11 (my 10):=⟨_,_,vj F8 T g7,m8,x8.k,b8⟩;have g10:Fn l.prog w K mg base "turned_at" ["standing", "place"] 1 js:=⟨_,_,tw F10 T,m10,x10.k,b10⟩;have g11:Fn l.prog w K mg base "steps_from" ["net", "standing"] 12 dH:=⟨_,_,vn F11 T g9 g8 g10,m11,x11.k,b11⟩;have g13:Fn l.prog w K mg base "steps_found" ["net", "standing"] 15 (fX 129):=⟨_,_,qt FC13 T CT0 BM g12 g11,m13,k13,b13⟩;have g14:Fn l.prog w K mg base "rests_in" ["steps"] 1 dZ:=⟨_,_,qw F14 T,m14,x14.k,b14⟩;have g17:Fn l.prog w K mg base "standings_ahead" ["found"] 1 mJ:=⟨_,_,vz F17 T,m17,x17.k,b17⟩;have g18:Fn l.prog w K mg base "most_switchings" ["found"] 2 mE:=⟨_,_,xf F18 T g17 g14,m18,x18.k,b18⟩;have g20:Fn l.prog w K mg base "rest_paper" ["net", "standing"] 16 (jv 129):=⟨_,_,tE F20 T g6 g13 g14 g18,m20,x20.k,b20⟩;have g19:Fn l.prog w K mg base "one_rest" ["net", "standing"] 16 (uD 129):=⟨_,_,zQ F19 T g6 g13 g14 g18,m19,x19.k,b19⟩;have g0:Fn l.prog w K mg base "is_pair" ["thing"] 1 pW:=⟨_,_,w_ F0 T,m0,x0.k,b0⟩;have g1:Fn l.prog w K mg base "is_whole" ["thing"] 1 mC:=⟨_,_,vm F1 T,m1,x1.k,b1⟩;have g21:Fn l.prog w K mg base "is_numbered" ["thing"] 2 pX:=⟨_,_,xa F21 T g0 g1,m21,x21.k,b21⟩;have g15:Fn l.prog w K mg base "is_paper" ["net", "thing"] 3 ij:=⟨_,_,qy F15 T g5,m15,x15.k,b15⟩;have g22:Fn l.prog w K mg base "is_rest_paper" ["net", "thing"] 4 p6:=⟨_,_,xi F22 T g21 g15,m22,x22.k,b22⟩;have g16:Fn l.prog w K mg base "is_closed" ["steps"] 1 gn:=⟨_,_,oW F16 T,m16,x16.k,b16⟩;have g23:Fn l.prog w K mg base "is_falling" ["steps", "numbers"] 1 qc:=⟨_,_,xk F23 T,m23,x23.k,b23⟩;have g24:Fn l.prog w K mg base "rest_shows" ["net", "standing", "rest", "paper"] 13 ju:=⟨_,_,tD F24 T g6 g22 g11 g16 g23 g14,m24,x24.k,b24⟩;exact vo F40 T g25 g31 g39 g32 g35 g37 g38 g20 g19 g24
theorem Dx {l:PySem.W.OpenLaw} {q:Program} {loose:List Str} {XP:(Str->Option Value)->Heap->Prop} {d:DefRec} {K:Params->PySem.W.Frag} {as:List Addr} {e:∀P,as=(K P).map (·.1)} {TL0:Addr} (hn:l.most=some 63) (hdf:d.params.defaults=[]) (ok:∀w:World,gS (K w.params) [TL0]=true)
  (F:∀(w:World) (mg:Str->Option Value) (fa:Addr) (h:Heap),(K w.params).In h->h.Ns mainGlobals mg->mg d.name=some (.ref fa) ->
   ∃fd:FuncData,(∀(s:Shared) (u:Value),BindsTo s fd ⟨[u],[]⟩ [("script", u)])/\∀base:Heap,(K w.params).In base->base.Ns mainGlobals mg->L2.gg base mg->FnOk l.prog w (K w.params) mg base CX0 17 fa fd ["script"] (rB (K w.params) TL0)) :
  PySem.W.WalkO q loose XP (PySem.W.kmHook K as e [TL0]).says l.row.toRowW d [] (λf vs=>PySem.call f vs) :=
 L2.um (n:=63) (k:=17) (x := "script") (CX:=λ_=>CX0) (sp:=λw=>rB (K w.params) TL0) hn (by decide) hdf ⟨rfl,by decide,by decide⟩ ok F (λ_ _ a ns hl hT hS=>⟨a,ns,rfl,hS,hl,(.inl (hT _ (by simp))),λ_=>rfl⟩) λ_ _ _ _ _ z=>z
end K2
open PySem PySem.W PyProof.Rows
set_option maxRecDepth 100000 in
set_option maxHeartbeats 0 in
theorem PySem.Challenge.cw_anydelay_k22_papers_of_one_rest_holds : PySem.Challenge.rw_anydelay_k22_papers_of_one_rest.Holds := by
 w_on;o_law
 refine holds_open (q:=K2.vw) (loose:=[("TURNED" : Str)]) (Xt:=λs=>xlAt K2.vw [] s&&recOk (RowW.records PySem.Challenge.rw_anydelay_k22_papers_of_one_rest.row.toRowW) s) (XP:=XL K2.vw []) (Yf:=Hook.obs K2.hk) (Ya:=Hook.val K2.hk) (YP:=Hook.says K2.hk) (N:=3548) K2.left (Hook.of K2.hk) (Hook.keeps K2.hk) (λs e=>xl_of s (Bool.and_eq_true_iff.mp e).1) XL.keeps (by rfl) (by rfl) (by rfl) (λs e=>recFacts_of (Bool.and_eq_true_iff.mp e).2) (by rfl) (by first|assumption|decide +kernel) (by decide +kernel) ⟨rfl,rfl,rfl,rfl,rfl,by decide +kernel⟩ ?hw ?hc
 (case hw=>w_witness2)
 refine K2.Dx (l:=PySem.Challenge.rw_anydelay_k22_papers_of_one_rest) (K:=K2.KF) (as:=[3,40,46,47,53,54,58,59,63,64,70,71,77,78,84,85,91,92,98,99,105,106,112,113,119,120,126,127,133,134,138,139,143,144,148,149,153,154,158,159,165,166,172,173,179,180,184,185,189,190,194,195,201,202,206,207,213,214,220,221,225,226,232,233,239,240,244,245,251,252,256,257,261,262,268,269,273,274,278,279,285,286,292,293]) (e:=λ_=>rfl) rfl rfl (λw=>by kernel_rfl) ?F
 case F =>
  intro w mg fa h KX G hmg;refine' K2.Ag KX G hmg ?_ ?_ ?_ ?_ ?_ ?_ ?_ ?_ ?_ ?_ ?_ ?_ ?_ ?_ ?_ ?_ ?_ ?_ ?_ ?_ ?_ ?_ ?_ ?_ ?_ ?_ ?_ ?_ ?_ ?_ ?_ ?_ ?_ ?_ ?_ ?_ ?_ ?_ ?_ ?_ ?_ ?_ ?_ ?_ ?_ ?_ ?_ ?_ ?_ ?_ ?_ ?_ ?_ ?_ ?_ ?_ ?_ ?_ ?_ ?_ ?_ ?_
  all_goals first|exact⟨by kernel_rfl,⟨_,_,_,_,_,_,_,_,rfl⟩,by kernel_rfl,by kernel_rfl⟩|kernel_rfl|rfl|decide|decide +kernel
