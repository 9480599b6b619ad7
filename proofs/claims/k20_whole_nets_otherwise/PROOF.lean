import PyProof.Rows.All
import Wide.All
import OpenK.AllK
import Wide.FinOn
import Lean
import PyProof.EqAt
import PyProof.EqKinds
import PyProof.TupleCall
import PyProof.NeKinds
import KE.KTabLook
import KE.KIntText
import KE.KUnpack
import PyProof.StrBlock2
import KE.KLam
import PyProof.ZipIter
import PyProof.Draws
import PyProof.AttrMissHeap
import PyProof.DictUpdate
import PyProof.ListNew
import PyProof.FactsAll.dict_1
import PyProof.Rows.DictSet
import KE.KRevIter
import PyProof.ListRange
import KE.KDictLaws
import PyProof.DictWalks
import PyProof.DictItemsLoops
import PyProof.Rows.StrInSeq3
import PyProof.FactsAll.list_1
import PyProof.CompUse
import PyProof.EnumMake
import PyProof.Rows.CallKwBuiltin
import OpenK.KMore
import PyProof.Rows.SortShellK
import PyProof.Rows.SortKeyStr
import KE.KDictSum
import KE.KItemsList
import PyProof.Rows.SortStr
import PyProof.ForAppend
import PyProof.StrLawsReplace
import PyProof.Rows.SeqIn
import PySem.Challenge.RW_anydelay_k20_whole_nets_otherwise
set_option linter.all false
set_option maxRecDepth 100000
set_option Elab.async false
abbrev Qa:=@PySem.wpAny_bind
abbrev Qb:=@List.getElem?_eq_getElem
abbrev Qc:=@List.length_map
abbrev Qd:=@PySem.Heap.get?_push_of_some
abbrev Qe:=@List.getElem?_eq_some_iff
abbrev Qf:=@PySem.wpAny_pure
abbrev Qg:=@List.mem_of_getElem?
abbrev Qh:=@Nat.le_refl
abbrev Qi:=@List.getElem?_map
abbrev Qj:=@List.length_append
abbrev Qk:=@List.size_toArray
abbrev Ql:=@List.getD_eq_getElem?_getD
abbrev Qm:=@PySem.Heap.lt_size
abbrev Qn:=@Bool.false_ne_true
abbrev Qo:=@List.mem_map
abbrev Qp:=@PySem.Heap.get?_push_size
abbrev Qq:=@List.mem_cons_of_mem
abbrev Qr:=@List.mem_iff_getElem
abbrev Qs:=@List.take_of_length_le
abbrev Qt:=@PyProof.Rows.wpS_bind
abbrev Qu:=@Array.length_toList
abbrev Qv:=@List.length_take
abbrev Qw:=@List.map_append
abbrev Qx:=@Array.getElem?_toList
abbrev Qy:=@PyProof.Rows.wpS_pure
abbrev Qz:=@if_pos
abbrev QA:=@if_neg
abbrev QB:=@Nat.ne_of_lt
abbrev QC:=@List.map_cons
abbrev QE:=@Nat.lt_of_lt_of_le
abbrev QF:=@Array.getElem?_eq_getElem
abbrev QG:=@Array.toList_append
abbrev QH:=@List.mem_append
abbrev QI:=@decide_eq_false
abbrev QJ:=@List.all_eq_true
abbrev QK:=@Bool.false_eq_true
abbrev QL:=@List.mem_append_right
abbrev QM:=@Nat.zero_le
abbrev QN:=@List.getElem?_append_right
abbrev QO:=@List.take_succ
abbrev QP:=@Nat.le_trans
abbrev QQ:=@List.mem_cons
abbrev QR:=@PySem.W.mg_none_of
abbrev QS:=@PySem.wpAny_holding
abbrev QT:=@List.getElem?_append_left
abbrev QU:=@decide_eq_true
abbrev QV:=@PyProof.Rows.callWith_type1
abbrev QW:=@List.map_map
abbrev QX:=@Option.some.inj
abbrev QY:=@List.getElem?_eq_none
abbrev QZ:=@List.append_assoc
abbrev Q0:=@List.length_cons
abbrev Q2:=@List.lookup_cons
abbrev Q3:=@List.mem_singleton
abbrev Q4:=@PySem.Heap.get?_update_other
abbrev Q5:=@PySem.Heap.size_push
abbrev Q6:=@Array.getElem?_eq_some_iff
abbrev Q7:=@PySem.boot_len
abbrev Q8:=@Option.toList_some
abbrev Q9:=@Array.getD_eq_getD_getElem?
abbrev Xa:=@PySem.Around.under_plainId
abbrev Xb:=@List.pairwise_append
abbrev Xc:=@List.length_drop
abbrev Xd:=@List.mem_cons_self
abbrev Xe:=@PySem.wpAny_setField_rec
abbrev Xf:=@List.take_append_drop
abbrev Xg:=@Nat.add_sub_cancel_left
abbrev Xh:=@List.eq_nil_of_length_eq_zero
abbrev Xi:=@List.nodup_cons
abbrev Xj:=@List.getElem_mem
abbrev Xk:=@List.mem_range
abbrev Xl:=@List.length_range
abbrev Xm:=@Bool.eq_false_iff
abbrev Xn:=@PySem.wpAny_mono
abbrev Xo:=@PySem.wpAny_field
abbrev Xp:=@PySem.builtinLookup_eq_fast
abbrev Xq:=@List.length_nil
abbrev Xr:=@PySem.codeAny_builtin
abbrev Xs:=@PySem.F.plainAttrs_list
abbrev Xu:=@Int.toNat_natCast
abbrev Xv:=@PyProof.Rows.wpS_forRange
abbrev Xw:=@PySem.Heap.get?_update_self
abbrev Xx:=@List.Perm.append_left
abbrev Xy:=@List.idxOf_lt_length_of_mem
abbrev Xz:=@PySem.W.kia_one
abbrev XA:=@Bool.and_eq_true
abbrev XB:=@PySem.wpAny_call_entry
abbrev XC:=@List.filterMap_cons
abbrev XD:=@PySem.Heap.SameBut.update
abbrev XE:=@Array.size_append
abbrev XF:=@Nat.lt_irrefl
abbrev XG:=@PySem.wpAny_seqItems
abbrev XH:=@Nat.le_of_lt
abbrev XI:=@Ne.symm
abbrev XJ:=@List.find?_cons
abbrev XM:=@PyProof.Rows.KeyOrd.kle_refl
abbrev XN:=@PySem.PassesOwn.never
abbrev XO:=@Nat.lt_of_le_of_lt
abbrev XQ:=@PySem.Calls.spliced_cons
abbrev XR:=@PySem.wpAny_rule
abbrev XS:=@List.getElem?_take
abbrev XT:=@List.getElem?_drop
abbrev XU:=@PySem.Obj.data_mapFields
abbrev XV:=@if_false
abbrev XW:=@PySem.wpAny_callSpecial?_slot
abbrev XX:=@PySem.plainId_quiet
local macro_rules|`(tactic|walk_at "z")=>`(tactic|first|exact .inl rfl|exact .inr rfl|assumption)
noncomputable section
namespace L2
open PySem
def cQ (s:Stmt):Arguments:=match s with
 | .FunctionDef _ a _ _ _ _ _ _ _ _=>a
 | _=>{ posonlyargs:=[],args:=[],vararg:=none,kwonlyargs:=[],kw_defaults:=[],kwarg:=none,defaults:=[] }
def bS (s:Stmt):List Stmt:=match s with
 | .FunctionDef _ _ b _ _ _ _ _ _ _=>b
 | _=>[]
def au (s:Stmt):Scope:=match s with
 | .FunctionDef _ _ _ _ _ _ sc _ _ _=>sc
 | _=>{ kind:=.function,names:=[],isGenerator:=false,isCoroutine:=false }
end L2
namespace K2
open PySem L2 PySem.W
def top (i:Nat):Stmt:=PySem.Challenge.pw_anydelay_k20_whole_nets_otherwise.main.body.getD i (.Pass ⟨0,0,0,0⟩)
noncomputable def kC (n:Str) (t:Nat) (l a fl:Int) (r:Addr) (x y:Value) (z:Addr) (u:Nat):Obj:={ cls:=.type "code", data:=.fields #[.str n t,.str n (t+1),.str "/claim/cut.py" (t+2),.int l 0,.int a 0,.int 0 0,.int 0 0,.int 3 0,.ref r,.bool true,.int fl 0,.ref (r+1),.none,x,y,.ref z,.int u 0,.int l 0,.str "/claim/cut.py" (u+1)] }
noncomputable def kF (n:Str) (i:Nat) (m:Str) (t:Nat) (c:Addr):Obj:={ cls:=.type "function", data:=.func { name:=n,qualname:=n,params:=cQ (top i),body:=.stmts (bS (top i)),scope:=au (top i),globals:=3,closure:=[],defaults:=.none,kwdefaults:=.none,pyModule:=.str m t,code:=.ref c } }
def kE (P:Params) (x:Str) (t:Nat) (v:Value):DictEntry:={ hash:=PyData.keyHash P x,key:=.str x t,val:=v }
noncomputable def KF (P:Params):Frag:=[(3,{ cls:=.type "dict", data:=.dict #[kE P "__name__" 165 (.str "law_anydelay_k20_whole_nets_otherwise" 416),kE P "__doc__" 166 .none,kE P "__package__" 167 .none,kE P "__loader__" 168 (.builtin "__main__.__loader__#opaque"),kE P "__spec__" 169 .none,kE P "__annotations__" 170 (.ref 6),kE P "__builtins__" 171 (.ref 4),kE P "__file__" 173 (.str "/claim/cut.py" 172),kE P "__cached__" 174 .none,kE P "NetError" 206 (.ref 24),kE P "NoStanding" 222 (.ref 37),kE P "TURNED" 231 (.ref 40),kE P "is_row" 237 (.ref 45),kE P "gates_of" 243 (.ref 50),kE P "wires_of" 250 (.ref 57),kE P "is_standing" 258 (.ref 64),kE P "check_standing" 266 (.ref 71),kE P "rule_holds" 275 (.ref 78),kE P "rule_worth" 283 (.ref 85),kE P "signs_in" 291 (.ref 92),kE P "turned_at" 299 (.ref 99),kE P "steps_from" 311 (.ref 106),kE P "found_from" 328 (.ref 113),kE P "steps_found" 337 (.ref 120),kE P "order_to" 351 (.ref 127),kE P "names_asked" 359 (.ref 132),kE P "first_calmed" 371 (.ref 139),kE P "is_calm" 377 (.ref 144),kE P "first_race" 388 (.ref 151),kE P "calm_paper" 397 (.ref 158),kE P "is_paper" 403 (.ref 163),kE P "is_closed" 409 (.ref 168),kE P "calm_shows" 415 (.ref 173),kE P "_law_cell" 425 (.ref 180),kE P "_law_store" 433 (.ref 187),kE P "_law_take" 443 (.ref 194),kE P "_law_names" 449 (.ref 199),kE P "_law_rule" 460 (.ref 206),kE P "_law_holder" 469 (.ref 213),kE P "_law_known_rule" 484 (.ref 220),kE P "_law_net" 500 (.ref 227),kE P "_law_standing" 506 (.ref 232),kE P "_law_wires" 512 (.ref 237),kE P "_law_worth" 521 (.ref 244),kE P "_law_asked" 527 (.ref 249),kE P "_law_flipped" 537 (.ref 256),kE P "_law_copy" 544 (.ref 263),kE P "_law_renamed_rule" 552 (.ref 270),kE P "_law_renamed" 558 (.ref 275),kE P "_law_order" 568 (.ref 282),kE P "_law_reordered" 574 (.ref 287),kE P "_law_turned_rule" 581 (.ref 294),kE P "_law_turned_signs" 587 (.ref 299),kE P "_law_long" 594 (.ref 306),kE P "_law_right" 604 (.ref 313),kE P "law" 610 (.ref 318)] 56 }),
 (40,{ cls:=.type "dict", data:=.dict #[kE P "0" 225 (.str "1" 226),kE P "1" 227 (.str "0" 228)] 2 }),
 (44,kC "is_row" 232 8 2 181 41 .none .none 43 235),
 (45,kF "is_row" 5 "anydelay.nets" 223 44),
 (49,kC "gates_of" 238 12 1 181 46 .none .none 48 241),
 (50,kF "gates_of" 6 "anydelay.nets" 223 49),
 (56,kC "wires_of" 244 14 1 181 51 (.ref 53) (.ref 54) 55 248),
 (57,kF "wires_of" 7 "anydelay.nets" 223 56),
 (63,kC "is_standing" 251 16 2 181 58 (.ref 60) (.ref 61) 62 256),
 (64,kF "is_standing" 8 "anydelay.nets" 223 63),
 (70,kC "check_standing" 259 18 2 181 65 (.ref 67) (.ref 68) 69 264),
 (71,kF "check_standing" 9 "anydelay.nets" 223 70),
 (77,kC "rule_holds" 267 21 2 181 72 (.ref 74) (.ref 75) 76 273),
 (78,kF "rule_holds" 10 "anydelay.nets" 223 77),
 (84,kC "rule_worth" 276 30 2 181 79 (.ref 81) (.ref 82) 83 281),
 (85,kF "rule_worth" 11 "anydelay.nets" 223 84),
 (91,kC "signs_in" 284 32 2 181 86 (.ref 88) (.ref 89) 90 289),
 (92,kF "signs_in" 12 "anydelay.nets" 223 91),
 (98,kC "turned_at" 292 34 2 181 93 (.ref 95) (.ref 96) 97 297),
 (99,kF "turned_at" 13 "anydelay.nets" 223 98),
 (105,kC "steps_from" 300 36 2 181 100 (.ref 102) (.ref 103) 104 309),
 (106,kF "steps_from" 14 "anydelay.nets" 223 105),
 (112,kC "found_from" 314 44 2 181 107 (.ref 109) (.ref 110) 111 326),
 (113,kF "found_from" 16 "anydelay.orders" 312 112),
 (119,kC "steps_found" 329 59 2 181 114 (.ref 116) (.ref 117) 118 335),
 (120,kF "steps_found" 17 "anydelay.orders" 312 119),
 (126,kC "order_to" 338 61 3 181 121 (.ref 123) (.ref 124) 125 349),
 (127,kF "order_to" 18 "anydelay.orders" 312 126),
 (131,kC "names_asked" 354 73 3 181 128 .none .none 130 357),
 (132,kF "names_asked" 20 "anydelay.races" 352 131),
 (138,kC "first_calmed" 360 75 3 181 133 (.ref 135) (.ref 136) 137 369),
 (139,kF "first_calmed" 21 "anydelay.races" 352 138),
 (143,kC "is_calm" 372 81 2 181 140 .none .none 142 375),
 (144,kF "is_calm" 22 "anydelay.races" 352 143),
 (150,kC "first_race" 378 83 2 181 145 (.ref 147) (.ref 148) 149 386),
 (151,kF "first_race" 23 "anydelay.races" 352 150),
 (157,kC "calm_paper" 389 91 2 181 152 (.ref 154) (.ref 155) 156 395),
 (158,kF "calm_paper" 24 "anydelay.races" 352 157),
 (162,kC "is_paper" 398 95 2 181 159 .none .none 161 401),
 (163,kF "is_paper" 25 "anydelay.races" 352 162),
 (167,kC "is_closed" 404 99 1 181 164 .none .none 166 407),
 (168,kF "is_closed" 26 "anydelay.races" 352 167),
 (172,kC "calm_shows" 410 104 3 181 169 .none .none 171 413),
 (173,kF "calm_shows" 27 "anydelay.races" 352 172),
 (179,kC "_law_cell" 418 111 2 181 174 (.ref 176) (.ref 177) 178 423),
 (180,kF "_law_cell" 29 "law_anydelay_k20_whole_nets_otherwise" 416 179),
 (186,kC "_law_store" 426 115 1 181 181 (.ref 183) (.ref 184) 185 431),
 (187,kF "_law_store" 30 "law_anydelay_k20_whole_nets_otherwise" 416 186),
 (193,kC "_law_take" 434 120 2 181 188 (.ref 190) (.ref 191) 192 441),
 (194,kF "_law_take" 31 "law_anydelay_k20_whole_nets_otherwise" 416 193),
 (198,kC "_law_names" 444 130 2 181 195 .none .none 197 447),
 (199,kF "_law_names" 32 "law_anydelay_k20_whole_nets_otherwise" 416 198),
 (205,kC "_law_rule" 450 133 3 181 200 (.ref 202) (.ref 203) 204 458),
 (206,kF "_law_rule" 33 "law_anydelay_k20_whole_nets_otherwise" 416 205),
 (212,kC "_law_holder" 461 141 3 181 207 (.ref 209) (.ref 210) 211 467),
 (213,kF "_law_holder" 34 "law_anydelay_k20_whole_nets_otherwise" 416 212),
 (219,kC "_law_known_rule" 470 143 4 181 214 (.ref 216) (.ref 217) 218 482),
 (220,kF "_law_known_rule" 35 "law_anydelay_k20_whole_nets_otherwise" 416 219),
 (226,kC "_law_net" 485 156 2 181 221 (.ref 223) (.ref 224) 225 498),
 (227,kF "_law_net" 36 "law_anydelay_k20_whole_nets_otherwise" 416 226),
 (231,kC "_law_standing" 501 171 2 181 228 .none .none 230 504),
 (232,kF "_law_standing" 37 "law_anydelay_k20_whole_nets_otherwise" 416 231),
 (236,kC "_law_wires" 507 173 1 181 233 .none .none 235 510),
 (237,kF "_law_wires" 38 "law_anydelay_k20_whole_nets_otherwise" 416 236),
 (269,kC "_law_renamed_rule" 545 194 2 181 264 (.ref 266) (.ref 267) 268 550),
 (270,kF "_law_renamed_rule" 43 "law_anydelay_k20_whole_nets_otherwise" 416 269),
 (274,kC "_law_renamed" 553 200 2 181 271 .none .none 273 556),
 (275,kF "_law_renamed" 44 "law_anydelay_k20_whole_nets_otherwise" 416 274),
 (281,kC "_law_order" 559 207 2 181 276 (.ref 278) (.ref 279) 280 566),
 (282,kF "_law_order" 45 "law_anydelay_k20_whole_nets_otherwise" 416 281),
 (286,kC "_law_reordered" 569 213 3 181 283 .none .none 285 572),
 (287,kF "_law_reordered" 46 "law_anydelay_k20_whole_nets_otherwise" 416 286),
 (293,kC "_law_turned_rule" 575 215 1 181 288 (.ref 290) (.ref 291) 292 579),
 (294,kF "_law_turned_rule" 47 "law_anydelay_k20_whole_nets_otherwise" 416 293),
 (298,kC "_law_turned_signs" 582 221 1 181 295 .none .none 297 585),
 (299,kF "_law_turned_signs" 48 "law_anydelay_k20_whole_nets_otherwise" 416 298),
 (305,kC "_law_long" 588 223 1 181 300 (.ref 302) (.ref 303) 304 592),
 (306,kF "_law_long" 49 "law_anydelay_k20_whole_nets_otherwise" 416 305),
 (312,kC "_law_right" 595 227 4 181 307 (.ref 309) (.ref 310) 311 602),
 (313,kF "_law_right" 50 "law_anydelay_k20_whole_nets_otherwise" 416 312),
 (317,kC "law" 605 231 1 181 314 .none .none 316 608),
 (318,kF "law" 51 "law_anydelay_k20_whole_nets_otherwise" 416 317)]
noncomputable def hk:Hook:=kmHook KF [3,40,44,45,49,50,56,57,63,64,70,71,77,78,84,85,91,92,98,99,105,106,112,113,119,120,126,127,131,132,138,139,143,144,150,151,157,158,162,163,167,168,172,173,179,180,186,187,193,194,198,199,205,206,212,213,219,220,226,227,231,232,236,237,269,270,274,275,281,282,286,287,293,294,298,299,305,306,312,313,317,318] (λ_=>rfl) [115]
noncomputable def vw:Program:={ PySem.Challenge.pw_anydelay_k20_whole_nets_otherwise with main:={ PySem.Challenge.pw_anydelay_k20_whole_nets_otherwise.main with body:=[1,2,4,5,6,7,8,9,10,11,12,13,14,16,17,18,20,21,22,23,24,25,26,27,29,30,31,32,33,34,35,36,37,38,39,40,41,42,43,44,45,46,47,48,49,50,51].map top } }
def LW (w:World):Prop:=(openEnds treeTable PySem.Challenge.rw_anydelay_k20_whole_nets_otherwise.prog w 3716).map (λs=>(openSeen vw [("TURNED" : Str)] (importedModules PySem.Challenge.rw_anydelay_k20_whole_nets_otherwise.prog.main.body) (λs=>xlAt vw [] s&&recOk (RowW.records PySem.Challenge.rw_anydelay_k20_whole_nets_otherwise.row.toRowW) s) true s,Hook.obs hk s))=some (openGood vw [("TURNED" : Str)],Hook.val hk w)
set_option maxHeartbeats 0 in
theorem BQ:∀w:World,LW (w.withFollow "special-get-raises" false):=λw=>by unfold LW;kernel_rfl
set_option maxHeartbeats 0 in
theorem BP:∀w:World,LW (w.withFollow "special-get-raises" true):=λw=>by unfold LW;kernel_rfl
theorem left:LeftO PySem.Challenge.rw_anydelay_k20_whole_nets_otherwise.prog vw [("TURNED" : Str)] (λs=>xlAt vw [] s&&recOk (RowW.records PySem.Challenge.rw_anydelay_k20_whole_nets_otherwise.row.toRowW) s) (Hook.obs hk) (Hook.val hk) 3716:=λw=>byRow2 (P:=LW) "special-get-raises" BQ BP w
end K2
section
variable {a b c d e f g h i j k l m n x r lo:Nat}
local macro_rules | `(tactic| walk_at "so") => `(tactic| (intros; first | solve_by_elim (maxDepth := 3) [XH, QE, XO, QP, Nat.lt_of_not_ge, Nat.lt_of_not_le, Nat.le_of_not_lt, Nat.ge_of_not_lt, Nat.le_add_right, Nat.le_add_left, Nat.sub_le, Nat.lt_succ_self, Nat.le_succ, Nat.add_le_add_left, Nat.add_le_add_right, Nat.add_lt_add_left, Nat.add_lt_add_right, Nat.succ_le_of_lt, Nat.lt_of_succ_le, Nat.le_of_eq, Nat.le_antisymm, Nat.lt_of_le_of_ne, Qh, QM, Nat.sub_lt, Nat.succ_le_succ, Nat.lt_succ_of_le, Nat.le_of_lt_succ, Eq.symm, Eq.trans] | (subst_vars; solve_by_elim (maxDepth := 3) [XH, QE, XO, QP, Nat.lt_of_not_ge, Nat.lt_of_not_le, Nat.le_of_not_lt, Nat.ge_of_not_lt, Nat.le_add_right, Nat.le_add_left, Nat.sub_le, Nat.lt_succ_self, Nat.le_succ, Nat.add_le_add_left, Nat.add_le_add_right, Nat.add_lt_add_left, Nat.add_lt_add_right, Nat.succ_le_of_lt, Nat.lt_of_succ_le, Nat.le_of_eq, Nat.le_antisymm, Nat.lt_of_le_of_ne, Qh, QM, Nat.sub_lt, Nat.succ_le_succ, Nat.lt_succ_of_le, Nat.le_of_lt_succ, Eq.symm, Eq.trans])))
theorem om0:a<=b->¬a<b->a=b:=by grind
theorem om1:a-b<=a-b:=by simp_all
theorem om2:¬b<a->a<=b:=by walk_at "so"
theorem om3:c=b->b=d->a<c->a<b:=by walk_at "so"
theorem om4:c<=b->c=a->a<=b:=by walk_at "so"
theorem om5:a+1≠a:=by simp_all
theorem om6:b<a->a-(b+1)<a-b:=by omega
theorem om7:c=d->c=a->d=b->a=b:=by walk_at "so"
theorem om8:a+(c+1)<b->a<b:=by grind
theorem om9:b=c->b=d->c=e->a<d->a<b:=by intros;simp_all
theorem CZ:c=b->c=d->b=e->a<d->a<b:=by intros;simp_all
theorem BH:a+(b+1)<c->a+1+b<c:=by omega
theorem yn:b=c->a<c->a<b:=by walk_at "so"
theorem Bs:a<c->b=c->a<b:=by walk_at "so"
theorem Bh:c=a->d=b->c=d->a=b:=by walk_at "so"
theorem ue:a+64<b->a<b:=by grind
theorem ym:a+64<b->a+1+8<b:=by grind
theorem yk:c=b->a<c->a<b:=by walk_at "so"
theorem yj:b<=100000->a=b->a<=16777216:=by grind
theorem CY:b<=a->a<=c->a-b<=c-0:=by grind
theorem CW:a<b->a+(b-a) / 2+1<=b:=by grind
theorem CV:a<b+(c-b) / 2+1->a<=b+(c-b) / 2:=by walk_at "so"
theorem CU:b<=c->a<b->a+(b-a) / 2<c:=by grind
theorem CS:a<=a+(b-a) / 2:=by walk_at "so"
theorem CQ:b<=c->a<b->a+(b-a) / 2<=c:=by omega
theorem zT:a<=b->b-a<=c-max 0 c->a=b:=by grind
theorem CP:a<b->a+0<b:=by walk_at "so"
theorem zQ:a<c->¬b>=c-a->a+b<c:=by grind
theorem zM:a<2*a+1:=by grind
theorem CO:a<d->b<c->a+b<d->a+b+1<=a+min c (d-a):=by grind
theorem CM:a<c->a+min b (c-a)<=c:=by grind
theorem CL:a<b+c+1->a<=b+c:=by walk_at "so"
theorem CK:a<d->a+min b (d-a)<=c->b<d-a->a+b<=c:=by grind
theorem yi:a<=b->a>=b->a=b:=by grind
theorem zL:b<=c->¬a>=b->a+(b-a) / 2<c:=by grind
theorem vK:¬a>=b->a<b:=by walk_at "so"
theorem yh:0<=a:=by walk_at "so"
theorem CJ:a<c->d<b->¬b>=a+1->a-b<c:=by grind
theorem CI:¬a>=b+1->a<=b:=by walk_at "so"
theorem CG:c<b->c<=a->a+1-min b (a+1)<=a-c:=by omega
theorem CF:a<c->b<=a->a-b<=c:=by grind
theorem CD:a<b+1-min c (b+1)->c<b+1->a<=b-c:=by grind
theorem CC:a<c->d<b->b<a+1->a-b<c:=by grind
theorem CB:a+1=b->a<b:=by walk_at "so"
theorem CA:a+b+1=a+(b+1):=by walk_at "so"
theorem rO:a<=b->a+1<=b+1:=by walk_at "so"
theorem Cz:a+b+1=a+1+b:=by grind
theorem zK:a<min b c->a<min b c:=by walk_at "so"
theorem vJ:a<min b c->a<b:=by grind
theorem zJ:a+b<=c->min (a+b) c-a=b:=by intros;simp_all
theorem Cy:a+b+c=a+c+b:=by grind
theorem zI:c=d->a<=b->a<=b+c:=by grind
theorem Cw:a+b+c=a+(b+c):=by grind
theorem zH:a<=b->¬a=b->a<b:=by grind
theorem zF:a+d<=c->b<d->a+b<c:=by grind
theorem Cv:a+d<=c->b<=e->e<d->a+b<c:=by grind
theorem ud:a<=a+b:=by walk_at "so"
theorem Cu:b<=c->a+b<=a+c:=by walk_at "so"
theorem Ct:b<c->a+b<a+c:=by walk_at "so"
theorem uc:1<=a->0<a:=by walk_at "so"
theorem zE:1<=a->0<=a:=by walk_at "so"
theorem Cs:1<=a->¬0+1=a->0+1<a:=by grind
theorem Cr:1<=b->1<=a->¬1=a->¬0+1=b->1<a:=by grind
theorem yg:a+1<b->a<b:=by walk_at "so"
theorem yf:a<b->¬a+1=b->a+1<b:=by omega
theorem vI:a+1+(b+1)<=a+1+b+1:=by walk_at "so"
theorem zD:a+1<b->¬a+1+1=b->a+1+1<b:=by omega
theorem Cq:a+1<b->a+(b-a)<=b:=by grind
theorem Cp:b+1<a->0<a-b:=by grind
theorem Co:a<b->a+1+(b-(a+1))<=b:=by omega
theorem Cn:b<a->¬b+1=a->0<a-(b+1):=by omega
theorem zC:a+1+(b+1)<=a+1+b+1+1:=by walk_at "so"
theorem Cm:a<c->b<=c-(a+1)->a+1+b<=c:=by grind
theorem zB:¬a>0->a=0:=by simp
theorem Cl:b<a->¬b+1=a->0<=a-(b+1)->0<a-(b+1):=by grind
theorem Ck:a+1<c->b<=c-a->a+b<=c:=by grind
theorem Cj:b+1<a->0<=a-b->0<a-b:=by omega
theorem Ci:1<=a->a=a-1+1:=by intros;simp_all
theorem zw:1<=a->a<=b->a-1<=b:=by grind
theorem Ch:1<=b->a+b+c=d+e->a+1+(b-1)+c=d+e:=by grind
theorem Cg:1<=c->a+b+c=d+e->a+1+b+(c-1)=d+e:=by grind
theorem Cf:a<min b c-d->a<min b c-d:=by intros;simp_all
theorem zu:b<min c d-a->a+b<c:=by omega
theorem zt:c<=a->a<=b->min a b-c=a-c:=by intros;simp_all
theorem zq:a<=c->c<=b->a<=b:=by grind
theorem zp:c=d-e->a<=b->a<=b+c:=by grind
theorem rN:1<=a->a-1<a:=by grind
theorem Ce:1<=b->1<=c->¬a=0->¬c=1->1<=a:=by grind
theorem ye:1<=a->a<=b->a-1<b:=by omega
theorem yd:2<=a->a<=b->a-1<b:=by grind
theorem ub:2<=a->1<=a:=by walk_at "so"
theorem ze:1<=a->¬a-1=0->1<=a-1:=by omega
theorem zd:2<=a->¬a-1=1->2<=a-1:=by grind
theorem Cd:a<=b->0+a<=b:=by grind
theorem Cc:2<=a->a<=b->0+(a-1)<=b:=by grind
theorem Cb:2<=a->a-1-1<a-1:=by grind
theorem Ca:a<=b-1->a<=b-1:=by walk_at "so"
theorem B_:¬a=1->¬a=0->2<=a:=by grind
theorem B9:2<=a->c=a-1-b->¬c>0->a-1-1<b:=by omega
theorem yc:a<=b->a<=b:=by simp
theorem BN:¬a=0->1<=a:=by grind
theorem BL:1<=a->c=a-b->¬c>0->a-1<b:=by omega
theorem BK:a<=b->b<1->a=b:=by intros;simp_all
theorem xc:a<b+1->¬a<b->a=b:=by grind
theorem xb:a<=b->1<=b->¬a=b->a<=b-1:=by grind
theorem xa:1<=b->b<=a->1<=a:=by omega
theorem ug:a<b->a<=b:=by walk_at "so"
theorem BJ:a<=b->max a b=b:=by intros;simp_all
theorem BI:d<=a->b<d->¬(a<=b/\b<c):=by grind
theorem w_:1<=b->a+b-1=a+(b-1):=by grind
theorem BG:a<=b->¬a=b->max (a+1) b=b:=by grind
theorem qG:a+d<=e->b<d->c=e->a+b<c:=by omega
theorem BF:c+1<=b->a+b-1=a+(b-1):=by grind
theorem uf:b+1<=a->1<=a:=by grind
theorem w9:c+1<=b->a<=a+b-(c+1):=by omega
theorem BE:a+d<=e->b<d->c=e->a+b<=c:=by grind
theorem w6:0+1<=a+1:=by walk_at "so"
theorem BD:b+1-(0+1)<=a->a<b+1->a=b+1-1:=by grind
theorem BC:a+1<=b->a+1+1<=b+1:=by walk_at "so"
theorem BB:a+1-1=a:=by walk_at "so"
theorem BA:a<b+1->¬a=b->a<b:=by omega
theorem Bz:a+d<=e->b<=d->f=e->c=e->a+b<=c:=by grind
theorem By:b<=d->d<c->a<=a+b/\a+b<a+c:=by grind
theorem Bx:b<c->a<=a+b/\a+b<a+c:=by intros;simp_all
theorem Bw:c<=b->b<a->a-1-b<=a-1-c:=by omega
theorem Bv:b<=c->c<a->a-1-b<a:=by grind
theorem Bu:b+1<=c->c<=a->1<=a:=by grind
theorem Bt:a+d<=e->b<=d->c=e->a+b<=c:=by grind
theorem Br:1<=c->a+c<=b->a<b:=by grind
theorem Bq:b>1->a+b-1=a+(b-1):=by grind
theorem Bp:b>1->a<b->a<=b-1:=by grind
theorem Bo:a>1->a-1<a:=by omega
theorem Bn:a+d<=c->b<=d->a+b<=c:=by grind
theorem Bm:a<=c->c<b->a<b:=by grind
theorem Bl:1<=c->¬c>1->a<=b->b<c->a=b:=by grind
theorem Bk:a<=b->b<min (max c 1) d->c=0->a=b:=by grind
theorem Bj:b<=c->a<min (max b 1) c->¬b=0->a<b:=by grind
theorem Bi:min (max (max a 1) b) b=b:=by grind
theorem Bg:a<b->min a b=a:=by grind
theorem Be:a<=a:=by simp
theorem Bd:a-0<=a-0:=by walk_at "so"
theorem Bc:¬a>=b->a<=(a+b) / 2:=by grind
theorem Bb:b<=c->¬a>=b->(a+b) / 2<=c:=by grind
theorem Ba:¬a>=b->(a+b) / 2+1<=b:=by omega
theorem A_:a<(b+c) / 2+1->a<=(b+c) / 2:=by walk_at "so"
theorem A9:b<=c->¬a>=b->(a+b) / 2<c:=by omega
theorem A8:c<=b->d<a->a+b-(a+c)<=a+b:=by walk_at "so"
theorem A7:d<=c->a<b->¬a=b+c-(b+c-(b+d)):=by omega
theorem A6:a<b->min (a+1) b=a+1:=by grind
theorem wZ:c<=b->a+b-(a+c)<=a+b:=by walk_at "so"
theorem A5:c<=b->a+b-(a+b-(a+c))=a+c:=by grind
theorem A4:c<b->a+b-1=a+(b-1):=by grind
theorem wY:b<c->¬a+b=a+c:=by grind
theorem wX:c<b->¬(a+b<a+c/\a+c<=a+d):=by grind
theorem A3:c<=b->a<b+1->a<c->a<b:=by grind
theorem wW:b=c->a+b=a+c:=by walk_at "so"
theorem wV:¬b=c->¬a+b=a+c:=by simp
theorem wU:¬b<a->¬b=a->a<b:=by grind
theorem A2:a<=b->a<c->¬b<c->a<=b-1:=by grind
theorem A1:c<=b->d<=a->a<b+1->d<c->a-1<b:=by omega
theorem A0:d=c->b=c->a+b=a+c:=by walk_at "so"
theorem AZ:d=c->¬b=c->¬a+b=a+c:=by intros;simp_all
theorem AY:c<=b->c=a->¬b=a->a<b:=by omega
theorem AX:c<=b->c=a->¬b=a->a<=b-1:=by grind
theorem AW:c<=a->a<b+1->c=d->¬a=d->a-1<b:=by grind
theorem AV:d<=b->¬d<c->¬d=c->¬a+b=a+c:=by grind
theorem AU:c<=b->¬c<a->¬c=a->a<b:=by grind
theorem AT:a<=b->a-1<=b-1:=by omega
theorem AS:c<=a->a<b+1->¬c<d->¬c=d->a-1<b:=by grind
theorem AR:c=a+b->¬a+b<c:=by intros;simp_all
theorem AQ:c=a+b->a+b-c=0:=by intros;simp_all
theorem AO:a=b+c->a+1=b+(c+1):=by walk_at "so"
theorem AN:¬a+1<a:=by simp
theorem AM:1<=b->d=a+(b+(e+f))->a<=a+b+c:=by grind
theorem AL:1<=a->d=b+(a+(e+f))->a<=b+a+c-b:=by grind
theorem AK:a+b+c-a-b=c:=by grind
theorem AJ:1<=b->c=d+(b+(e+f))->a<b->a<=b-1:=by grind
theorem AI:1<=d->c=a+(b+(d+e))->a+b<=c:=by walk_at "so"
theorem AH:1<=a->b=c+(a+(d+e))->0<a:=by walk_at "so"
theorem AG:a<=b->a+(b-a)=b:=by intros;simp_all
theorem AF:a<=c->c<=b->a+(b-a)=b:=by grind
theorem AE:b<=a->a<=c->a-b<=c-b:=by grind
theorem AD:c=d+(b+(e+f))->g<=b->a<g->a<b:=by grind
theorem AC:1<=a->b=c+(a+(d+e))->a-1<a:=by grind
theorem AB:d=a+(b+(c+e))->a+b+c<=d:=by grind
theorem wT:c<=b->a<c->a<b:=by grind
theorem AA:a=0->a<=b:=by intros;simp_all
theorem Az:d=a+(c+(e+f))->b<=c->a+min b c=a+b+0:=by intros;simp_all
theorem Ay:c<=d->e=c->a-b+min c d=a-b+c:=by intros;simp_all
theorem Ax:c=d->d<=b->a<d->a<=b:=by grind
theorem Aw:a<c->c<=b->a<=b:=by grind
theorem wS:a<min b (c-d)->a<b:=by grind
theorem Av:a+1<b->min a b=a:=by grind
theorem Au:b=c+a->max 0 b<=c->a=0:=by grind
theorem As:b=c->c=d+a->d>=c->a=0:=by grind
theorem Ar:c=d->¬b>=d->d=b->a<=b:=by walk_at "so"
theorem Aq:c=a->a=b+d->¬b>=a->1<=a-b:=by grind
theorem Ap:c=b->b=a+d->¬a>=b->a+(b-a)<=c:=by intros;simp_all
theorem Ao:a<=c->1<=d->e=c->b=c+d->a+1<=b:=by grind
theorem An:a=b->a>1->a-2+1<b:=by grind
theorem Am:a=c+d->a+b=c+(d+b):=by grind
theorem Al:a<=c->b≠0->a+1<=b+c:=by grind
theorem Ak:b=c->a<=c->a+0<=b+1:=by walk_at "so"
theorem Aj:b=a->b<=1->a<=1:=by walk_at "so"
theorem Ai:b=c->a+max 0 b<=b+1->a<=1:=by grind
theorem wR:a<=100000->a<=16777216:=by grind
theorem Ah:a<=100000->b=a->b<2->a<=16777216+1:=by grind
theorem Ag:a<=100000->b=a->¬b<2->2<=a:=by walk_at "so"
theorem Af:a<=100000->b=a->¬b<2->a<=16777216+1:=by grind
theorem Ae:a<=d+c->d<=b+1->a<=b+(c+1):=by grind
theorem Ad:a+2≠a+4:=by simp
theorem Ac:a+3≠a+4:=by simp_all
theorem Ab:a≠a+4:=by grind
theorem Aa:a+1≠a+4:=by simp_all
theorem z_:a+2≠a+3:=by simp
theorem zZ:a+2≠a:=by grind
theorem zY:a+2≠a+1:=by simp
theorem zX:a+3≠a:=by simp
theorem zW:a+3≠a+1:=by simp
theorem zV:a≠a+1:=by simp
theorem zU:b=a+5->a<=b:=by intros;simp_all
theorem zS:a<=a+1:=by simp
theorem wQ:b-a=0->a<=b->a=b:=by grind
theorem zR:a-b=0->0=a-b:=by walk_at "so"
theorem wP:b-a=c+1->a<=b->a<b:=by grind
theorem wO:c<=b->a<=d->d<c->a<=b:=by grind
theorem wN:a-b=c+1->b<a->a-(b+1)=c:=by grind
theorem wM:a<b->a+1<=b:=by walk_at "so"
theorem zP:a-b=c+1->b<a->a-(b+1)+1=a-b:=by omega
theorem zO:a+(b+1)=a+1+b:=by grind
theorem zN:a-b=c+1->b<a->a-b=a-(b+1)+1:=by omega
theorem zo (h:k-l<=n-x):k-(l+(k-l)/2+1)<=n-(x+1):=by rw[Nat.add_assoc,<-Nat.sub_sub,<-Nat.sub_sub n x 1];exact QP (Nat.sub_le_sub_left (Nat.le_add_left 1 _) _) (Nat.sub_le_sub_right h 1)
theorem zn (h:k-l<=n-x) (e:l<k):l+(k-l)/2-l<=n-(x+1):=by rw[Xg,<-Nat.sub_sub n x 1];exact QP (Nat.le_sub_one_of_lt (Nat.div_lt_self (Nat.sub_pos_of_lt e) (by decide))) (Nat.sub_le_sub_right h 1)
theorem zm (h:r-l<=k-x) (c:¬l>=r):r-((l+r)/2+1)<=k-(x+1):=by rw[<-Nat.sub_sub,<-Nat.sub_sub k x 1];exact Nat.sub_le_sub_right (QP (Nat.sub_le_sub_left ((Nat.le_div_iff_mul_le (by decide)).mpr (by rw[Nat.mul_two];exact Nat.add_le_add_left (XH (Nat.lt_of_not_ge c)) _)) _) h) 1
theorem zk (h:r-l<=k-x) (c:¬l>=r):(l+r)/2-l<=k-(x+1):=by rw[<-Nat.sub_sub k x 1];refine QP ?_ (Nat.sub_le_sub_right h 1);rw[Nat.sub_sub,Nat.add_comm l 1,<-Nat.sub_sub];exact Nat.sub_le_sub_right (Nat.le_sub_one_of_lt ((Nat.div_lt_iff_lt_mul (by decide)).mpr (by rw[Nat.mul_two];exact Nat.add_lt_add_right (Nat.lt_of_not_ge c) _))) _
theorem wL (h:d<=x) (q:lo+x-d<=lo+i/\lo+i<lo+x):lo+x-d+(lo+x)-1-(lo+i)=lo+(x-d+x-1-i)/\x-d<=x-d+x-1-i/\x-d+x-1-i<x/\x-d<=i/\i<x:=by obtain⟨y,rfl⟩:∃y,x=y+d:=⟨x-d,(Nat.sub_add_cancel h).symm⟩;have e:lo+(y+d)-d=lo+y:=(by rw[<-Nat.add_assoc,Nat.add_sub_cancel]);rw[e]at q;rw[e,Nat.add_sub_cancel];obtain⟨p,rfl⟩:∃p,i=y+p:=⟨i-y,(Nat.add_sub_of_le (Nat.le_of_add_le_add_left q.1)).symm⟩;have l:=Nat.lt_of_add_lt_add_left (Nat.lt_of_add_lt_add_left q.2);obtain⟨z,rfl⟩:∃z,d=p+1+z:=⟨d-(p+1),(Nat.add_sub_of_le l).symm⟩;have t:∀u:Nat,u+y+(u+(y+(p+1+z)))-1-(u+(y+p))=u+(y+z):=(λu=>by rw[show u+y+(u+(y+(p+1+z)))=u+(y+p)+(u+(y+z))+1 by ac_rfl,Nat.add_sub_cancel,Xg]);have t0:=t 0;simp only[Nat.zero_add]at t0;rw[t,t0];exact⟨rfl,Nat.le_add_right _ _,by omega,Nat.le_add_right _ _,Nat.add_lt_add_left l _⟩
theorem ua (q:i<n):lo+(lo+n)-1-(lo+i)=lo+(n-1-i):=by obtain⟨p,rfl⟩:∃p,n=i+1+p:=⟨n-(i+1),(Nat.add_sub_of_le q).symm⟩;rw[show lo+(lo+(i+1+p))=lo+i+(lo+p)+1 by ac_rfl,Nat.add_sub_cancel,Xg,Nat.sub_sub,Nat.add_comm 1 i,Xg]
theorem zj (h:k<=x):f+k+(x-k)-1=f+(x-1)\/x=0:=by obtain⟨y,rfl⟩:∃y,x=k+y:=⟨x-k,(Nat.add_sub_of_le h).symm⟩;rw[Xg,Nat.add_assoc];cases (k+y);exact .inr rfl;exact .inl rfl
theorem zi (h:k<=x) (q:¬x-k=0) (z:m=x-k):k+(m-1)=x-1:=by subst z;rw[<-Nat.add_sub_assoc (Nat.pos_of_ne_zero q),Nat.add_sub_of_le h]
theorem zh (h:2<=n) (q:¬n-1=1):2<=n-1:=Nat.le_sub_one_of_lt (Nat.lt_of_le_of_ne h λz=>q (by rw[<-z]))
theorem zg (h:j=n-2-1\/j=n-2) (q:¬n<=1) (e:n=m):j+1<m:=by subst e;obtain⟨z,rfl⟩:∃z,n=z+2:=⟨n-2,(Nat.sub_add_cancel (Nat.lt_of_not_le q)).symm⟩;rw[Nat.add_sub_cancel]at h;rcases h with rfl|rfl;exact Nat.lt_succ_of_le (Nat.add_le_add_right (Nat.sub_le _ _) 1);exact Nat.lt_succ_self _
end
-- CHANGE: your row's module here,as the last of these rows
namespace L2
open PySem PySem.Spec PyProof.Rows
abbrev Key:=Sum Int Str
def jE:Key->Value->Bool
 | .inl k,v=>Value.isInt k v
 | .inr x,v=>Value.isStrOf x v
def C0 (w:World):Key->Int
 | .inl k=>hashInt k
 | .inr x=>hashStr w x
theorem bt:∀{k:Key} {v:Value},jE k v=true->(∃i t,k=Sum.inl i/\v=Value.int i t)\/(∃x t,k=Sum.inr x/\v=Value.str x t)
 | .inl i,v,h=>by
  obtain⟨t,e⟩:=Value.isInt_shape (k:=i) (v:=v) h;exact .inl ⟨i,t,rfl,e⟩
 | .inr x,v,h=>by
  obtain⟨t,e⟩:=Value.isStrOf_shape (x:=x) (v:=v) h;exact .inr ⟨x,t,rfl,e⟩
theorem sj (i:Int) (t:Tok):jE (.inl i) (.int i t)=true:=by simp[jE,Value.isInt]
theorem si (x:Str) (t:Tok):jE (.inr x) (.str x t)=true:=by simp[jE,Value.isStrOf]
theorem yw (a b:Int):decide ((Sum.inl a:Key)=Sum.inl b)=(a==b):=by
 by_cases e:a=b
 ·subst e;simp
 have h:¬(Sum.inl a:Key)=Sum.inl b:=λq=>e (Sum.inl.inj q);rw[QI h];exact(beq_eq_false_iff_ne.mpr e).symm
theorem yr (a b:Str):decide ((Sum.inr a:Key)=Sum.inr b)=decide (a=b):=by
 by_cases e:a=b
 ·subst e;simp
 have h:¬(Sum.inr a:Key)=Sum.inr b:=λq=>e (Sum.inr.inj q);rw[QI h,QI e]
theorem yu (a:Int) (b:Str):decide ((Sum.inl a:Key)=Sum.inr b)=false:=QI (λq=>nomatch q)
theorem yt (a:Str) (b:Int):decide ((Sum.inr a:Key)=Sum.inl b)=false:=QI (λq=>nomatch q)
noncomputable def bg (prog:Program) (w:World):PySem.KeyKind prog w Key where
 is:=jE
 hash:=C0 w
 inj:=λv a b ha hb=>by
  rcases bt ha with⟨i,t,rfl,rfl⟩|⟨x,t,rfl,rfl⟩
  ·rcases bt hb with⟨j,u,rfl,e⟩|⟨y,u,rfl,e⟩
   ·injection e with e1 _;rw[e1]
   exact nomatch e
  rcases bt hb with⟨j,u,rfl,e⟩|⟨y,u,rfl,e⟩
  ·exact nomatch e
  injection e with e1 _;rw[e1]
 byValue:=λk v h=>by
  rcases bt h with⟨i,t,rfl,rfl⟩|⟨x,t,rfl,rfl⟩ <;> rfl
 pyHash:=λhv h=>by
  rcases bt hv with⟨i,t,rfl,rfl⟩|⟨x,t,rfl,rfl⟩
  ·exact wpAny_pyHash_int h
  exact wpAny_pyHash_str h
 eqBool:=λhu hv h=>by
  rcases bt hu with⟨i,t,rfl,rfl⟩|⟨x,t,rfl,rfl⟩
  ·rcases bt hv with⟨j,u,rfl,rfl⟩|⟨y,u,rfl,rfl⟩
   ·rw[yw]at h;exact wpAny_eqBool_int h
   rw[yu]at h;exact SeqAt.EqAt.int_str i t y u _ _ _ _ h
  rcases bt hv with⟨j,u,rfl,rfl⟩|⟨y,u,rfl,rfl⟩
  ·rw[yt]at h;exact SeqAt.EqAt.str_int x t j u _ _ _ _ h
  rw[yr]at h;exact wpAny_eqBool_str h
 «strs»:=λk x t v h=>by
  rcases bt h with⟨i,u,rfl,e⟩|⟨y,u,rfl,e⟩
  ·exact nomatch e
  injection e with e1 _;subst e1;cases v <;> rfl
theorem oj (prog:Program) (w:World) (i:Int) (t:Tok):(bg prog w).is (.inl i) (.int i t)=true:=sj i t
theorem eY (prog:Program) (w:World) (x:Str) (t:Tok):(bg prog w).is (.inr x) (.str x t)=true:=si x t
inductive V where
 | non|bl (b:Bool)|int (i:Int)|str (x:Str)|byt (b:Array UInt8)|flt (b:UInt64)|ref (a:Addr)|ty (n:String)
 deriving DecidableEq
noncomputable def aR:V->Value->Prop
 | .non,u=>u=Value.none
 | .bl b,u=>u=Value.bool b
 | .int i,u=>∃t,u=Value.int i t
 | .str x,u=>∃t,u=Value.str x t
 | .byt b,u=>∃t,u=Value.bytes b t
 | .flt b,u=>∃t,u=Value.float b t
 | .ref a,u=>u=Value.ref a
 | .ty n,u=>u=Value.type n
abbrev aY:List V->List Value->Prop:=Paired aR
theorem aY.length {xs:List V} {us:List Value} (r:aY xs us):xs.length=us.length:=Paired.length r
theorem aY.get:∀{xs:List V} {us:List Value} {i:Nat} {x:V},aY xs us->xs[i]?=some x->∃u,us[i]?=some u/\aR x u
 | _,_,_,_,.nil,e=>by simp at e
 | _,_,0,_,.cons r _,e=>by simp at e;subst e;exact⟨_,rfl,r⟩
 | _,_,i+1,x,.cons _ t,e=>by
  obtain⟨u,h1,h2⟩:=aY.get (i:=i) (x:=x) t (by simpa using e);exact⟨u,by simpa using h1,h2⟩
variable {u cd dV doc pm cdv ct oc:Value}
theorem aY.set {x:V} (r:aR x u):∀{xs:List V} {us:List Value} (i:Nat),aY xs us->aY (xs.set i x) (us.set i u)
 | _,_,_,.nil=>.nil
 | _,_,0,.cons _ t=>.cons r t
 | _,_,i+1,.cons q t=>.cons q (aY.set r i t)
theorem aY.append:∀{xs ys:List V} {us ws:List Value},aY xs us->aY ys ws->aY (xs++ys) (us++ws)
 | _,_,_,_,.nil,s=>s
 | _,_,_,_,.cons r t,s=>.cons r (aY.append t s)
theorem aY.take:∀{xs:List V} {us:List Value} (n:Nat),aY xs us->aY (xs.take n) (us.take n)
 | _,_,0,_=>.nil
 | _,_,_+1,.nil=>.nil
 | _,_,n+1,.cons r t=>.cons r (aY.take n t)
theorem aY.drop:∀{xs:List V} {us:List Value} (n:Nat),aY xs us->aY (xs.drop n) (us.drop n)
 | _,_,0,r=>r
 | _,_,_+1,.nil=>.nil
 | _,_,n+1,.cons _ t=>aY.drop n t
def jW:Option V->Option Value->Prop
 | some v,some u=>aR v u
 | none,none=>True
 | _,_=>False
def KV {κ:Type}:List (κ × V)->List (κ × Value)->Prop:=Paired λ(p:κ × V) (q:κ × Value)=>p.1=q.1/\aR p.2 q.2
def kV:Key->V
 | .inl i=>.int i
 | .inr x=>.str x
inductive HO where
 /-- a list -/
 | lst (xs:List V)
 /-- a tuple (never changes) -/
 | tup (xs:List V)
 /-- a dict whose keys are ints and texts;one whose keys are tuples of ints and texts (the empty one is both) -/
 | dK (kvs:List (Key × V))|dT (kvs:List (List Key × V))
 /-- a set of ints: its members,its size -/
 | set (S:Int->Bool) (n:Nat)
 /-- an instance of the class at C,its dict at dx,its attributes -/
 | ins (C dx:Addr) (fs:List (Str × V))
 /-- the dict of the instance at x -/
 | own (x:Addr)
 /-- the dict of an exception -/
 | xd (fs:List (Str × V))
 /-- a bound method,f of x -/
 | met (f x:Addr)
 /-- a range object lo,lo+1,.. below hi -/
 | rng (lo hi:Int)
 /-- a thing that is known to the object (the script;a dict while a loop walks it): read,never written while it is so -/
 | frz (o:Obj) (u:HO)
 /-- a code object's table -/
 | tbl (ps:Array Value)
 /-- any other thing,by what is true of its one object (a def of one's own: SetO a S n:=HO.ext λh=>..) -/
 | ext (φ:Heap->Prop)
abbrev Hp:=Addr->Option HO
def upd (H:Hp) (a:Addr) (o:HO):Hp:=λb=>if b=a then some o else H b
variable {o:HO} {a b it dx C f:Addr} {H H':Hp}
theorem ag:upd H a o a=some o:=by unfold upd;rw[Qz rfl]
theorem aq (h:b≠a):upd H a o b=H b:=by unfold upd;rw[QA h]
theorem vi {u:HO}:upd (upd H a o) a u=upd H a u:=by
 funext b;unfold upd;split <;> rfl
theorem BO {u:HO} (h:H a=some o) (h':H b=some u) (d:o≠u):a≠b:=by
 intro e;subst e;rw[h]at h';exact d (QX h')
theorem av (h:H a=some o) (h':H b=none):a≠b:=by
 intro e;subst e;rw[h]at h';cases h'
section
variable (P:Program) (w:World)
noncomputable def bj (H:Hp) (h:Heap) (a:Addr):HO->Prop
 | .lst xs=>xs.length<=sizeLine/\∃(its:List Value) (n:Nat),aY xs its/\h.get? a=some { cls:=.type "list", data:=.seq its.toArray n }
 | .tup xs=>xs.length<=sizeLine/\∃its:List Value,aY xs its/\IsTup h a its.toArray
 | .dK kvs=>kvs.length<=sizeLine/\(a==sysModules)=false/\∃vs,KV kvs vs/\h.DictOf (bg P w) a vs
 | .dT kvs=>kvs.length<=sizeLine/\(a==sysModules)=false/\∃xs:List (List Key × Addr × Value),
   Paired (λ(p:List Key × V) (q:List Key × Addr × Value)=>p.1=q.1/\H q.2.1=some (.tup (p.1.map kV))/\aR p.2 q.2.2) kvs xs /\
   ∃o es ep,h.get? a=some o/\o.ExactDict/\o.data=.dict es ep/\es.toList=xs.map (entryOfKey (tupleKind (bg P w)))/\(xs.map (·.1)).Nodup
 | .set S n=>h.SetOf (intKind P w) a S n
 | .ins C dx fs=>H dx=some (.own a)/\fs.length<=1000/\dx≠a/\h.get? a=some (PySem.W.instObj C dx) /\
   ∃mA,h.Ns1 dx mA/\(∀f,jW (fs.lookup f) (mA f))/\PySem.Within mA (fs.map (·.1))
 | .own _=>∃o,h.get? a=some o
 | .xd fs=>∃mA,h.Ns1 a mA/\∀f,jW (fs.lookup f) (mA f)
 | .rng lo hi=>∃t u v,h.get? a=some { cls:=.type "range", data:=.fields #[.int lo t,.int hi u,.int 1 v] }
 | .frz o u=>h.get? a=some o/\bj H h a u
 | .tbl ps=>h.get? a=some { cls:=.none,data:=.fields ps }
 | .met f x=>h.get? a=some (PySem.W.methodObj (.ref f) (.ref x))
 | .ext φ=>φ h/\(∃o,h.get? a=some o)/\∀h1 h2:Heap,φ h1->(∀o,h1.get? a=some o->h2.get? a=some o)->φ h2
def HOk (H:Hp) (h:Heap):Prop:=∀a o,H a=some o->bj P w H h a o
end
section
variable {P:Program} {w:World} {H H':Hp} {h h':Heap} {a:Addr} {o:HO}
theorem bj.lt (x:bj P w H h a o):a<h.objs.size:=by
 cases o with
 | lst xs=>obtain⟨_,_,_,_,e⟩:=x;exact Qm e
 | tup xs=>obtain⟨_,_,_,p⟩:=x;exact p.lt
 | dK kvs=>obtain⟨_,_,_,_,o,_,_,e,_⟩:=x;exact Qm e
 | dT kvs=>obtain⟨_,_,_,_,o,_,_,e,_⟩:=x;exact Qm e
 | set S n=>obtain⟨o,_,_,_,e,_⟩:=x;exact Qm e
 | ins C dx fs=>obtain⟨_,_,_,e,_⟩:=x;exact Qm e
 | own y=>obtain⟨_,e⟩:=x;exact Qm e
 | xd fs=>obtain⟨_,⟨_,_,_,e,_⟩,_⟩:=x;exact Qm e
 | rng lo hi=>obtain⟨_,_,_,e⟩:=x;exact Qm e
 | frz ob u=>obtain⟨e,_⟩:=x;exact Qm e
 | tbl ps=>exact Qm (show h.get? a=some _ from x)
 | met f y=>exact Qm (show h.get? a=some _ from x)
 | ext φ=>obtain⟨_,⟨_,e⟩,_⟩:=x;exact Qm e
theorem Paired.mapP {α β:Type} {F G:α->β->Prop}:∀{l₁:List α} {l₂:List β},Paired F l₁ l₂->(∀a b,F a b->G a b)->Paired G l₁ l₂
 | _,_,.nil,_=>.nil
 | _,_,.cons r t,f=>.cons (f _ _ r) (Paired.mapP t f)
theorem bj.stay (x:bj P w H h a o) (k:∀b u,(b=a\/H b=some (.own a))->h.get? b=some u->h'.get? b=some u)
  (ho:∀b,H b=some (.own a)->H' b=some (.own a)) (ht:∀b xs,H b=some (.tup xs)->H' b=some (.tup xs)):bj P w H' h' a o:=by
 induction o with
 | lst xs=>obtain⟨z,its,n,r,e⟩:=x;exact⟨z,its,n,r,k _ _ (.inl rfl) e⟩
 | tup xs=>obtain⟨z,its,r,ob,e,c⟩:=x;exact⟨z,its,r,ob,k _ _ (.inl rfl) e,c⟩
 | dK kvs=>obtain⟨z,y,vs,r,ob,es,ep,e,c⟩:=x;exact⟨z,y,vs,r,ob,es,ep,k _ _ (.inl rfl) e,c⟩
 | dT kvs =>
  obtain⟨z,y,xs,r,ob,es,ep,e,c⟩:=x;exact⟨z,y,xs,Paired.mapP r λp q z=>⟨z.1,ht _ _ z.2.1,z.2.2⟩,ob,es,ep,k _ _ (.inl rfl) e,c⟩
 | set S n=>obtain⟨ob,es,ep,t,e,c⟩:=x;exact⟨ob,es,ep,t,k _ _ (.inl rfl) e,c⟩
 | ins C dx fs =>
  obtain⟨d,z,ne,e,mA,⟨od,es,ep,e2,c⟩,r⟩:=x;exact⟨ho _ d,z,ne,k _ _ (.inl rfl) e,mA,⟨od,es,ep,k _ _ (.inr d) e2,c⟩,r⟩
 | own y=>obtain⟨ob,e⟩:=x;exact⟨ob,k _ _ (.inl rfl) e⟩
 | xd fs=>obtain⟨mA,⟨od,es,ep,e,c⟩,r⟩:=x;exact⟨mA,⟨od,es,ep,k _ _ (.inl rfl) e,c⟩,r⟩
 | rng lo hi=>obtain⟨t,u,v,e⟩:=x;exact⟨t,u,v,k _ _ (.inl rfl) e⟩
 | frz ob u ih=>obtain⟨e,q⟩:=x;exact⟨k _ _ (.inl rfl) e,ih q⟩
 | tbl ps =>
  have e:h.get? a=some { cls:=.none,data:=.fields ps }:=x;show h'.get? a=some { cls:=.none,data:=.fields ps };exact k a _ (.inl rfl) e
 | met f y =>
  have e:h.get? a=some (PySem.W.methodObj (.ref f) (.ref y)):=x;show h'.get? a=some (PySem.W.methodObj (.ref f) (.ref y));exact k a _ (.inl rfl) e
 | ext φ=>obtain⟨p,⟨o,e⟩,st⟩:=x;exact⟨st _ _ p λo q=>k _ _ (.inl rfl) q,⟨o,k _ _ (.inl rfl) e⟩,st⟩
theorem HOk.lt (x:HOk P w H h) (e:H a=some o):a<h.objs.size:=(x a o e).lt
theorem HOk.fresh (x:HOk P w H h) (e:h.objs.size<=a):H a=none:=by
 cases q:H a with
 | none=>rfl
 | some u=>exact absurd (QE (x.lt q) e) (XF _)
theorem HOk.kept (x:HOk P w H h) (k:∀b u,h.get? b=some u->h'.get? b=some u):HOk P w H h':=λa o e =>
 (x a o e).stay (λb u _ q=>k b u q) (λ_ q=>q) λ_ _ q=>q
theorem HOk.laid (x:HOk P w H h) (k:∀b u,h.get? b=some u->h'.get? b=some u) (hp:h.objs.size<=a) (new:bj P w (upd H a o) h' a o):HOk P w (upd H a o) h':=λb u e=>by
 have hn:=x.fresh hp;by_cases hb:b=a
 ·subst hb;rw[ag]at e;cases e;exact new
 rw[aq hb]at e;exact(x b u e).stay (λc v _ q=>k c v q) (λc q=>by rw[aq (av q hn)];exact q) λc xs q=>by rw[aq (av q hn)];exact q
end
def Rd (H:Hp) (a:Addr) (u:HO):Prop:=H a=some u\/∃o,H a=some (.frz o u)
variable {w:World} {P:Program}
theorem Rd.ok {h:Heap} {u:HO} (r:Rd H a u) (x:HOk P w H h):bj P w H h a u:=by
 rcases r with r|⟨o,r⟩
 ·exact x a u r
 obtain⟨_,q⟩:=x a _ r;exact q
def Mut:Option HO->Prop
 | some (.lst _)=>True
 | some (.dK _)=>True
 | some (.dT _)=>True
 | some (.set _ _)=>True
 | some (.ins _ _ _)=>True
 | some (.ext _)=>True
 | _=>False
section
variable {P:Program} {w:World} {H:Hp} {h h':Heap} {x e:Addr} {o':HO}
theorem HOk.write (ok:HOk P w H h) (mu:Mut (H x)) (he:e=x\/H e=some (.own x)) (k:∀b u,b≠e->h.get? b=some u->h'.get? b=some u) (heo:∃u,h'.get? e=some u)
  (new:bj P w (upd H x o') h' x o'):HOk P w (upd H x o') h':=λb u q=>by
 have nown:∀c y,H c=some (.own y)->c≠x:=λc y r z=>by subst z;rw[r]at mu;exact mu
 have ntup:∀c xs,H c=some (.tup xs)->c≠x:=λc xs r z=>by subst z;rw[r]at mu;exact mu
 by_cases hb:b=x
 ·subst hb;rw[ag]at q;cases q;exact new
 rw[aq hb]at q;by_cases hbe:b=e
 ·have q':H b=some (.own x):=by
   rcases he with z|z
   ·exact absurd (hbe.trans z) hb
   rw[hbe];exact z
  rw[q]at q';cases q';obtain⟨v,hv⟩:=heo;exact⟨v,by rw[hbe];exact hv⟩
 refine(ok b u q).stay (λc v hc r=>k c v ?_ r) (λc r=>by rw[aq (nown c b r)];exact r) λc xs r=>by rw[aq (ntup c xs r)];exact r
 rcases hc with rfl|hc
 ·exact hbe
 rintro rfl;rcases he with z|z
 ·exact nown c b hc z
 rw[hc]at z;cases z;exact hb rfl
end
structure Un (fs ex:List Addr) (H H':Hp) (h h':Heap):Prop where
 keep:∀b o,h.get? b=some o->H b=none->b∉fs->b∉ex->h'.get? b=some o
 slot:∀b o,h.get? b=some o->H b=none->b∈fs->b∉ex->∃sl,h'.get? b=some { o with slots:=sl }
 free:∀b o,h.get? b=some o->H b=none->b∉ex->H' b=none
 there:∀b o,h.get? b=some o->b∉ex->∃o',h'.get? b=some o'
 tups:∀b xs,H b=some (.tup xs)->H' b=some (.tup xs)
 frzs:∀b o u,H b=some (.frz o u)->H' b=some (.frz o u)
 tbls:∀b ps,H b=some (.tbl ps)->∃more,H' b=some (.tbl (ps++more))
section
variable {fs fs' ex ex':List Addr} {H H1 H2:Hp} {h h1 h2 h':Heap} {a x e:Addr} {o:HO}
theorem Un.any (u:Un fs ex H H1 h h1) {b:Addr} {ob:Obj} (q:h.get? b=some ob) (n:H b=none) (hx:b∉ex):∃sl,h1.get? b=some { ob with slots:=sl }:=by
 by_cases hb:b∈fs
 ·exact u.slot b ob q n hb hx
 exact⟨ob.slots,u.keep b ob q n hb hx⟩
theorem Un.kept (k:∀b u,h.get? b=some u->h'.get? b=some u):Un fs ex H H h h' :=
 ⟨λb ob q _ _ _=>k b ob q,λb ob q _ _ _=>⟨ob.slots,k b ob q⟩,λ_ _ _ n _=>n,λb ob q _=>⟨ob,k b ob q⟩,λ_ _ q=>q,λ_ _ _ q=>q,λ_ ps q=>⟨#[],by rw[q];simp⟩⟩
theorem Un.refl:Un fs ex H H h h:=Un.kept λ_ _ q=>q
theorem Un.laid (k:∀b u,h.get? b=some u->h'.get? b=some u) (hp:h.objs.size<=a) (hn:H a=none):Un fs ex H (upd H a o) h h' where
 keep:=λb u q _ _ _=>k b u q
 slot:=λb u q _ _ _=>⟨u.slots,k b u q⟩
 free:=λb u q n _=>by rw[aq (QB (QE (Qm q) hp))];exact n
 there:=λb u q _=>⟨u,k b u q⟩
 tups:=λb xs q=>by rw[aq (av q hn)];exact q
 frzs:=λb u xs q=>by rw[aq (av q hn)];exact q
 tbls:=λb ps q=>⟨#[],by rw[aq (av q hn),q];simp⟩
theorem Un.write (mu:Mut (H x)) (he:e=x\/H e=some (.own x)) (k:∀b u,b≠e->h.get? b=some u->h'.get? b=some u) (heo:∃u,h'.get? e=some u):Un fs ex H (upd H x o) h h':=by
 have hx:∀b,H b=none->b≠x:=λb n z=>by subst z;rw[n]at mu;exact mu
 have hb:∀b,H b=none->b≠e:=λb n z=>by
  subst z;rcases he with r|r
  ·exact hx b n r
  rw[n]at r;cases r
 have hm:∀b u,H b=some u->¬Mut (some u)->b≠x:=λb u q nm z=>by subst z;rw[q]at mu;exact nm mu
 refine⟨λb u q n _ _=>k b u (hb b n) q,λb u q n _ _=>⟨u.slots,k b u (hb b n) q⟩,λb u q n _=>by rw[aq (hx b n)];exact n,λb u q _=>?_,
  λb xs q=>by rw[aq (hm b _ q λz=>z)];exact q,λb u xs q=>by rw[aq (hm b _ q λz=>z)];exact q,λb ps q=>⟨#[],by rw[aq (hm b _ q λz=>z),q];simp⟩⟩
 by_cases hbe:b=e
 ·subst hbe;exact heo
 exact⟨u,k b u hbe q⟩
end
def trk (h:Heap) (H:Hp):List Addr:=(List.range h.objs.size).filter λa=>(H a).isSome
def kj (h:Heap) (H:Hp):Heap:=PySem.W.hideAll h (trk h H)
theorem sC (h:Heap) (H:Hp):(kj h H).objs.size=h.objs.size:=PySem.W.hideAll_size _ _
theorem uP {h:Heap} {o:Obj} (e:h.get? b=some o) (n:H b=none):(kj h H).get? b=some o :=
 PySem.W.hideAll_get _ e λhm=>by
  have q:(H b).isSome=true:=(List.mem_filter.mp hm).2;rw[n]at q;simp at q
theorem vT {h:Heap} {o:Obj} (e:(kj h H).get? b=some o):h.get? b=some o/\H b=none:=by
 have e':h.get? b=some o:=PySem.W.of_hideAll (trk h H) e;refine⟨e',?_⟩
 cases q:H b with
 | none=>rfl
 | some x =>
 have hm:b∈trk h H:=List.mem_filter.mpr ⟨Xk.mpr (Qm e'),by simp[q]⟩;have z:(kj h H).get? b=none:=PySem.W.hideAll_none (trk h H) hm;rw[z]at e;cases e
structure Mod (K:PySem.W.Frag) (mg:Str->Option Value) (base:Heap):Prop where
 kin:K.In base
 glob:base.Ns mainGlobals mg
 blt:∃mb,base.Ns builtinsNs mb/\∀x:Str,x ≠ "__name__" -> mb x=bootBuiltins x
 nolimit:base.NoLimit
/-- the context: a def's body (or a comprehension's block) running. base: fixed through the whole law;s₀,H₀: the dJ;outer: the frames whose slots others may change (a def's callers);stack: all frames that run;
  ex: iterators that were made ahead of the dJ and are walked here (a comprehension's);fn: the names whose cells were made at the dJ (a def: all;a comprehension's block: its own);calm: not within an except suite;pn: pins that every state bears;xe: what is wanted of an exception that leaves the code -/
structure Cx where
 prog:Program
 w:World
 K:PySem.W.Frag
 mg:Str->Option Value
 base:Heap
 A:Around
 N:List Str
 s₀:Shared
 H₀:Hp
 env:Env
 outer:List Env
 stack:List Env
 ex:List Addr
 fn:Str->Bool
 calm:Bool
 pn:List (Addr × Obj)
 xe:Value->Shared->Prop
def frs (l:List Env):List Addr:=l.filterMap (·.frame)
abbrev Cx.fs (X:Cx):List Addr:=frs X.outer
def Vis (sc:Scope) (x:Str):Prop:=sc.names.lookup x=some .local\/sc.names.lookup x=some .cell\/sc.names.lookup x=some .free
def Loc (sc:Scope) (x:Str):Prop:=sc.names.lookup x=some .local\/sc.names.lookup x=some .cell
def C4 (env:Env) (h:Heap) (m:Str->Option Value) (x:Str) (u:Value):Prop :=
 (env.kindOf x=some .local/\m x=some u)\/((env.kindOf x=some .cell\/env.kindOf x=some .free)/\∃c,env.cells.lookup x=some c/\h.IsCell c (some u))
structure Cx.Ok (X:Cx):Prop where
 mod:Mod X.K X.mg X.base
 kind:X.env.scope.kind=.function
 glob:X.env.globals=mainGlobals
 blt:X.env.builtins=builtinsNs
 above:X.s₀.heap.objs.size<=X.env.locals
 inj:∀x y c,X.env.cells.lookup x=some c->X.env.cells.lookup y=some c->x=y
 has:∀x,(X.env.kindOf x=some .cell\/X.env.kindOf x=some .free)->∃c,X.env.cells.lookup x=some c
 cab:∀x c,X.fn x=true->X.env.cells.lookup x=some c->X.s₀.heap.objs.size<=c
 hd:X.calm=true->X.A.handled=none
 frames:X.A.frames=some X.stack
 stk:X.stack=X.outer\/(X.stack=X.env::X.outer/\X.env.frame=some X.env.locals)
 exf:∀b∈X.ex,b≠X.env.locals/\∀x c,X.env.cells.lookup x=some c->c≠b
 bs:∀b o,X.base.get? b=some o->X.s₀.heap.get? b=some o/\X.H₀ b=none
 bsz:X.base.objs.size<=X.s₀.heap.objs.size
 noex:∀b o,X.base.get? b=some o->b∉X.ex
 exfs:∀b∈X.ex,b∉X.fs
 funs:X.s₀.heap.FunFrames X.base X.outer
 frf:∀b∈X.fs,X.H₀ b=none
structure Inv (X:Cx) (pins:List (Addr × Obj)) (σ:List (Option V)) (H:Hp) (s:Shared):Prop where
 ok:X.Ok
 os:s.os=X.s₀.os
 bare:AllBare s.gens
 base:Un X.fs X.ex X.H₀ H X.s₀.heap s.heap
 loc:∃m,s.heap.Ns X.env.locals m/\∀(i:Nat) (x:Str) (v:V),X.N[i]?=some x->σ[i]?=some (some v)->Vis X.env.scope x->∃u,aR v u/\C4 X.env s.heap m x u
 cell:∀x c,X.env.cells.lookup x=some c->∃v,s.heap.IsCell c v
 free:H X.env.locals=none
 freeC:∀x c,X.env.cells.lookup x=some c->H c=none
 pin:∀p∈X.pn++pins,s.heap.get? p.1=some p.2/\H p.1=none/\p.1≠X.env.locals/\p.1∉X.fs/\∀v,p.2.data≠.cell v
 hok:HOk X.prog X.w H s.heap
 len:σ.length=X.N.length
section
variable {X:Cx} {pins:List (Addr × Obj)} {σ:List (Option V)} {H H':Hp} {s:Shared} {h':Heap}
theorem Cx.Ok.nofr (ok:X.Ok) {b:Addr} {o:Obj} (e:X.base.get? b=some o):b∉X.fs:=λhb=>by
 have:=(ok.funs.mem hb).1;rw[e]at this;cases this
theorem Inv.bs (I:Inv X pins σ H s):∀b o,X.base.get? b=some o->s.heap.get? b=some o/\H b=none:=λb o e =>
 ⟨I.base.keep b o (I.ok.bs b o e).1 (I.ok.bs b o e).2 (I.ok.nofr e) (I.ok.noex b o e),I.base.free b o (I.ok.bs b o e).1 (I.ok.bs b o e).2 (I.ok.noex b o e)⟩
theorem Inv.bk (I:Inv X pins σ H s):∀b o,X.base.get? b=some o->s.heap.get? b=some o:=λb o e=>(I.bs b o e).1
theorem Inv.mod (I:Inv X pins σ H s):Mod X.K X.mg X.base:=I.ok.mod
theorem Inv.kIn (I:Inv X pins σ H s):X.K.In s.heap:=I.ok.mod.kin.keeps I.bk
theorem Inv.lt (I:Inv X pins σ H s):X.env.locals<s.heap.objs.size:=let ⟨_,hn,_⟩:=I.loc;hn.lt
theorem Inv.sz (I:Inv X pins σ H s):X.s₀.heap.objs.size<=s.heap.objs.size:=QP I.ok.above (XH I.lt)
theorem Inv.nofs (I:Inv X pins σ H s) {a:Addr} (h:s.heap.objs.size<=a):a∉X.fs:=λhb=>by
 obtain⟨_,o,ho,_⟩:=I.ok.funs.mem hb;exact absurd (QE (Qm ho) (QP I.sz h)) (XF _)
theorem Inv.cne (I:Inv X pins σ H s):∀x c,X.env.cells.lookup x=some c->c≠X.env.locals:=λx c e z=>by
 obtain⟨v,o,ho,hd⟩:=I.cell x c e;obtain⟨m,⟨o',es,ep,ho',hd',_⟩,_⟩:=I.loc;rw[z,ho']at ho;cases ho;rw[hd']at hd;cases hd
theorem Inv.funs (I:Inv X pins σ H s):s.heap.FunFrames X.base X.outer:=by
 have all:∀(l:List Env),(∀b∈frs l,b∈X.fs)->X.s₀.heap.FunFrames X.base l->s.heap.FunFrames X.base l:=by
  intro l
  induction l with
  | nil=>intro _ _;trivial
  | cons env r ih =>
  intro hs hl;obtain⟨hk,⟨L,o,hf,hn,ho,hd⟩,hr⟩:=hl;have hL:L∈X.fs:=hs L (by unfold frs;rw[XC,hf];exact Xd);obtain⟨sl,e⟩:=I.base.slot L o ho (I.ok.frf L hL) hL λz=>I.ok.exfs L z hL;exact⟨hk,⟨L,_,hf,hn,e,hd⟩,ih (λb hb=>hs b (by unfold frs;rw[XC,hf];exact Qq _ hb)) hr⟩
 exact all X.outer (λ_ hb=>hb) I.ok.funs
theorem Inv.stack (I:Inv X pins σ H s):s.heap.FunFrames X.base X.stack:=by
 rcases I.ok.stk with e|⟨e,hf⟩
 ·rw[e];exact I.funs
 rw[e];obtain⟨m,hn,_⟩:=I.loc;refine .cons (by rw[I.ok.kind];decide) hf hn ?_ I.funs;exact Heap.get?_none_of_le (QP I.ok.bsz I.ok.above)
theorem Inv.stkSub (I:Inv X pins σ H s):∀b∈frs X.stack,b∈X.env.locals::X.fs:=λb hb=>by
 rcases I.ok.stk with e|⟨e,hf⟩
 ·rw[e]at hb;exact Qq _ hb
 rw[e]at hb;unfold frs at hb;rw[XC,hf]at hb;exact hb
theorem Inv.stkFree (I:Inv X pins σ H s):∀b∈frs X.stack,H b=none:=λb hb=>by
 rcases QQ.mp (I.stkSub b hb) with e|hb
 ·rw[e];exact I.free
 obtain⟨_,o,ho,_⟩:=I.ok.funs.mem hb;exact I.base.free b o ho (I.ok.frf b hb) λz=>I.ok.exfs b z hb
theorem Inv.step {g':Array GenState} {t':Nat} {d':Drawn} {ch:List Addr} (I:Inv X pins σ H s)
  (hch:∀b∈ch,(b∈X.ex\/X.s₀.heap.objs.size<=b)/\b≠X.env.locals/\(∀x c,X.env.cells.lookup x=some c->c≠b)/\∀p∈X.pn++pins,p.1≠b)
  (keep:∀b o,b≠X.env.locals->b∉X.fs->b∉ch->s.heap.get? b=some o->H b=none->h'.get? b=some o)
  (slot:∀b o,b≠X.env.locals->b∈X.fs->b∉ch->s.heap.get? b=some o->H b=none->∃sl,h'.get? b=some { o with slots:=sl }) (free:∀b o,b∉ch->s.heap.get? b=some o->H b=none->H' b=none)
  (there:∀b o,b∉ch->s.heap.get? b=some o->∃o',h'.get? b=some o')
  (tups:∀b xs,H b=some (.tup xs)->H' b=some (.tup xs)) (frzs:∀b o u,H b=some (.frz o u)->H' b=some (.frz o u)) (tbls:∀b ps,H b=some (.tbl ps)->∃more,H' b=some (.tbl (ps++more)))
  (ns:∀m,s.heap.Ns X.env.locals m->h'.Ns X.env.locals m) (hok:HOk X.prog X.w H' h') (hg:AllBare g') :
  Inv X pins σ H' { s with heap:=h',gens:=g',drawn:=d',toks:=t' }:=by
 have neL:∀b o,X.s₀.heap.get? b=some o->b≠X.env.locals:=λb o e=>QB (QE (Qm e) I.ok.above)
 have neC:∀b o,X.s₀.heap.get? b=some o->b∉X.ex->b∉ch:=λb o e hx hb=>by
  rcases(hch b hb).1 with z|z
  ·exact hx z
  exact absurd (QE (Qm e) z) (XF _)
 have cellK:∀x c,X.env.cells.lookup x=some c->∀v,s.heap.IsCell c v->h'.IsCell c v:=λx c e v ⟨o,ho,hd⟩=>by
  have nch:c∉ch:=λz=>(hch c z).2.2.1 x c e rfl;by_cases hc:c∈X.fs
  ·obtain⟨sl,q⟩:=slot c o (I.cne x c e) hc nch ho (I.freeC x c e);exact⟨_,q,hd⟩
  exact⟨o,keep c o (I.cne x c e) hc nch ho (I.freeC x c e),hd⟩
 refine⟨I.ok,I.os,hg,⟨λb o e n hb hx=>?_,λb o e n hb hx=>?_,λb o e n hx=>?_,λb o e hx=>?_,λb xs e=>tups b xs (I.base.tups b xs e),λb o xs e=>frzs b o xs (I.base.frzs b o xs e),λb ps e=>?_⟩,?_,λx c e=>?_,?_,λx c e=>?_,λp hp=>?_,hok,I.len⟩
 ·exact keep b o (neL b o e) hb (neC b o e hx) (I.base.keep b o e n hb hx) (I.base.free b o e n hx)
 ·obtain⟨sl,e1⟩:=I.base.slot b o e n hb hx;obtain⟨sl',e2⟩:=slot b _ (neL b o e) hb (neC b o e hx) e1 (I.base.free b o e n hx);exact⟨sl',e2⟩
 ·obtain⟨o',e1⟩:=I.base.there b o e hx;exact free b o' (neC b o e hx) e1 (I.base.free b o e n hx)
 ·obtain⟨o',e1⟩:=I.base.there b o e hx;exact there b o' (neC b o e hx) e1
 ·obtain⟨m1,e1⟩:=I.base.tbls b ps e;obtain⟨m2,e2⟩:=tbls b _ e1;exact⟨m1++m2,by rw[e2,Array.append_assoc]⟩
 ·obtain⟨m,hn,hl⟩:=I.loc;refine⟨m,ns m hn,λi x v e1 e2 e3=>?_⟩;obtain⟨u,r,l⟩:=hl i x v e1 e2 e3;refine⟨u,r,?_⟩;rcases l with l|⟨k,c,e,z⟩
  ·exact .inl l
  exact .inr ⟨k,c,e,cellK x c e _ z⟩
 ·obtain⟨v,z⟩:=I.cell x c e;exact⟨v,cellK x c e v z⟩
 ·obtain⟨m,⟨o,_,_,ho,_⟩,_⟩:=I.loc;exact free _ o (λz=>(hch _ z).2.1 rfl) ho I.free
 ·obtain⟨v,o,ho,hd⟩:=I.cell x c e;exact free c o (λz=>(hch c z).2.2.1 x c e rfl) ho (I.freeC x c e)
 obtain⟨e,n,ne,nf,d⟩:=I.pin p hp;have nch:p.1∉ch:=λz=>(hch p.1 z).2.2.2 p hp rfl;exact⟨keep p.1 p.2 ne nf nch e n,free p.1 p.2 nch e n,ne,nf,d⟩
theorem Inv.un {t':Nat} (I:Inv X pins σ H s) (u:Un X.fs [] H H' s.heap h') (hok:HOk X.prog X.w H' h'):Inv X pins σ H' { s with heap:=h',toks:=t' }:=by
 obtain⟨m,⟨o,es,ep,ho,r⟩,_⟩:=id I.loc;obtain⟨sl,hL⟩:=u.any ho I.free (by simp)
 exact I.step (g':=s.gens) (d':=s.drawn) (ch:=[]) (λ_ z=>nomatch z) (λb o _ hb _ e n=>u.keep b o e n hb (by simp)) (λb o _ hb _ e n=>u.slot b o e n hb (by simp)) (λb o _ e n=>u.free b o e n (by simp)) (λb o _ e=>u.there b o e (by simp)) u.tups u.frzs u.tbls (λm' hm=>by
  obtain⟨o',es',ep',ho',r'⟩:=hm;rw[ho]at ho';cases ho'
  exact⟨_,es',ep',hL,r'⟩) hok I.bare
theorem Inv.call {g':Array GenState} {t':Nat} {d':Drawn} {ch:List Addr} (I:Inv X pins σ H s) (u:Un (frs X.stack) ch H H' s.heap h') (hok:HOk X.prog X.w H' h') (hg:AllBare g')
  (hch:∀b∈ch,(b∈X.ex\/X.s₀.heap.objs.size<=b)/\b≠X.env.locals/\(∀x c,X.env.cells.lookup x=some c->c≠b)/\∀p∈X.pn++pins,p.1≠b) :
  Inv X pins σ H' { s with heap:=h',gens:=g',drawn:=d',toks:=t' }:=by
 obtain⟨m,⟨o,es,ep,ho,r⟩,_⟩:=id I.loc;obtain⟨sl,hL⟩:=u.any ho I.free λz=>(hch _ z).2.1 rfl
 exact I.step (ch:=ch) hch (λb o hL hb hc e n=>u.keep b o e n (λz=>(QQ.mp (I.stkSub b z)).elim hL hb) hc) (λb o _ _ hc e n=>u.any e n hc) (λb o hc e n=>u.free b o e n hc) (λb o hc e=>u.there b o e hc) u.tups u.frzs u.tbls (λm' hm=>by
  obtain⟨o',es',ep',ho',r'⟩:=hm;rw[ho]at ho';cases ho'
  exact⟨_,es',ep',hL,r'⟩) hok hg
theorem Inv.turned {t':Nat} {it:Addr} (I:Inv X pins σ H s) (k:∀b o,b≠it->s.heap.get? b=some o->h'.get? b=some o) (hn:H it=none) (hL:it≠X.env.locals)
  (h1:it∈X.ex\/X.s₀.heap.objs.size<=it) (h2:∀x c,X.env.cells.lookup x=some c->c≠it) (h3:∀p∈X.pn++pins,p.1≠it):Inv X pins σ H { s with heap:=h',toks:=t' }:=by
 have nit:∀b u,H b=some u->b≠it:=λb u e z=>by rw[z,hn]at e;cases e
 refine I.step (g':=s.gens) (d':=s.drawn) (ch:=[it]) (λb hb=>?_) (λb o _ _ hc e _=>k b o (λz=>hc (by simp[z])) e) (λb o _ _ hc e _=>⟨o.slots,k b o (λz=>hc (by simp[z])) e⟩) (λ_ _ _ _ n=>n)
  (λb o hc e=>⟨o,k b o (λz=>hc (by simp[z])) e⟩) (λ_ _ e=>e) (λ_ _ _ e=>e) (λb ps e=>⟨#[],by rw[e];simp⟩) (λm hm=>?_) (λb u e=>?_) I.bare
 ·have e:b=it:=by simpa using hb
  subst e;exact⟨h1,hL,h2,h3⟩
 ·obtain⟨o,es,ep,ho,r⟩:=hm;exact⟨o,es,ep,k _ o (XI hL) ho,r⟩
 refine(I.hok b u e).stay (λc v hc q=>k c v ?_ q) (λ_ q=>q) λ_ _ q=>q;rcases hc with z|z
 ·rw[z];exact nit b u e
 exact nit c _ z
theorem Inv.tok (I:Inv X pins σ H s) (t:Nat):Inv X pins σ H { s with toks:=t }:=I.un (h':=s.heap) (t':=t) Un.refl I.hok
theorem Inv.kept {t':Nat} (I:Inv X pins σ H s) (k:∀b u,s.heap.get? b=some u->h'.get? b=some u):Inv X pins σ H { s with heap:=h',toks:=t' }:=I.un (Un.kept k) (I.hok.kept k)
theorem Inv.laid {a:Addr} {o:HO} {t':Nat} (I:Inv X pins σ H s) (k:∀b u,s.heap.get? b=some u->h'.get? b=some u) (hp:s.heap.objs.size<=a) (new:bj X.prog X.w (upd H a o) h' a o) :
  Inv X pins σ (upd H a o) { s with heap:=h',toks:=t' }:=I.un (Un.laid k hp (I.hok.fresh hp)) (I.hok.laid k hp new)
theorem Inv.write {x e:Addr} {o:HO} {t':Nat} (I:Inv X pins σ H s) (mu:Mut (H x)) (he:e=x\/H e=some (.own x)) (k:∀b u,b≠e->s.heap.get? b=some u->h'.get? b=some u) (heo:∃u,h'.get? e=some u)
  (new:bj X.prog X.w (upd H x o) h' x o):Inv X pins σ (upd H x o) { s with heap:=h',toks:=t' }:=I.un (Un.write mu he k heo) (I.hok.write mu he k heo new)
theorem Inv.weak {σ':List (Option V)} (I:Inv X pins σ H s) (hl:σ'.length=σ.length) (w:∀(i:Nat) v,σ'[i]?=some (some v)->σ[i]?=some (some v)):Inv X pins σ' H s :=
 ⟨I.ok,I.os,I.bare,I.base,let ⟨m,hn,hl'⟩:=I.loc;⟨m,hn,λi x v e1 e2 e3=>hl' i x v e1 (w i v e2) e3⟩,I.cell,I.free,I.freeC,I.pin,I.hok,hl.trans I.len⟩
theorem Inv.pins_of {pins':List (Addr × Obj)} (I:Inv X pins σ H s) (h:∀p∈pins',s.heap.get? p.1=some p.2/\H p.1=none/\p.1≠X.env.locals/\p.1∉X.fs/\∀v,p.2.data≠.cell v):Inv X pins' σ H s :=
 ⟨I.ok,I.os,I.bare,I.base,I.loc,I.cell,I.free,I.freeC,λp hp=>(QH.mp hp).elim (λz=>I.pin p (List.mem_append_left _ z)) (h p),I.hok,I.len⟩
theorem oa {N:List Str} (hN:N.Nodup) {i j:Nat} {x:Str} (a:N[i]?=some x) (b:N[j]?=some x):i=j:=by
 obtain⟨h1,e1⟩:=Qe.mp a;obtain⟨h2,e2⟩:=Qe.mp b;exact(List.getElem_inj hN).mp (e1.trans e2.symm)
variable {Q:Unit->Shared->Prop} {E:Value->Shared->Prop}
theorem kJ {M:Model} {A:Around} {i:Nat} {x:Str} {v:V} {u:Value} (I:Inv X pins σ H s) (hN:X.N.Nodup) (hi:X.N[i]?=some x) (hx:Loc X.env.scope x) (r:aR v u)
  (h:∀s',Inv X pins (σ.set i (some v)) H s'->(∃a,Heap.SameBut a s.heap s'.heap/\(a=X.env.locals\/X.env.cells.lookup x=some a))->Q () s') (hf:X.fn x=true\/X.env.scope.names.lookup x=some .local:=by walk_at "z"):wpAny M A (storeName X.env x u) Q E s:=by
 obtain⟨m,hn,hl⟩:=id I.loc;have hcls:(X.env.scope.kind==.class || (X.env.scope.kind==.module&&X.env.locals != X.env.globals))=false:=by rw[I.ok.kind];rfl
 have hiσ:i<σ.length:=by rw[I.len];exact(Qe.mp hi).1
 have cne:=I.cne
 have tracked:∀{a:Addr} {h':Heap},(∃o,s.heap.get? a=some o/\H a=none)->Heap.SameBut a s.heap h'->HOk X.prog X.w H h':=λ{a h'} ha hs b ob e=>by
  obtain⟨_,_,hfree⟩:=ha;refine(I.hok b ob e).stay (λc w' hc q=>(hs.2 c ?_).trans q) (λ_ q=>q) λ_ _ q=>q;rintro rfl;rcases hc with rfl|hc
  ·rw[hfree]at e;cases e
  rw[hfree]at hc;cases hc
 rcases hx with hk|hk
 ·refine wpAny_storeName_local hk hn (λh' hn' hs=>?_) hcls;obtain⟨oL,_,_,hoL,_⟩:=id hn;refine h _ ⟨I.ok,I.os,I.bare,⟨λb o e n hb hx=>?_,λb o e n hb hx=>?_,I.base.free,λb o e hx=>?_,I.base.tups,I.base.frzs,I.base.tbls⟩,⟨_,hn',λj y v' e1 e2 e3=>?_⟩,λy c e=>?_,I.free,I.freeC,λp hp=>?_,tracked ⟨oL,hoL,I.free⟩ hs,by simpa using I.len⟩ ⟨_,hs,.inl rfl⟩
  ·exact(hs.2 b (QB (QE (Qm e) I.ok.above))).trans (I.base.keep b o e n hb hx)
  ·obtain⟨sl,e1⟩:=I.base.slot b o e n hb hx;exact⟨sl,(hs.2 b (QB (QE (Qm e) I.ok.above))).trans e1⟩
  ·obtain⟨o',e1⟩:=I.base.there b o e hx;exact⟨o',(hs.2 b (QB (QE (Qm e) I.ok.above))).trans e1⟩
  ·by_cases hj:j=i
   ·subst hj;rw[hi]at e1;cases e1;rw[List.getElem?_set_self hiσ]at e2;cases e2;exact⟨u,r,.inl ⟨hk,by simp⟩⟩
   rw[List.getElem?_set_ne (XI hj)]at e2;obtain⟨u',r',q⟩:=hl j y v' e1 e2 e3;refine⟨u',r',?_⟩;rcases q with⟨k,e⟩|⟨k,c,e,z⟩
   ·refine .inl ⟨k,?_⟩;have:y≠x:=λe=>hj (oa hN e1 (e▸hi));simp[this,e]
   exact .inr ⟨k,c,e,z.sameBut hs (cne y c e)⟩
  ·obtain⟨w',z⟩:=I.cell y c e;exact⟨w',z.sameBut hs (cne y c e)⟩
  obtain⟨e,n,ne,nf,d⟩:=I.pin p hp;exact⟨(hs.2 p.1 ne).trans e,n,ne,nf,d⟩
 have hfn:X.fn x=true:=by
  rcases hf with z|z
  ·exact z
  rw[z]at hk;cases hk
 obtain⟨c,hc⟩:=I.ok.has x (.inl hk);obtain⟨w',z⟩:=I.cell x c hc;refine wpAny_storeName_cell I.ok.kind hk hc z (λh' hc' hs=>?_);obtain⟨oc,hoc,hocd⟩:=id z;refine h { s with heap:=h' } ⟨I.ok,I.os,I.bare,⟨λb o e n hb hx=>?_,λb o e n hb hx=>?_,I.base.free,λb o e hx=>?_,I.base.tups,I.base.frzs,I.base.tbls⟩,⟨m,hn.sameBut hs (XI (cne x c hc)),λj y v' e1 e2 e3=>?_⟩,λy c' e=>?_,I.free,I.freeC,λp hp=>?_,tracked ⟨oc,hoc,I.freeC x c hc⟩ hs,by simpa using I.len⟩ ⟨c,hs,.inr hc⟩
 ·exact(hs.2 b (QB (QE (Qm e) (I.ok.cab x c hfn hc)))).trans (I.base.keep b o e n hb hx)
 ·obtain⟨sl,e1⟩:=I.base.slot b o e n hb hx;exact⟨sl,(hs.2 b (QB (QE (Qm e) (I.ok.cab x c hfn hc)))).trans e1⟩
 ·obtain⟨o',e1⟩:=I.base.there b o e hx;exact⟨o',(hs.2 b (QB (QE (Qm e) (I.ok.cab x c hfn hc)))).trans e1⟩
 ·by_cases hj:j=i
  ·subst hj;rw[hi]at e1;cases e1;rw[List.getElem?_set_self hiσ]at e2;cases e2;exact⟨u,r,.inr ⟨.inl hk,c,hc,hc'⟩⟩
  rw[List.getElem?_set_ne (XI hj)]at e2;obtain⟨u',r',q⟩:=hl j y v' e1 e2 e3;refine⟨u',r',?_⟩;rcases q with q|⟨k,c',e,z'⟩
  ·exact .inl q
  refine .inr ⟨k,c',e,z'.sameBut hs ?_⟩;rintro rfl;exact hj (oa hN e1 (I.ok.inj _ _ _ e hc▸hi))
 ·by_cases hcc:c'=c
  ·subst hcc;exact⟨_,hc'⟩
  obtain⟨w2,z2⟩:=I.cell y c' e;exact⟨w2,z2.sameBut hs hcc⟩
 obtain⟨e,n,ne,nf,d⟩:=I.pin p hp;refine⟨(hs.2 p.1 ?_).trans e,n,ne,nf,d⟩;intro q;rw[q,hoc]at e;have q':oc=p.2:=QX e;exact d w' (by rw[<-q'];exact hocd)
theorem iU {M:Model} {A:Around} {i:Nat} {x:Str} {v:V} {u:Value} (I:Inv X pins σ H s) (hN:X.N.Nodup) (hi:X.N[i]?=some x) (hx:Loc X.env.scope x) (r:aR v u)
  (h:∀s',Inv X pins (σ.set i (some v)) H s'->Q () s') (hf:X.fn x=true\/X.env.scope.names.lookup x=some .local:=by walk_at "z"):wpAny M A (storeName X.env x u) Q E s :=
 kJ I hN hi hx r (λs' I' _=>h s' I') hf
theorem Inv.call' {s':Shared} {ch:List Addr} (I:Inv X pins σ H s) (ho:s'.os=s.os) (u:Un (frs X.stack) ch H H' s.heap s'.heap) (hok:HOk X.prog X.w H' s'.heap) (hg:AllBare s'.gens)
  (hch:∀b∈ch,(b∈X.ex\/X.s₀.heap.objs.size<=b)/\b≠X.env.locals/\(∀x c,X.env.cells.lookup x=some c->c≠b)/\∀p∈X.pn++pins,p.1≠b):Inv X pins σ H' s':=by
 obtain⟨h',g',d',t',o'⟩:=s';have e:o'=s.os:=ho;subst e;exact I.call (g':=g') (t':=t') (d':=d') u hok hg hch
end
abbrev XK:=Value->Option Addr->Hp->Prop
abbrev St:=List (Option V)
abbrev VK:=V->Hp->Prop
abbrev TE:=St->Hp->VK->Prop
abbrev TT:=St->Hp->(Bool->Hp->Prop)->Prop
abbrev TA:=St->Hp->(List V->Hp->Prop)->Prop
structure Ends where
 nx:St->Hp->Prop
 rt:VK
 bk:St->Hp->Prop:=λ_ _=>False
 ct:St->Hp->Prop:=λ_ _=>False
abbrev TS:=Ends->St->Hp->Prop
def EP (X:Cx) (pins:List (Addr × Obj)) (σ:St) (Q:VK) (u:Value) (s':Shared):Prop:=∃v H',Inv X pins σ H' s'/\aR v u/\Q v H'
def TP (X:Cx) (pins:List (Addr × Obj)) (σ:St) (Q:Bool->Hp->Prop) (b:Bool) (s':Shared):Prop:=∃H',Inv X pins σ H' s'/\Q b H'
def AP (X:Cx) (pins:List (Addr × Obj)) (σ:St) (Q:List V->Hp->Prop) (us:List Value) (s':Shared):Prop:=∃vs H',Inv X pins σ H' s'/\aY vs us/\Q vs H'
def SP (X:Cx) (pins:List (Addr × Obj)) (D:Ends) (f:Flow) (s':Shared):Prop :=
 match f with
 | .next=>∃σ' H',Inv X pins σ' H' s'/\D.nx σ' H'
 | .brk=>∃σ' H',Inv X pins σ' H' s'/\D.bk σ' H'
 | .cont=>∃σ' H',Inv X pins σ' H' s'/\D.ct σ' H'
 | .ret u=>∃v σ' H',Inv X pins σ' H' s'/\aR v u/\D.rt v H'
def PE (X:Cx) (e:Expr) (t:TE):Prop :=
 ∀(pins:List (Addr × Obj)) (s:Shared) (σ:St) (H:Hp) (Q:VK),Inv X pins σ H s->t σ H Q->wpAny (model X.prog X.w) X.A (eval e X.env) (EP X pins σ Q) X.xe s
def PT (X:Cx) (e:Expr) (t:TT):Prop :=
 ∀(pins:List (Addr × Obj)) (s:Shared) (σ:St) (H:Hp) (Q:Bool->Hp->Prop),Inv X pins σ H s->t σ H Q->wpAny (model X.prog X.w) X.A (isTrue e X.env (eval e X.env)) (TP X pins σ Q) X.xe s
def PW (X:Cx) (e:Expr) (t:TT):Prop :=
 ∀(whole:Sem Value) (pins:List (Addr × Obj)) (s:Shared) (σ:St) (H:Hp) (Q:Bool->Hp->Prop),Inv X pins σ H s->t σ H Q->wpAny (model X.prog X.w) X.A (isTrue e X.env whole) (TP X pins σ Q) X.xe s
variable {e tg:Expr} {X:Cx}
theorem PW.pt {t:TT} (h:PW X e t):PT X e t:=h _
def PA (X:Cx) (es:List Expr) (t:TA):Prop :=
 ∀(pos:Pos) (pins:List (Addr × Obj)) (s:Shared) (σ:St) (H:Hp) (Q:List V->Hp->Prop),Inv X pins σ H s->t σ H Q->wpAny (model X.prog X.w) X.A (spliced (backTo pos (starEach es X.env))) (AP X pins σ Q) X.xe s
def PS (X:Cx) (st:Stmt) (t:TS):Prop :=
 ∀(pins:List (Addr × Obj)) (s:Shared) (σ:St) (H:Hp) (D:Ends),Inv X pins σ H s->t D σ H->wpAny (model X.prog X.w) X.A (exec st X.env) (SP X pins D) X.xe s
def PSs (X:Cx) (st:List Stmt) (t:TS):Prop :=
 ∀(pins:List (Addr × Obj)) (s:Shared) (σ:St) (H:Hp) (D:Ends),Inv X pins σ H s->t D σ H->wpAny (model X.prog X.w) X.A (execs st X.env) (SP X pins D) X.xe s
variable {s s1:Shared} {E:Value->Shared->Prop} {A:Around}
theorem thn {α:Type} {t:Sem α} {Q Q':α->Shared->Prop} {M:Model} (h:wpAny M A t Q E s) (hQ:∀a s,Q a s->Q' a s):wpAny M A t Q' E s:=Xn h hQ λ_ _ x=>x
section
variable {X:Cx}
def eN (i:Nat):TE:=λσ H Q=>∃v,σ[i]?=some (some v)/\Q v H
def tC (v:V):TE:=λ_ H Q=>Q v H
variable {x:Str}
theorem xP {i:Nat} {pos:Pos} (hN:X.N[i]?=some x) (hv:Vis X.env.scope x) (hd:(x==("__debug__" : Str))=false:=by decide) (hcd:(x==("__classdict__" : Str))=false:=by decide):PE X (.Name x pos) (eN i):=by
 intro pins s σ H Q I h;obtain⟨v,e,h⟩:=h;obtain⟨m,hn,hl⟩:=I.loc;obtain⟨u,r,l⟩:=hl i x v hN e hv;have fin:EP X pins σ Q u s:=⟨v,H,I,r,h⟩;rcases l with⟨hk,hm⟩|⟨hk,c,hc,hcell⟩
 ·exact wpAny_Name (wpAny_loadName_local I.ok.kind hk hn hm fin) hd
 rcases hk with hk|hk
 ·exact wpAny_Name (wpAny_loadName_cell I.ok.kind hk hc hcell fin) hd
 exact wpAny_Name (wpAny_loadName_free I.ok.kind hk hc hcell fin hcd) hd
theorem ak {i j pos}:PE X (.Constant (.int i) j pos) (tC (.int i)):=λ_ _ _ H _ I h=>wpAny_Constant_int ⟨.int i,H,I.tok _,⟨_,rfl⟩,h⟩
theorem dF {b j pos}:PE X (.Constant (.bool b) j pos) (tC (.bl b)):=λ_ _ _ H _ I h=>Constant_bool ⟨.bl b,H,I,rfl,h⟩
theorem bU {j pos}:PE X (.Constant .none j pos) (tC .non):=λ_ _ _ H _ I h=>Constant_none ⟨.non,H,I,rfl,h⟩
theorem aE {x j pos}:PE X (.Constant (.str x) j pos) (tC (.str x)):=λ_ _ _ H _ I h=>Calls.Constant_str ⟨.str x,H,I.tok _,⟨_,rfl⟩,h⟩
def Gl (X:Cx) (x:Str):Prop:=X.env.kindOf x=some .globalImplicit
variable {Q E:Value->Shared->Prop} {u:Value} {pins:List (Addr × Obj)}
theorem mE {s:Shared} {σ:St} {H:Hp} {pos:Pos} (I:Inv X pins σ H s) (hg:Gl X x) (hm:X.mg x=some u) (h:Q u s)
  (hd:(x==("__debug__" : Str))=false:=by decide):wpAny (model X.prog X.w) X.A (eval (.Name x pos) X.env) Q E s :=
 Calls.Name_function_global I.ok.kind hg (Calls.loadGlobal_global (by rw[I.ok.glob];exact I.mod.glob.keeps I.bk) hm h) hd
theorem ck {s:Shared} {σ:St} {H:Hp} {pos:Pos} (I:Inv X pins σ H s) (hg:Gl X x) (hm:X.mg x=none) (hv:bootBuiltins x=some u) (h:Q u s)
  (hn:x ≠ "__name__" := by decide) (hd:(x==("__debug__" : Str))=false:=by decide):wpAny (model X.prog X.w) X.A (eval (.Name x pos) X.env) Q E s:=by
 obtain⟨mb,h1,h2⟩:=I.mod.blt;exact Calls.Name_function_global I.ok.kind hg (Calls.loadGlobal_builtin (by rw[I.ok.glob];exact I.mod.glob.keeps I.bk) hm (by rw[I.ok.blt];exact h1.keeps I.bk) ((h2 x hn).trans hv) h) hd
theorem qz {v:V} {pos:Pos} (hg:Gl X x) (hm:X.mg x=some u) (r:aR v u) (hd:(x==("__debug__" : Str))=false:=by decide):PE X (.Name x pos) (tC v) :=
 λ_ _ _ H _ I h=>mE I hg hm ⟨v,H,I,r,h⟩ hd
theorem qC {v:V} {pos:Pos} (hg:Gl X x) (hm:X.mg x=none) (hv:bootBuiltins x=some u) (r:aR v u) (hn:x ≠ "__name__" := by decide) (hd:(x==("__debug__" : Str))=false:=by decide):PE X (.Name x pos) (tC v) :=
 λ_ _ _ H _ I h=>ck I hg hm hv ⟨v,H,I,r,h⟩ hn hd
variable {a b:Expr} {ta tb:TE} {pos:Pos}
def PC (X:Cx) (op:CmpOp) (a b:Expr) (t:TE):Prop :=
 ∀(pins:List (Addr × Obj)) (s:Shared) (σ:St) (H:Hp) (Q:VK),Inv X pins σ H s->t σ H Q ->
  wpAny (model X.prog X.w) X.A (eval a X.env) (λv s₁=>wpAny (model X.prog X.w) X.A (eval b X.env) (λu s₂=>wpAny (model X.prog X.w) X.A (compareOp op v u) (EP X pins σ Q) X.xe s₂) X.xe s₁) X.xe s
def tB (t:TE):TT:=λσ H Q=>t σ H λx H1=>∃c,x=.bl c/\Q c H1
theorem xU {op:CmpOp} {t:TE} (h:PC X op a b t) (h1:behindInMarks op b=false:=by first|exact nobehind _ (by decide) (by decide)|rfl):PE X (.Compare a [op] [b] pos) t:=λpins s σ H Q I hw=>wpAny_Compare1 (h pins s σ H Q I hw) h1
theorem xM {op:CmpOp} {t:TE} (h:PC X op a b t) (h1:behindInMarks op b=false:=by first|exact nobehind _ (by decide) (by decide)|rfl):PT X (.Compare a [op] [b] pos) (tB t):=by
 intro pins s σ H Q I hw;refine wpAny_isTrue_Compare1 (thn (h pins s σ H _ I hw) λv s1 h1=>thn h1 λu s2 h2=>thn h2 λc s3 ⟨x,H1,I1,r1,q1⟩=>?_) h1;obtain⟨d,rfl,q⟩:=q1;cases r1;exact wpAny_truthy_bool ⟨H1,I1,q⟩
theorem c6 {e:Expr} {t:TE} (h:PE X e t) (he:∀whole,isTrue e X.env whole=(do let v <-whole;standAt e.pos;holding [v] (truthy v)):=by intro _;rfl):PT X e (tB t):=by
 intro pins s σ H Q I hw;refine isTrue_plain (thn (h pins s σ H _ I hw) λv s1 ⟨x,H1,I1,r1,q1⟩=>?_) (he _);obtain⟨d,rfl,q⟩:=q1;cases r1;exact wpAny_truthy_bool ⟨H1,I1,q⟩
variable {tA tB':TT} {rest:List Expr}
def yU (t u:TT):TT:=λσ H Q=>t σ H λc H1=>if c=true then u σ H1 Q else Q false H1
def tOr (t u:TT):TT:=λσ H Q=>t σ H λc H1=>if c=true then Q true H1 else u σ H1 Q
def yM (t:TT):TT:=λσ H Q=>t σ H λc H1=>Q (!c) H1
theorem qw (ha:PT X a tA):PW X (.BoolOp .And [a] pos) tA:=by
 intro wh pins s σ H Q I h;refine isTrue_and (thn (ha pins s σ H Q I h) λc s1 e=>?_)
 cases c with
 | true=>exact isTrue_and_nil e
 | false=>exact e
theorem fT (ha:PT X a tA):PW X (.BoolOp .Or [a] pos) tA:=by
 intro wh pins s σ H Q I h;refine isTrue_or (thn (ha pins s σ H Q I h) λc s1 e=>?_)
 cases c with
 | false=>exact isTrue_or_nil e
 | true=>exact e
theorem tP (ha:PT X a tA) (hb:PW X (.BoolOp .And (b::rest) pos) tB'):PW X (.BoolOp .And (a::b::rest) pos) (yU tA tB'):=by
 intro wh pins s σ H Q I h;refine isTrue_and (thn (ha pins s σ H _ I h) λc s1 ⟨H1,I1,q1⟩=>?_)
 cases c with
 | true=>exact hb wh pins s1 σ H1 Q I1 q1
 | false=>exact⟨H1,I1,q1⟩
theorem je (ha:PT X a tA) (hb:PW X (.BoolOp .Or (b::rest) pos) tB'):PW X (.BoolOp .Or (a::b::rest) pos) (tOr tA tB'):=by
 intro wh pins s σ H Q I h;refine isTrue_or (thn (ha pins s σ H _ I h) λc s1 ⟨H1,I1,q1⟩=>?_)
 cases c with
 | true=>exact⟨H1,I1,q1⟩
 | false=>exact hb wh pins s1 σ H1 Q I1 q1
theorem dS (ha:PT X a tA):PT X (.UnaryOp .Not a pos) (yM tA):=by
 intro pins s σ H Q I h;exact isTrue_not (ha pins s σ H (λc H1=>Q (!c) H1) I h)
def wz (ta tb:TE):TE:=λσ H Q=>ta σ H λx H1=>∃c,x=.bl c/\if c=true then tb σ H1 Q else Q (.bl false) H1
def yL (ta tb:TE):TE:=λσ H Q=>ta σ H λx H1=>∃c,x=.bl c/\if c=true then Q (.bl true) H1 else tb σ H1 Q
def wt (ta:TE):TE:=λσ H Q=>ta σ H λx H1=>∃c,x=.bl c/\Q (.bl (!c)) H1
theorem mf {op} {t:TE} (h:PE X a t):PE X (.BoolOp op [a] pos) t:=λpins s σ H Q I hw=>BoolOp_one (h pins s σ H Q I hw)
theorem tZ (ha:PE X a ta) (hb:PE X (.BoolOp .And (b::rest) pos) tb):PE X (.BoolOp .And (a::b::rest) pos) (wz ta tb):=by
 intro pins s σ H Q I h;refine BoolOp_and (thn (ha pins s σ H _ I h) λv s1 ⟨x,H1,I1,r1,q1⟩=>?_);obtain⟨c,rfl,q1⟩:=q1;cases r1;refine wpAny_truthy_bool ?_
 cases c with
 | true=>exact hb pins s1 σ H1 Q I1 q1
 | false=>exact⟨.bl false,H1,I1,rfl,q1⟩
theorem wI (ha:PE X a ta) (hb:PE X (.BoolOp .Or (b::rest) pos) tb):PE X (.BoolOp .Or (a::b::rest) pos) (yL ta tb):=by
 intro pins s σ H Q I h;refine BoolOp_or (thn (ha pins s σ H _ I h) λv s1 ⟨x,H1,I1,r1,q1⟩=>?_);obtain⟨c,rfl,q1⟩:=q1;cases r1;refine wpAny_truthy_bool ?_
 cases c with
 | false=>exact hb pins s1 σ H1 Q I1 q1
 | true=>exact⟨.bl true,H1,I1,rfl,q1⟩
theorem xQ (ha:PE X a ta):PE X (.UnaryOp .Not a pos) (wt ta):=by
 intro pins s σ H Q I h;refine UnaryOp_ (thn (ha pins s σ H _ I h) λv s1 ⟨x,H1,I1,r1,q1⟩=>?_);obtain⟨c,rfl,q1⟩:=q1;cases r1;exact not_of (wpAny_truthy_bool ⟨.bl (!c),H1,I1,rfl,q1⟩)
def tIf (t:TT) (ta tb:TE):TE:=λσ H Q=>t σ H λc H1=>if c=true then ta σ H1 Q else tb σ H1 Q
theorem nR {c:Expr} (hc:PT X c tA) (ha:PE X a ta) (hb:PE X b tb):PE X (.IfExp c a b pos) (tIf tA ta tb):=by
 intro pins s σ H Q I h;refine wpAny_IfExp (thn (hc pins s σ H _ I h) λd s1 ⟨H1,I1,q1⟩=>?_)
 cases d with
 | true=>exact ha pins s1 σ H1 Q I1 q1
 | false=>exact hb pins s1 σ H1 Q I1 q1
end
def SqL (K:PySem.W.Frag) (H:Hp) (a:Addr) (xs:List V):Prop :=
 Rd H a (.lst xs) \/
  ∃(o:Obj) (its:Array Value) (n:Nat),K.lookup a=some o/\o.cls=.type "list" /\ o.dict=none/\o.data=.seq its n/\its.size<=sizeLine/\aY xs its.toList
def SqT (K:PySem.W.Frag) (H:Hp) (a:Addr) (xs:List V):Prop :=
 Rd H a (.tup xs) \/
  ∃(o:Obj) (its:Array Value) (n:Nat),K.lookup a=some o/\o.cls=.type "tuple" /\ o.data=.seq its n/\its.size<=sizeLine/\aY xs its.toList
noncomputable def C3:Value->Option V
 | .none=>some .non
 | .bool b=>some (.bl b)
 | .int i _=>some (.int i)
 | .str x _=>some (.str x)
 | .bytes b _=>some (.byt b)
 | .float b _=>some (.flt b)
 | .ref a=>some (.ref a)
 | .type n=>some (.ty n)
 | _=>none
theorem aR.abs {x:V} (r:aR x u):C3 u=some x:=by
 cases x with
 | non=>cases r;rfl
 | bl _=>cases r;rfl
 | int _=>obtain⟨t,rfl⟩:=r;rfl
 | str _=>obtain⟨t,rfl⟩:=r;rfl
 | byt _=>obtain⟨t,rfl⟩:=r;rfl
 | flt _=>obtain⟨t,rfl⟩:=r;rfl
 | ref _=>cases r;rfl
 | ty _=>cases r;rfl
theorem aR.inj {x y:V} (r:aR x u) (q:aR y u):x=y:=QX (r.abs.symm.trans q.abs)
theorem aY.inj:∀{xs ys:List V} {us:List Value},aY xs us->aY ys us->xs=ys
 | _,_,_,.nil,.nil=>rfl
 | _,_,_,.cons r t,.cons r' t'=>by rw[r.inj r',aY.inj t t']
section
variable {X:Cx} {pins:List (Addr × Obj)} {σ:St} {H:Hp} {s:Shared} {a:Addr} {xs ys:List V}
theorem SqL.of {K:PySem.W.Frag} (h:H a=some (.lst xs)):SqL K H a xs:=.inl (.inl h)
theorem SqT.of {K:PySem.W.Frag} (h:H a=some (.tup xs)):SqT K H a xs:=.inl (.inl h)
theorem Inv.list (I:Inv X pins σ H s) (h:SqL X.K H a xs):∃its:List Value,aY xs its/\PlainL s.heap a its.toArray/\xs.length<=sizeLine:=by
 rcases h with h|⟨o,its,n,hk,hc,hd,hs,hz,r⟩
 ·obtain⟨z,its,n,r,e⟩:=h.ok I.hok;exact⟨its,r,⟨_,n,e,rfl,rfl,rfl⟩,z⟩
 refine⟨its.toList,r,⟨o,n,I.kIn a o hk,hc,hd,by simpa using hs⟩,?_⟩;have e:=r.length;simp only[Qu]at e;omega
theorem Inv.tuple (I:Inv X pins σ H s) (h:SqT X.K H a xs):∃its:List Value,aY xs its/\IsTup s.heap a its.toArray/\xs.length<=sizeLine:=by
 rcases h with h|⟨o,its,n,hk,hc,hs,hz,r⟩
 ·obtain⟨z,its,r,p⟩:=h.ok I.hok;exact⟨its,r,p,z⟩
 refine⟨its.toList,r,⟨o,I.kIn a o hk,hc,n,by simpa using hs⟩,?_⟩;have e:=r.length;simp only[Qu]at e;omega
theorem Inv.list_inj (I:Inv X pins σ H s) (h:SqL X.K H a xs) (h':SqL X.K H a ys):xs=ys:=by
 obtain⟨its,r,⟨o,n,e,_,_,d⟩,_⟩:=I.list h;obtain⟨its',r',⟨o',n',e',_,_,d'⟩,_⟩:=I.list h';rw[e]at e';cases e';rw[d]at d';injection d' with d1 _;have:its=its':=by simpa using congrArg Array.toList d1
 subst this;exact r.inj r'
end
abbrev Cx.wish (X:Cx) (E:Value->Shared->Prop):Cx:={ X with xe:=E }
abbrev Cx.nox (X:Cx):Cx:=X.wish λ_ _=>False
theorem Cx.Ok.wish (ok:X.Ok) (E:Value->Shared->Prop):(X.wish E).Ok :=
 ⟨ok.mod,ok.kind,ok.glob,ok.blt,ok.above,ok.inj,ok.has,ok.cab,ok.hd,ok.frames,ok.stk,ok.exf,ok.bs,ok.bsz,ok.noex,ok.exfs,ok.funs,ok.frf⟩
theorem Cx.Ok.unwish (ok:(X.wish E).Ok):X.Ok :=
 ⟨ok.mod,ok.kind,ok.glob,ok.blt,ok.above,ok.inj,ok.has,ok.cab,ok.hd,ok.frames,ok.stk,ok.exf,ok.bs,ok.bsz,ok.noex,ok.exfs,ok.funs,ok.frf⟩
section
variable {X:Cx} {pins:List (Addr × Obj)} {σ:St} {H:Hp} {s:Shared} {E:Value->Shared->Prop}
theorem Inv.wish (I:Inv X pins σ H s) (E:Value->Shared->Prop):Inv (X.wish E) pins σ H s:=⟨I.ok.wish E,I.os,I.bare,I.base,I.loc,I.cell,I.free,I.freeC,I.pin,I.hok,I.len⟩
theorem Inv.unwish (I:Inv (X.wish E) pins σ H s):Inv X pins σ H s:=⟨I.ok.unwish,I.os,I.bare,I.base,I.loc,I.cell,I.free,I.freeC,I.pin,I.hok,I.len⟩
theorem SP.unwish {D:Ends} {f:Flow} {s':Shared} (h:SP (X.wish E) pins D f s'):SP X pins D f s':=by
 cases f with
 | next=>obtain⟨σ',H',I,q⟩:=h;exact⟨σ',H',I.unwish,q⟩
 | brk=>obtain⟨σ',H',I,q⟩:=h;exact⟨σ',H',I.unwish,q⟩
 | cont=>obtain⟨σ',H',I,q⟩:=h;exact⟨σ',H',I.unwish,q⟩
 | ret u=>obtain⟨v,σ',H',I,r,q⟩:=h;exact⟨v,σ',H',I.unwish,r,q⟩
theorem PSs.nox {st:List Stmt} {t:TS} (h:PSs X.nox st t):PSs X st t:=λpins s σ H D I hw =>
 Xn (h pins s σ H D (I.wish _) hw) (λ_ _ q=>q.unwish) λ_ _ z=>False.elim z
end
section
variable {X:Cx} {st:Stmt} {rest:List Stmt} {t u:TS} {e:Expr} {te:TE} {pos:Pos}
def wu:TS:=λD σ H=>D.nx σ H
def vp (t u:TS):TS:=λD σ H=>t { D with nx:=u D } σ H
theorem pss_nil:PSs X [] wu:=λ_ _ σ H _ I h=>wpAny_execs_nil ⟨σ,H,I,h⟩
theorem pss_cons (h1:PS X st t) (h2:PSs X rest u):PSs X (st::rest) (vp t u):=by
 intro pins s σ H D I h;refine wpAny_execs_cons (thn (h1 pins s σ H { D with nx:=u D } I h) λf s1 q=>?_)
 cases f with
 | next =>
  obtain⟨σ',H',I',q⟩:=q;exact h2 pins s1 σ' H' D I' q
 | ret v=>exact q
 | brk=>exact q
 | cont=>exact q
theorem aI (h1:PS X st t):PSs X [st] t:=by
 intro pins s σ H D I h;refine wpAny_execs_cons (thn (h1 pins s σ H D I h) λf s1 q=>?_)
 cases f with
 | next=>exact wpAny_execs_nil q
 | ret v=>exact q
 | brk=>exact q
 | cont=>exact q
theorem Inv.quiet {pins:List (Addr × Obj)} {σ:St} {H:Hp} {s:Shared} (I:Inv X pins σ H s):interactive X.env=false:=by simp[interactive,I.ok.kind]
def wx (te:TE):TS:=λD σ H=>te σ H λ_ H1=>D.nx σ H1
theorem cO (he:PE X e te) (hs:swapsWith e none pos.line X.env=pure false:=by rfl):PS X (.Expr e pos) (wx te):=by
 intro pins s σ H D I h;exact wpAny_Expr_any (thn (he pins s σ H _ I h) λv s1 ⟨x,H1,I1,r1,q1⟩=>⟨σ,H1,I1,q1⟩) I.quiet hs
def xy (te:TE):TS:=λD σ H=>te σ H D.rt
theorem aB (he:PE X e te):PS X (.Return (some e) pos) (xy te):=by
 intro pins s σ H D I h;exact wpAny_Return_some (thn (he pins s σ H _ I h) λv s1 ⟨x,H1,I1,r1,q1⟩=>⟨x,σ,H1,I1,r1,q1⟩)
def yO (c:TT) (t u:TS):TS:=λD σ H=>c σ H λb H1=>if b=true then t D σ H1 else u D σ H1
theorem ps_if {c:Expr} {a b:List Stmt} {tc:TT} (hc:PT X c tc) (ha:PSs X a t) (hb:PSs X b u):PS X (.If c a b pos) (yO tc t u):=by
 intro pins s σ H D I h;refine wpAny_If (thn (hc pins s σ H _ I h) λd s1 ⟨H1,I1,q1⟩=>?_)
 cases d with
 | true=>exact ha pins s1 σ H1 D I1 q1
 | false=>exact hb pins s1 σ H1 D I1 q1
def xA:TS:=λ_ _ _=>False
theorem rH {sts:List Stmt}:PSs X sts xA:=λ_ _ _ _ _ _ h=>h.elim
end
abbrev TG:=V->St->Hp->(St->Hp->Prop)->Prop
abbrev TGs:=List V->St->Hp->(St->Hp->Prop)->Prop
def PG (X:Cx) (target:Expr) (t:TG):Prop :=
 ∀(pins:List (Addr × Obj)) (s:Shared) (σ:St) (H:Hp) (v:V) (u:Value) (Q:St->Hp->Prop),Inv X pins σ H s->aR v u->t v σ H Q ->
  wpAny (model X.prog X.w) X.A (assign target X.env u) (λ_ s'=>∃σ' H',Inv X pins σ' H' s'/\Q σ' H') X.xe s
def PGs (X:Cx) (ts:List Expr) (t:TGs):Prop :=
 ∀(pins:List (Addr × Obj)) (s:Shared) (σ:St) (H:Hp) (vs:List V) (us:List Value) (Q:St->Hp->Prop),Inv X pins σ H s->aY vs us->t vs σ H Q ->
  wpAny (model X.prog X.w) X.A (assignInOrder ((assignEach ts X.env).map (·.2)) us) (λ_ s'=>∃σ' H',Inv X pins σ' H' s'/\Q σ' H') X.xe s
abbrev we:=V->V->V->Hp->(Hp->Prop)->Prop
def B4 (X:Cx) (t:we):Prop :=
 ∀(pins:List (Addr × Obj)) (s:Shared) (σ:St) (H:Hp) (o i v:V) (ov iv u:Value) (Q:Hp->Prop),Inv X pins σ H s->aR o ov->aR i iv->aR v u->t o i v H Q ->
  wpAny (model X.prog X.w) X.A (setItem ov iv u) (λ_ s'=>∃H',Inv X pins σ H' s'/\Q H') X.xe s
abbrev TIp:=V->V->Hp->VK->Prop
def PIp (X:Cx) (op:Operator) (t:TIp):Prop :=
 ∀(pins:List (Addr × Obj)) (s:Shared) (σ:St) (H:Hp) (x y:V) (v u:Value) (Q:VK),Inv X pins σ H s->aR x v->aR y u->t x y H Q ->
  wpAny (model X.prog X.w) X.A (inplaceOp op v u) (EP X pins σ Q) X.xe s
section
variable {X:Cx} {pos:Pos}
def eJ (i:Nat):TG:=λv σ H Q=>Q (σ.set i (some v)) H
variable {x:Str}
theorem cP {i:Nat} (hN:X.N.Nodup) (hi:X.N[i]?=some x) (hx:Loc X.env.scope x) (hf:X.fn x=true\/X.env.scope.names.lookup x=some .local:=by walk_at "z"):PG X (.Name x pos) (eJ i):=by
 intro pins s σ H v u Q I r h;exact wpAny_assign_Name (iU I hN hi hx r (λs' I'=>⟨_,H,I',h⟩) hf)
theorem cK (i:Nat) (hN:X.N.Nodup) (hi:X.N[i]?=some x:=by rfl) (hx:Loc X.env.scope x:=by walk_at "z") (hf:X.fn x=true\/X.env.scope.names.lookup x=some .local:=by walk_at "z"):PG X (.Name x pos) (eJ i):=cP hN hi hx hf
def C1:TGs:=λvs σ H Q=>vs=[]/\Q σ H
def BY (t:TG) (u:TGs):TGs:=λvs σ H Q=>∃v r,vs=v::r/\t v σ H λσ' H'=>u r σ' H' Q
theorem dU:PGs X [] C1:=by
 intro pins s σ H vs us Q I r h;obtain⟨e,h⟩:=h;subst e;cases r;exact assignInOrder_nil ⟨σ,H,I,h⟩
variable {e o i tg:Expr}
theorem bz {es:List Expr} {t:TG} {u:TGs} (h1:PG X e t) (h2:PGs X es u)
  (hs:(assignEach (e::es) X.env).map (·.2)=assign e X.env::(assignEach es X.env).map (·.2):=by rfl):PGs X (e::es) (BY t u):=by
 intro pins s σ H vs us Q I r h;obtain⟨v,vr,e1,h⟩:=h;subst e1
 cases r with
 | cons r rr =>
 rw[hs];refine assignInOrder_cons (thn (h1 pins s σ H _ _ _ I r h) λ_ s1 ⟨σ1,H1,I1,q1⟩=>?_);exact h2 pins s1 σ1 H1 _ _ Q I1 rr q1
def BW (K:PySem.W.Frag) (n:Nat) (t:TGs):TG:=λv σ H Q=>∃a xs,v=.ref a/\SqT K H a xs/\xs.length=n/\t xs σ H Q
theorem jh {es:List Expr} {k:Nat} {t:TGs} {n:Nat} (hc:X.calm=true) (h:PGs X es t)
  (hn:(assignEach es X.env).length=n:=by rfl) (hst:(assignEach es X.env).findIdx? (·.1)=none:=by rfl):PG X (.Tuple es k pos) (BW X.K n t):=by
 intro pins s σ H v u Q I r hw;obtain⟨a,xs,e1,hq,hl,hw⟩:=hw;subst e1;cases r;obtain⟨its,rv,ht,hz⟩:=I.tuple hq;refine assign_Tuple_tuple (I.ok.hd hc) ht (by simp[hn,<-hl,rv.length]) hst λh' hx=>?_;have I1:Inv X pins σ H { s with heap:=h' }:=I.kept (t':=s.toks) λb o e=>hx b o (QB (Qm e)) e;exact h pins _ σ H xs _ Q I1 (by simpa using rv) hw
def BX (to ti:TE) (t:we):TG:=λv σ H Q=>to σ H λo H1=>ti σ H1 λi H2=>t o i v H2 λH3=>Q σ H3
variable {to te:TE}
theorem tW {ti:TE} {t:we} (ho:PE X o to) (hi:PE X i ti) (hs:B4 X t)
  (ha:∀v,assign (.Subscript o i pos) X.env v=(do
   let ov <-holding [v] (eval o X.env);let iv <-holding [v,ov] (eval i X.env)
   standAt pos
   holding [v,ov,iv] (setItem ov iv v)
   release [v,ov,iv] []):=by intro _;rfl):PG X (.Subscript o i pos) (BX to ti t):=by
 intro pins s σ H v u Q I r h;rw[ha];refine Qa (QS (thn (ho pins s σ H _ I h) λov s1 ⟨x,H1,I1,r1,q1⟩=>?_));refine Qa (QS (thn (hi pins s1 σ H1 _ I1 q1) λiv s2 ⟨y,H2,I2,r2,q2⟩=>?_));refine Qa (wpAny_standAt (Qa (QS (thn (hs pins s2 σ H2 x y v ov iv u _ I2 r1 r2 r q2) λ_ s3 ⟨H3,I3,q3⟩=>?_))));exact wpAny_release ⟨σ,H3,I3,q3⟩
def tj (te:TE) (g:TG):TS:=λD σ H=>te σ H λx H1=>g x σ H1 D.nx
theorem pq {g:TG} (he:PE X e te) (hg:PG X tg g) (hs:swapsWithSole [tg] e pos.line X.env=pure false:=by rfl) (hw:swappedStores [tg] e X.env=pure none:=by rfl)
  (h1:(assignEach [tg] X.env).map (·.2)=[assign tg X.env]:=by rfl):PS X (.Assign [tg] e pos) (tj te g):=by
 intro pins s σ H D I h;refine wpAny_Assign_stores (thn (he pins s σ H _ I h) λv s1 ⟨x,H1,I1,r1,q1⟩=>?_) hs hw;rw[h1];exact thn (hg pins s1 σ H1 x v _ I1 r1 q1) λ_ s2 q=>q
variable {pos':Pos}
theorem l_ {i:Nat} (hN:X.N.Nodup) (hi:X.N[i]?=some x) (hx:Loc X.env.scope x) (he:PE X e te) (hs:swapsWith e (some (.Name x pos')) pos.line X.env=pure false:=by rfl) (hf:X.fn x=true\/X.env.scope.names.lookup x=some .local:=by walk_at "z") :
  PS X (.Assign [.Name x pos'] e pos) (tj te (eJ i)):=by
 intro pins s σ H D I h;refine wpAny_Assign_Name (thn (he pins s σ H _ I h) λv s1 ⟨y,H1,I1,r1,q1⟩=>?_) hs;exact iU I1 hN hi hx r1 (λs2 I2=>⟨_,H1,I2,q1⟩) hf
theorem aO (i:Nat) (hN:X.N.Nodup) (he:PE X e te) (hi:X.N[i]?=some x:=by rfl) (hx:Loc X.env.scope x:=by walk_at "z") (hs:swapsWith e (some (.Name x pos')) pos.line X.env=pure false:=by rfl) (hf:X.fn x=true\/X.env.scope.names.lookup x=some .local:=by walk_at "z"):PS X (.Assign [.Name x pos'] e pos) (tj te (eJ i)):=l_ hN hi hx he hs hf
def B8 (i:Nat) (te:TE) (ti:TIp):TS:=λD σ H=>∃x,σ[i]?=some (some x)/\te σ H λy H1=>ti x y H1 λz H2=>D.nx (σ.set i (some z)) H2
theorem xN {i:Nat} {op:Operator} {ti:TIp} (hN:X.N.Nodup) (hi:X.N[i]?=some x) (hx:Loc X.env.scope x) (he:PE X e te) (ho:PIp X op ti) (hf:X.fn x=true\/X.env.scope.names.lookup x=some .local:=by walk_at "z") :
  PS X (.AugAssign (.Name x pos') op e pos) (B8 i te ti):=by
 intro pins s σ H D I h;obtain⟨v,e1,h⟩:=h;obtain⟨m,hn,hl⟩:=I.loc;have vis:Vis X.env.scope x:=by rcases hx with k|k;exact .inl k;exact .inr (.inl k)
 obtain⟨u,r,l⟩:=hl i x v hi e1 vis;refine wpAny_AugAssign_Name ?_
 have go:wpAny (model X.prog X.w) X.A (eval e X.env) (λw s₂=>wpAny (model X.prog X.w) X.A (inplaceOp op u w) (λr s₃=>wpAny (model X.prog X.w) X.A (storeName X.env x r) (λ_=>SP X pins D .next) X.xe s₃) X.xe s₂) X.xe s:=by
  refine thn (he pins s σ H _ I h) λw s1 ⟨y,H1,I1,r1,q1⟩=>?_;refine thn (ho pins s1 σ H1 v y u w _ I1 r r1 q1) λz s2 ⟨zv,H2,I2,r2,q2⟩=>?_;exact iU I2 hN hi hx r2 (λs3 I3=>⟨_,H2,I3,q2⟩) hf
 rcases l with⟨hk,hm⟩|⟨hk,c,hc,hcell⟩
 ·exact wpAny_loadName_local I.ok.kind hk hn hm go
 rcases hk with hk|hk
 ·exact wpAny_loadName_cell I.ok.kind hk hc hcell go
 rcases hx with k|k
 ·have:X.env.scope.names.lookup x=some .free:=hk;rw[k]at this;cases this
 have:X.env.scope.names.lookup x=some .free:=hk;rw[k]at this;cases this
def ipI (f:Int->Int->Int):TIp:=λx y H Q=>∃i j,x=.int i/\y=.int j/\Q (.int (f i j)) H
theorem yz:PIp X .Add (ipI λi j=>i+j):=by
 intro pins s σ H x y v u Q I r1 r2 h;obtain⟨i,j,e1,e2,q⟩:=h;subst e1;subst e2;obtain⟨t,rfl⟩:=r1;obtain⟨t',rfl⟩:=r2;exact iadd_int ⟨.int _,H,I.tok _,⟨_,rfl⟩,q⟩
end
section
variable {X:Cx} {pos:Pos}
def xv (c:TT) (tb:TS):TS:=λD σ H=>∃W:Nat->St->Hp->Prop,(∃m,W m σ H)/\∀m σ H,W m σ H ->
 c σ H λb H1=>if b=true then ∃N:St->Hp->Prop,(∀σ' H',N σ' H'->∃m',m'<m/\W m' σ' H')/\tb { D with nx:=N,ct:=N,bk:=D.nx } σ H1 else D.nx σ H1
theorem jf {c:Expr} {body:List Stmt} {tc:TT} {tb:TS} (hp:PassesOwn (model X.prog X.w) X.A X.env X.xe) (hc:PT X c tc) (hb:PSs X body tb):PS X (.While c body [] pos) (xv tc tb):=by
 intro pins s σ H D I h;obtain⟨W,⟨m0,w0⟩,turn⟩:=h;refine wpAny_While (codeAny_whileLoop (λn s'=>∃σ' H',Inv X pins σ' H' s'/\W n σ' H') ?_ m0 ⟨σ,H,I,w0⟩);rintro n s1 ⟨σ1,H1,I1,w1⟩;refine wpAny_passesOwn hp (thn (hc pins s1 σ1 H1 _ I1 (turn n σ1 H1 w1)) λb s2 ⟨H2,I2,q2⟩=>?_)
 cases b with
 | true =>
  obtain⟨N,hN,q2⟩:=q2;rw[Qz rfl];refine wpAny_passesOwn hp (thn (hb pins s2 σ1 H2 _ I2 q2) λf s3 q3=>?_)
  cases f with
  | next =>
   obtain⟨σ3,H3,I3,n3⟩:=q3;obtain⟨m',hm,w3⟩:=hN σ3 H3 n3;exact⟨m',hm,σ3,H3,I3,w3⟩
  | cont =>
   obtain⟨σ3,H3,I3,n3⟩:=q3;obtain⟨m',hm,w3⟩:=hN σ3 H3 n3;exact⟨m',hm,σ3,H3,I3,w3⟩
  | brk=>exact q3
  | ret v=>exact q3
 | false =>
 rw[QA Qn];exact wpAny_execs_nil ⟨σ1,H2,I2,q2⟩
end
structure It where
 go:Nat->Hp->Prop
 yld:Nat->Hp->V->Hp->Prop
 stop:Nat->Hp->Prop
def gc (X:Cx) (pins:List (Addr × Obj)) (H:Hp) (b:Addr):Prop :=
 H b=none/\b≠X.env.locals/\b∉X.fs/\(b∈X.ex\/X.s₀.heap.objs.size<=b)/\(∀x c,X.env.cells.lookup x=some c->c≠b)/\∀p∈X.pn++pins,p.1≠b
theorem Inv.fpOk {pins:List (Addr × Obj)} {σ:St} (I:Inv X pins σ H s) (hb:s.heap.objs.size<=b) (hn:H' b=none):gc X pins H' b:=by
 refine⟨hn,Nat.ne_of_gt (QE I.lt hb),I.nofs hb,.inr (QP I.sz hb),λx c e z=>?_,λp hp z=>?_⟩
 ·obtain⟨v,q⟩:=I.cell x c e;exact absurd (QE q.lt (by rw[z];exact hb)) (XF _)
 exact absurd (QE (Qm (I.pin p hp).1) (by rw[z];exact hb)) (XF _)
structure Turn (P:Program) (w:World) (K:PySem.W.Frag) (tg:Expr) (J:It) (fp:List Addr) (it:Addr) (tn:Nat->Heap->Prop):Prop where
 mem:it∈fp
 obj:∀i h,tn i h->∀b∈fp,∃o,h.get? b=some o/\∀v,o.data≠.cell v
 keep:∀i h h',tn i h->(∀b∈fp,∀o,h.get? b=some o->h'.get? b=some o)->tn i h'
 item:∀(X:Cx),X.prog=P->X.w=w->X.K=K->X.calm=true->∀(i:Nat) (pins:List (Addr × Obj)) (s:Shared) (σ:St) (H:Hp) (E:Value->Shared->Prop),Inv X pins σ H s->(∀b∈fp,gc X pins H b)->tn i s.heap->J.go i H ->
  wpAny (model P w) X.A (pyNext (.ref it)) (λr s1=>∃u,r=some u /\
   wpAny (model P w) X.A (letOwnedTupleGo tg (.ref it) u) (λ_ s2=>∃x H',Inv X pins σ H' s2/\aR x u/\J.yld i H x H'/\tn (i+1) s2.heap/\∀b∈fp,H' b=none) E s1) E s
 done:∀(X:Cx),X.prog=P->X.w=w->X.K=K->X.calm=true->∀(i:Nat) (pins:List (Addr × Obj)) (s:Shared) (σ:St) (H:Hp) (E:Value->Shared->Prop),Inv X pins σ H s->(∀b∈fp,gc X pins H b)->tn i s.heap->J.stop i H ->
  wpAny (model P w) X.A (pyNext (.ref it)) (λr s1=>r=none/\Inv X pins σ H s1) E s
 self:∀(A:Around) (i:Nat) (s:Shared) (Q:Value->Shared->Prop) (E:Value->Shared->Prop),tn i s.heap->Q (.ref it) s->wpAny (model P w) A (pyIter (.ref it)) Q E s
abbrev TI:=St->Hp->(It->Hp->Prop)->Prop
def PIE (X:Cx) (pins:List (Addr × Obj)) (σ:St) (tg:Expr) (R:It->Hp->Prop) (itv:Value) (s2:Shared):Prop :=
 ∃(it:Addr) (fp:List Addr) (tn:Nat->Heap->Prop) (J:It) (H':Hp),itv=.ref it/\Inv X pins σ H' s2/\Turn X.prog X.w X.K tg J fp it tn/\tn 0 s2.heap/\(∀b∈fp,gc X pins H' b)/\R J H'
def PI (X:Cx) (tg iter:Expr) (wi:TI):Prop :=
 ∀(pins:List (Addr × Obj)) (s:Shared) (σ:St) (H:Hp) (R:It->Hp->Prop),Inv X pins σ H s->wi σ H R ->
  wpAny (model X.prog X.w) X.A (eval iter X.env) (λv s1=>wpAny (model X.prog X.w) X.A (pyIter v) (PIE X pins σ tg R) X.xe s1) X.xe s
theorem uQ {M:Model} {s:Shared} {o:Obj} {n:String} {vs:Array Value} {Q:Unit->Shared->Prop} (ho:s.heap.get? it=some o) (hc:o.cls=.type n) (hd:o.data=.fields vs)
  (hn:["enumerate", "zip", "dict_itemiterator", "dict_reverseitemiterator", "odict_iterator", "itertools.zip_longest", "itertools.pairwise"].contains n=false) (hQ:Q () s):wpAny M A (letOwnedTupleGo tg (.ref it) u) Q E s:=by
 unfold letOwnedTupleGo
 cases tg <;> first
  | exact Qf hQ
  | (cases u <;> first
    | exact Qf hQ
    |(refine Qa (wpAny_load ho ?_)
      rw[hc,hd];show wpAny M A (if (["enumerate", "zip", "dict_itemiterator", "dict_reverseitemiterator", "odict_iterator", "itertools.zip_longest", "itertools.pairwise"].contains n&&vs[0]?==some (rawInt _))=true then _ else _) Q E s;rw[QA (by intro h;rw[hn,Bool.false_and]at h;cases h)]
      exact Qf hQ))
def Itl (K:PySem.W.Frag) (a:Addr):It :=
 ⟨λi H=>∃xs x,SqL K H a xs/\xs[i]?=some x,λi H x H'=>H'=H/\∀xs,SqL K H a xs->xs[i]?=some x,λi H=>∃xs,SqL K H a xs/\xs.length<=i⟩
def Itr (lo:Int) (n:Nat):It:=⟨λi _=>i<n,λi H x H'=>H'=H/\x=.int (lo+i),λi _=>n<=i⟩
variable {K:PySem.W.Frag}
theorem turn_list (a it:Addr):Turn P w K tg (Itl K a) [it] it (λi h=>h.IsListIter it a i) where
 mem:=by simp
 obj:=λi h st b hb=>by
  have e:b=it:=by simpa using hb
  subst e;obtain⟨o,e,c,d⟩:=st;exact⟨o,e,λv z=>by rw[d]at z;cases z⟩
 keep:=λi h h' st k=>st.at λo e=>k it (by simp) o e
 item:=by
  intro X hP hw hK hc i pins s σ H E I hf st hg;subst hP hw hK;obtain⟨xs,x,hq,hx⟩:=hg;obtain⟨its,rv,p,hz⟩:=I.list hq;obtain⟨u,hu,ru⟩:=rv.get hx;obtain⟨f0,f1,f2,f3,f4,f5⟩:=hf it (by simp);refine wpAny_pyNext_list_item st p.isList (x:=u) (by simpa using hu) λh' st' sb=>?_;have I1:Inv X pins σ H { s with heap:=h' }:=I.turned (t':=s.toks) (λb o hb e=>(sb.2 b hb).trans e) f0 f1 f3 f4 f5;obtain⟨o,e,c,d⟩:=id st';exact⟨u,rfl,uQ (s:={ s with heap:=h' }) e c d (by decide) ⟨x,H,I1,ru,⟨rfl,λys hy=>by rw[I.list_inj hy hq];exact hx⟩,st',λb hb=>(hf b hb).1⟩⟩
 done:=by
  intro X hP hw hK hc i pins s σ H E I hf st hg;subst hP hw hK;obtain⟨xs,hq,hx⟩:=hg;obtain⟨its,rv,p,hz⟩:=I.list hq;obtain⟨f0,f1,f2,f3,f4,f5⟩:=hf it (by simp);have hl:=rv.length;exact wpAny_pyNext_list_end (I.ok.hd hc) st p.isList (by simp;omega) λh' eb=>⟨rfl,I.turned (t':=s.toks) (λb o hb e=>eb b o hb e) f0 f1 f3 f4 f5⟩
 self:=λ_ _ _ _ _ st h=>wpAny_pyIter_listiter st h
theorem oX (it:Addr) (lo:Int) (n:Nat):Turn P w K tg (Itr lo n) [it] it (λi h=>IsRangeIter h it (lo+(i:Nat)*1) ((n:Int)-(i:Nat)) 1) where
 mem:=by simp
 obj:=λi h st b hb=>by
  have e:b=it:=by simpa using hb
  subst e
  exact⟨_,st,λv z=>by
   have z':Data.fields _=Data.cell v:=z
   cases z'⟩
 keep:=λi h h' st k=>k it (by simp) _ st
 item:=by
  intro X hP hw hK hc i pins s σ H E I hf st hg;subst hP hw hK;obtain⟨f0,f1,f2,f3,f4,f5⟩:=hf it (by simp);have W:=Walks.range (prog:=X.prog) (w:=X.w) (I.ok.hd hc) it lo 1 n;refine W.item i s _ _ hg st λv h' tk hv st' kk=>?_;obtain⟨t,rfl⟩:=hv;have I1:Inv X pins σ H { s with heap:=h',toks:=tk }:=I.turned (λb o hb e=>kk b o (by simpa using hb) e) f0 f1 f3 f4 f5;refine⟨_,rfl,uQ (s:={ s with heap:=h',toks:=tk }) (n := "range_iterator") st' rfl rfl (by decide) ⟨.int (lo+i),H,I1,⟨t,?_⟩,⟨rfl,rfl⟩,st',λb hb=>(hf b hb).1⟩⟩;rw[Int.mul_one]
 done:=by
  intro X hP hw hK hc i pins s σ H E I hf st hg;subst hP hw hK;obtain⟨f0,f1,f2,f3,f4,f5⟩:=hf it (by simp);exact wpAny_pyNext_range_end (I.ok.hd hc) st (by have:n<=i:=hg;omega) λh' eb=>⟨rfl,I.turned (t':=s.toks) (λb o hb e=>eb b o hb e) f0 f1 f3 f4 f5⟩
 self:=λ_ _ _ _ _ st h=>wpAny_pyIter_rangeiter st h
section
variable {X:Cx} {tg:Expr}
def qO (K:PySem.W.Frag) (tl:TE):TI:=λσ H R=>tl σ H λx H1=>∃a,x=.ref a/\(∃xs,SqL K H1 a xs)/\R (Itl K a) H1
theorem bq {l:Expr} {tl:TE} (hl:PE X l tl):PI X tg l (qO X.K tl):=by
 intro pins s σ H R I h;refine thn (hl pins s σ H _ I h) λv s1 ⟨x,H1,I1,r1,q1⟩=>?_;obtain⟨a,e,⟨xs,hq⟩,q⟩:=q1;subst e;cases r1;obtain⟨its,rv,p,hz⟩:=I1.list hq;refine wpAny_pyIter_list p.isList ?_;refine⟨s1.heap.objs.size,[s1.heap.objs.size],_,_,H1,rfl,I1.kept (t':=s1.toks) λb o e=>Qd _ e,turn_list a _,⟨_,Qp _ rfl,rfl,rfl⟩,λb hb=>?_,q⟩;have e:b=s1.heap.objs.size:=by simpa using hb
 subst e;exact I1.fpOk (Qh _) (I1.hok.fresh (Qh _))
variable {s:Shared} {pins pl:List (Addr × Obj)}
theorem tM {σ:St} {H:Hp} {R:It->Hp->Prop} {E:Value->Shared->Prop} {lo hi:Int} {t u v:Tok} {tk:Nat} (I:Inv X pins σ H s) (h1:-(2 ^ 62)<=lo) (h2:lo<2 ^ 62) (h3:-(2 ^ 62)<=hi) (h4:hi<2 ^ 62)
  (q:R (Itr lo (hi-lo).toNat) H):wpAny (model X.prog X.w) X.A (pyIter (.ref s.heap.objs.size)) (PIE X pins σ tg R) E { s with heap:=s.heap.push { cls:=.type "range", data:=.fields #[.int lo t,.int hi u,.int 1 v] },toks:=tk }:=by
 refine wpAny_pyIter_range (IsRange.new ..) (small_one h1 h2 h3 h4) ?_;have I1:Inv X pins σ H { s with heap:=s.heap.push { cls:=.type "range", data:=.fields #[.int lo t,.int hi u,.int 1 v] },toks:=tk }:=I.kept λb o e=>Qd _ e
 refine⟨(s.heap.push { cls:=.type "range", data:=.fields #[.int lo t,.int hi u,.int 1 v] }).objs.size,[(s.heap.push { cls:=.type "range", data:=.fields #[.int lo t,.int hi u,.int 1 v] }).objs.size],_,_,H,rfl,
  I1.kept (t':=tk) λb o e=>Qd _ e,oX _ lo (hi-lo).toNat,?_,λb hb=>?_,q⟩
 ·have e1:lo+((0:Nat):Int)*1=lo:=by simp
  have e2:(((hi-lo).toNat:Nat):Int)-((0:Nat):Int)=Builtin.Range.rangeSize lo hi 1:=by rw[rangeSize_one];split <;> omega
  show IsRangeIter _ _ (lo+((0:Nat):Int)*1) ((((hi-lo).toNat:Nat):Int)-((0:Nat):Int)) 1;rw[e1,e2];exact Qp _ rfl
 have e:b=(s.heap.push { cls:=.type "range", data:=.fields #[.int lo t,.int hi u,.int 1 v] }).objs.size:=by simpa using hb
 subst e;exact I1.fpOk (Qh _) (I1.hok.fresh (Qh _))
def xn (ta:TA):TI:=λσ H R=>ta σ H λvs H1=>∃j:Int,vs=[.int j]/\-(2 ^ 62)<=j/\j<2 ^ 62/\R (Itr 0 j.toNat) H1
theorem fA {a:Expr} {ta:TA} {p pos:Pos} (hg:Gl X "range") (hm:X.mg "range" = none) (ha:PA X [a] ta) (hs:starEach [a] X.env=[(false,eval a X.env)]:=by rfl):PI X tg (.Call (.Name "range" p) [a] [] pos) (xn ta):=by
 intro pins s σ H R I h;refine Call_ (ck I hg hm boot_range (QV (thn (ha pos pins s σ H _ I h) λus s1 ⟨vs,H1,I1,r1,q1⟩=>?_) hs rfl));obtain⟨j,e,q1,q2,q⟩:=q1;subst e
 cases r1 with
 | cons r rr =>
 cases rr;obtain⟨t,rfl⟩:=r;exact call_range_1 (tM I1 (by omega) (by omega) q1 q2 (by simpa using q))
def yQ (wi:TI) (g:TG) (tb:TS):TS:=λD σ H=>wi σ H λJ H1=>∃W:Nat->Nat->St->Hp->Prop,(∃m,W 0 m σ H1)/\∀i m σ H,W i m σ H ->
 (J.stop i H/\D.nx σ H)\/(J.go i H/\∃N:St->Hp->Prop,(∀σ' H',N σ' H'->∃m',m'<m/\W (i+1) m' σ' H')/\∀x H',J.yld i H x H'->g x σ H' λσ2 H2=>tb { D with nx:=N,ct:=N,bk:=D.nx } σ2 H2)
def gZ (fp:List Addr) (h:Heap):List (Addr × Obj):=fp.filterMap λb=>(h.get? b).map λo=>(b,o)
variable {fp:List Addr}
theorem cx {h:Heap} {b:Addr} {o:Obj} (hb:b∈fp) (e:h.get? b=some o):(b,o)∈gZ fp h:=List.mem_filterMap.mpr ⟨b,hb,by rw[e];rfl⟩
theorem rW {h:Heap} {p:Addr × Obj} (hp:p∈gZ fp h):p.1∈fp/\h.get? p.1=some p.2:=by
 obtain⟨b,hb,e⟩:=List.mem_filterMap.mp hp
 cases q:h.get? b with
 | none=>rw[q]at e;cases e
 | some o =>
 rw[q]at e;have e':(b,o)=p:=QX e;subst e';exact⟨hb,q⟩
theorem Inv.pinned {σ:St} {H:Hp} (I:Inv X pins σ H s) (hf:∀b∈fp,gc X pins H b) (ho:∀b∈fp,∃o,s.heap.get? b=some o/\∀v,o.data≠.cell v):Inv X (pins++gZ fp s.heap) σ H s :=
 I.pins_of λp hp=>(QH.mp hp).elim (λz=>I.pin p (QL _ z)) λz=>by
  obtain⟨hb,e⟩:=rW z;obtain⟨f0,f1,f2,_⟩:=hf p.1 hb;obtain⟨o,e',d⟩:=ho p.1 hb;rw[e]at e';cases e';exact⟨e,f0,f1,f2,d⟩
theorem Inv.unpinned {σ:St} {H:Hp} (I:Inv X (pins++pl) σ H s):Inv X pins σ H s:=I.pins_of λp hp=>I.pin p (QL _ (List.mem_append_left _ hp))
theorem ps_for {iter:Expr} {body:List Stmt} {wi:TI} {g:TG} {tb:TS} {pos:Pos} (hp:PassesOwn (model X.prog X.w) X.A X.env X.xe) (hc:X.calm=true) (hi:PI X tg iter wi) (hg:PG X tg g) (hb:PSs X body tb)
  (hs:∀x,foldedSetIterable iter X.env x=pure x:=by intro _;rfl):PS X (.For tg iter body [] pos) (yQ wi g tb):=by
 intro pins s σ H D I h;refine wpAny_For (thn (hi pins s σ H _ I h) λv s1 h1=>thn h1 λitv s2 h2=>?_) hs;obtain⟨it,fp,tn,J,H2,e,I2,T,st2,f2,W,⟨m0,w0⟩,turn⟩:=h2;subst e
 -- what stays true of the iterator's objects through the loop
 have stat:∀{H':Hp},(∀b∈fp,H' b=none)->∀b∈fp,gc X pins H' b:=λhn b hb=>⟨hn b hb,(f2 b hb).2⟩;refine codeAny_forLoop_any (λn s'=>∃i σ' H',Inv X pins σ' H' s'/\tn i s'.heap/\(∀b∈fp,H' b=none)/\W i n σ' H') ?_ m0 ⟨0,σ,H2,I2,st2,λb hb=>(f2 b hb).1,w0⟩;rintro n s3 ⟨i,σ3,H3,I3,st3,fr3,w3⟩;rcases turn i n σ3 H3 w3 with⟨stop,qn⟩|⟨go,N,hN,step⟩
 ·refine wpAny_passesOwn hp (thn (T.done X rfl rfl rfl hc i pins s3 σ3 H3 X.xe I3 (stat fr3) st3 stop) λr s4 ⟨hr,I4⟩=>?_);subst hr;exact wpAny_execs_nil ⟨σ3,H3,I4,qn⟩
 refine wpAny_passesOwn hp (thn (T.item X rfl rfl rfl hc i pins s3 σ3 H3 X.xe I3 (stat fr3) st3 go) λr s4 ⟨u,hr,h4⟩=>?_);subst hr;refine wpAny_passesOwn hp (thn h4 λ_ s5 ⟨x,H5,I5,r5,y5,st5,fr5⟩=>?_);have I5':=I5.pinned (stat fr5) (T.obj _ _ st5);refine wpAny_passesOwn hp (thn (hg _ s5 σ3 H5 x u _ I5' r5 (step x H5 y5)) λ_ s6 ⟨σ6,H6,I6,q6⟩=>?_);refine wpAny_passesOwn hp (thn (hb _ s6 σ6 H6 _ I6 q6) λf s7 q7=>?_)
 have again:∀{σ7:St} {H7:Hp},Inv X (pins++gZ fp s5.heap) σ7 H7 s7->N σ7 H7->∃m,m<n/\∃i σ' H',Inv X pins σ' H' s7/\tn i s7.heap/\(∀b∈fp,H' b=none)/\W i m σ' H':=λ{σ7 H7} I7 n7=>by
  obtain⟨m',hm,w7⟩:=hN σ7 H7 n7;refine⟨m',hm,i+1,σ7,H7,I7.unpinned,T.keep _ _ _ st5 λb hb o e=>(I7.pin (b,o) (QL _ (QL _ (cx hb e)))).1,λb hb=>?_,w7⟩;obtain⟨o,e,d⟩:=T.obj _ _ st5 b hb;exact(I7.pin (b,o) (QL _ (QL _ (cx hb e)))).2.1
 cases f with
 | next=>obtain⟨σ7,H7,I7,n7⟩:=q7;exact again I7 n7
 | cont=>obtain⟨σ7,H7,I7,n7⟩:=q7;exact again I7 n7
 | brk=>obtain⟨σ7,H7,I7,q7⟩:=q7;exact⟨σ7,H7,I7.unpinned,q7⟩
 | ret v=>obtain⟨x7,σ7,H7,I7,r7,q7⟩:=q7;exact⟨x7,σ7,H7,I7.unpinned,r7,q7⟩
end
theorem e9 {xs:List V} {g:TG} {tb:TS} {D:Ends} {σ:St} (Pv:Nat->St->Hp->Prop) (h0:Pv 0 σ H) (hl:∀i σ H,i<=xs.length->Pv i σ H->SqL K H a xs)
  (hs:∀i x σ H,xs[i]?=some x->Pv i σ H->g x σ H λσ2 H2=>tb { D with nx:=Pv (i+1),ct:=Pv (i+1),bk:=D.nx } σ2 H2) (hd:∀σ H,Pv xs.length σ H->D.nx σ H) :
  ∃W:Nat->Nat->St->Hp->Prop,(∃m,W 0 m σ H)/\∀i m σ H,W i m σ H ->
   ((Itl K a).stop i H/\D.nx σ H)\/((Itl K a).go i H/\∃N:St->Hp->Prop,(∀σ' H',N σ' H'->∃m',m'<m/\W (i+1) m' σ' H')/\∀x H',(Itl K a).yld i H x H'->g x σ H' λσ2 H2=>tb { D with nx:=N,ct:=N,bk:=D.nx } σ2 H2):=by
 refine⟨λi m σ H=>m=xs.length-i/\i<=xs.length/\Pv i σ H,⟨xs.length,by simp,QM _,h0⟩,?_⟩;rintro i m σ H ⟨rfl,hi,p⟩;have q:=hl i σ H hi p;by_cases hlt:i<xs.length
 ·refine .inr ⟨⟨xs,xs[i],q,by simp[hlt]⟩,Pv (i+1),λσ' H' p'=>⟨xs.length-(i+1),by omega,rfl,hlt,p'⟩,λx H' y=>?_⟩;obtain⟨e,y⟩:=y;subst e;exact hs i x σ _ (y xs q) p
 have e:i=xs.length:=by omega
 subst e;exact .inl ⟨⟨xs,q,Qh _⟩,hd σ H p⟩
theorem kW {lo:Int} {n:Nat} {g:TG} {tb:TS} {D:Ends} {σ:St} (Pv:Nat->St->Hp->Prop) (h0:Pv 0 σ H)
  (hs:∀i σ H,i<n->Pv i σ H->g (.int (lo+i)) σ H λσ2 H2=>tb { D with nx:=Pv (i+1),ct:=Pv (i+1),bk:=D.nx } σ2 H2) (hd:∀σ H,Pv n σ H->D.nx σ H) :
  ∃W:Nat->Nat->St->Hp->Prop,(∃m,W 0 m σ H)/\∀i m σ H,W i m σ H ->
   ((Itr lo n).stop i H/\D.nx σ H)\/((Itr lo n).go i H/\∃N:St->Hp->Prop,(∀σ' H',N σ' H'->∃m',m'<m/\W (i+1) m' σ' H')/\∀x H',(Itr lo n).yld i H x H'->g x σ H' λσ2 H2=>tb { D with nx:=N,ct:=N,bk:=D.nx } σ2 H2):=by
 refine⟨λi m σ H=>m=n-i/\i<=n/\Pv i σ H,⟨n,by simp,QM _,h0⟩,?_⟩;rintro i m σ H ⟨rfl,hi,p⟩;by_cases hlt:i<n
 ·refine .inr ⟨hlt,Pv (i+1),λσ' H' p'=>⟨n-(i+1),by omega,rfl,hlt,p'⟩,λx H' y=>?_⟩;obtain⟨e,y⟩:=y;subst e y;exact hs i σ _ hlt p
 have e:i=n:=by omega
 subst e;exact .inl ⟨Qh _,hd σ H p⟩
abbrev R2:=V->V->Hp->VK->Prop
def OpR (X:Cx) (f:Value->Value->Sem Value) (r:R2):Prop :=
 ∀(pins:List (Addr × Obj)) (s:Shared) (σ:St) (H:Hp) (x y:V) (v u:Value) (Q:VK),Inv X pins σ H s->aR x v->aR y u->r x y H Q ->
  wpAny (model X.prog X.w) X.A (f v u) (EP X pins σ Q) X.xe s
def dN (X:Cx) (f:Value) (r:List V->Hp->VK->Prop):Prop :=
 ∀(pins:List (Addr × Obj)) (s:Shared) (σ:St) (H:Hp) (xs:List V) (us:List Value) (Q:VK),Inv X pins σ H s->aY xs us->r xs H Q ->
  wpAny (model X.prog X.w) X.A (call f us) (EP X pins σ Q) X.xe s
def tOp (r:R2) (ta tb:TE):TE:=λσ H Q=>ta σ H λx H1=>tb σ H1 λy H2=>r x y H2 Q
def tUn (r:V->Hp->VK->Prop) (ta:TE):TE:=λσ H Q=>ta σ H λx H1=>r x H1 Q
def rI (C:Int->Int->Prop) (g:Int->Int->V):R2:=λx y H Q=>∃i j,x=.int i/\y=.int j/\C i j/\Q (g i j) H
def rI0 (g:Int->Int->V):R2:=λx y H Q=>∃i j,x=.int i/\y=.int j/\Q (g i j) H
def rU (g:Int->V):V->Hp->VK->Prop:=λx H Q=>∃i,x=.int i/\Q (g i) H
section
variable {X:Cx} {a b c:Expr} {ta tb tc:TE} {pos:Pos}
variable {f:Value->Value->Sem Value}
theorem yI (ha:PE X a ta) (hb:PE X b tb) {pins:List (Addr × Obj)} {s:Shared} {σ:St} {H:Hp} {R:V->V->Hp->Prop} (I:Inv X pins σ H s)
  (h:ta σ H λx H1=>tb σ H1 λy H2=>R x y H2) {Q:Value->Shared->Prop}
  (hf:∀v u s2 x y H2,Inv X pins σ H2 s2->aR x v->aR y u->R x y H2->wpAny (model X.prog X.w) X.A (f v u) Q X.xe s2) :
  wpAny (model X.prog X.w) X.A (eval a X.env) (λv s₁=>wpAny (model X.prog X.w) X.A (eval b X.env) (λu s₂=>wpAny (model X.prog X.w) X.A (f v u) Q X.xe s₂) X.xe s₁) X.xe s:=by
 refine thn (ha pins s σ H _ I h) λv s1 ⟨x,H1,I1,r1,q1⟩=>?_;refine thn (hb pins s1 σ H1 _ I1 q1) λu s2 ⟨y,H2,I2,r2,q2⟩=>?_;exact hf v u s2 x y H2 I2 r1 r2 q2
theorem a8 {op:Operator} {r:R2} (ho:OpR X (binaryOp op) r) (ha:PE X a ta) (hb:PE X b tb):PE X (.BinOp a op b pos) (tOp r ta tb):=by
 intro pins s σ H Q I h;exact wpAny_BinOp (yI ha hb I h λv u s2 x y H2 I2 rx ry q=>ho pins s2 σ H2 x y v u Q I2 rx ry q)
theorem opI {C:Int->Int->Prop} {g:Int->Int->Int}
  (rule:∀(i j:Int) (t u:Tok) (s:Shared) (Q:Value->Shared->Prop) (E:Value->Shared->Prop),C i j->Q (.int (g i j) s.toks) { s with toks:=s.toks+1 }->wpAny (model X.prog X.w) X.A (f (.int i t) (.int j u)) Q E s) :
  OpR X f (rI C λi j=>.int (g i j)):=by
 intro pins s σ H x y v u Q I rx ry h;obtain⟨i,j,rfl,rfl,hc,q⟩:=h;obtain⟨t,rfl⟩:=rx;obtain⟨t',rfl⟩:=ry;exact rule i j t t' s _ _ hc ⟨.int (g i j),H,I.tok _,⟨_,rfl⟩,q⟩
theorem zb {g:Int->Int->Int}
  (rule:∀(i j:Int) (t u:Tok) (s:Shared) (Q:Value->Shared->Prop) (E:Value->Shared->Prop),Q (.int (g i j) s.toks) { s with toks:=s.toks+1 }->wpAny (model X.prog X.w) X.A (f (.int i t) (.int j u)) Q E s) :
  OpR X f (rI0 λi j=>.int (g i j)):=by
 intro pins s σ H x y v u Q I rx ry h;obtain⟨i,j,rfl,rfl,q⟩:=h;obtain⟨t,rfl⟩:=rx;obtain⟨t',rfl⟩:=ry;exact rule i j t t' s _ _ ⟨.int (g i j),H,I.tok _,⟨_,rfl⟩,q⟩
theorem yb {g:Int->Int->Bool}
  (rule:∀(i j:Int) (t u:Tok) (s:Shared) (Q:Value->Shared->Prop) (E:Value->Shared->Prop),Q (.bool (g i j)) s->wpAny (model X.prog X.w) X.A (f (.int i t) (.int j u)) Q E s) :
  OpR X f (rI0 λi j=>.bl (g i j)):=by
 intro pins s σ H x y v u Q I rx ry h;obtain⟨i,j,rfl,rfl,q⟩:=h;obtain⟨t,rfl⟩:=rx;obtain⟨t',rfl⟩:=ry;exact rule i j t t' s _ _ ⟨.bl (g i j),H,I,rfl,q⟩
def Dh (i j:Int):Prop:=0<j/\j<1073741824
def Dg (i j:Int):Prop:=0<=j/\j<=1000000/\i.natAbs<2 ^ 64
def yK (i j:Int):Prop:=(-(2 ^ 64)<i/\i<2 ^ 64)\/(-(2 ^ 64)<j/\j<2 ^ 64)
theorem yK.ok {i j:Int} (h:yK i j):IntMulOk i j:=by
 rcases h with⟨h1,h2⟩|⟨h1,h2⟩
 ·exact .of_left (intBits_le_64 h1 h2)
 exact .of_right (intBits_le_64 h1 h2)
theorem cu:OpR X (binaryOp .Add) (rI0 λi j=>.int (i+j)):=zb λ_ _ _ _ _ _ _ q=>add_int q
theorem pC:OpR X (binaryOp .Sub) (rI0 λi j=>.int (i-j)):=zb λ_ _ _ _ _ _ _ q=>sub_int q
theorem eX:OpR X (binaryOp .Mult) (rI yK λi j=>.int (i*j)):=opI λ_ _ _ _ _ _ _ hc q=>mul_int q hc.ok
theorem qF:OpR X (binaryOp .FloorDiv) (rI Dh λi j=>.int (i / j)):=opI λi j _ _ _ _ _ hc q=>by
 have h1:(0:Int)<j:=hc.1;have h2:j<1073741824:=hc.2;exact floordiv_int (by omega) (by rw[Int.fdiv_eq_ediv_of_nonneg i (by omega)];exact q) (.inl (PyProof.noPylong_small (by omega)))
theorem dY:OpR X (binaryOp .Mod) (rI (λ_ j=>0<j) λi j=>.int (i % j)):=opI λi j _ _ _ _ _ hc q=>by
 have h1:(0:Int)<j:=hc;exact mod_int' (by omega) (by rw[Int.fmod_eq_emod_of_nonneg i (by omega)];exact q)
theorem xY:OpR X (binaryOp .Pow) (rI Dg λi j=>.int (i ^ j.toNat)):=opI λ_ _ _ _ _ _ _ hc q=>pow_int_small hc.1 hc.2.1 hc.2.2 q
end
noncomputable def vv:V->V->Bool
 | .non,.non=>true|.non,.int _=>true|.int _,.non=>true|.non,.bl _=>true|.bl _,.non=>true|.non,.str _=>true|.str _,.non=>true
 | .int _,.int _=>true|.bl _,.bl _=>true|.str _,.str _=>true|.byt _,.byt _=>true
 | .int _,.str _=>true|.str _,.int _=>true|.bl _,.str _=>true|.str _,.bl _=>true
 | _,_=>false
def rEq:R2:=λx y H Q=>vv x y=true/\Q (.bl (decide (x=y))) H
def rNe:R2:=λx y H Q=>vv x y=true/\Q (.bl (!decide (x=y))) H
theorem qR {i j:Int}:decide (V.int i=V.int j)=(i==j):=by
 rw[Bool.eq_iff_iff];simp
theorem u0 {i j:Bool}:decide (V.bl i=V.bl j)=(i==j):=by
 rw[Bool.eq_iff_iff];simp
theorem qQ {i j:Str}:decide (V.str i=V.str j)=(i==j):=by
 rw[Bool.eq_iff_iff];simp
theorem qS {i j:Array UInt8}:decide (V.byt i=V.byt j)=(i.toList==j.toList):=by
 rw[Bool.eq_iff_iff];cases i;cases j;simp
section
variable {X:Cx} {a b c:Expr} {ta tb tc:TE} {pos:Pos}
theorem a7 {pins:List (Addr × Obj)} {σ:St} {H:Hp} {s:Shared} {Q:VK} {k k':Bool} (I:Inv X pins σ H s) (q:Q (.bl k) H) (e:k=k'):EP X pins σ Q (.bool k') s:=by
 subst e;exact⟨.bl k,H,I,rfl,q⟩
theorem eF:OpR X (compareOp .Eq) rEq:=by
 intro pins s σ H x y v u Q I rx ry h;obtain⟨hs,q⟩:=h
 cases x with
 | non =>
  cases rx
  cases y with
  | non=>cases ry;exact PySem.EqNone.eq_none_none (a7 I q (by simp))
  | bl j=>cases ry;exact PySem.EqNone.eq_none_bool (a7 I q (by simp))
  | int j=>obtain⟨t',rfl⟩:=ry;exact PySem.EqNone.eq_none_int (a7 I q (by simp))
  | str j=>obtain⟨t',rfl⟩:=ry;exact PySem.EqNone.eq_none_str (a7 I q (by simp))
  | _=>exact absurd (show false=true from hs) Qn
 | bl i =>
  cases rx
  cases y with
  | non=>cases ry;exact PySem.EqNone.eq_bool_none (a7 I q (by simp))
  | bl j=>cases ry;exact eq_bool (a7 I q u0)
  | str j=>obtain⟨t',rfl⟩:=ry;exact PySem.EqMixed.eq_bool_str (a7 I q (by simp))
  | _=>exact absurd (show false=true from hs) Qn
 | int i =>
  obtain⟨t,rfl⟩:=rx
  cases y with
  | non=>cases ry;exact PySem.EqNone.eq_int_none (a7 I q (by simp))
  | int j=>obtain⟨t',rfl⟩:=ry;exact eq_int (a7 I q qR)
  | str j=>obtain⟨t',rfl⟩:=ry;exact PySem.EqMixed.eq_int_str (a7 I q (by simp))
  | _=>exact absurd (show false=true from hs) Qn
 | str i =>
  obtain⟨t,rfl⟩:=rx
  cases y with
  | non=>cases ry;exact PySem.EqNone.eq_str_none (a7 I q (by simp))
  | bl j=>cases ry;exact PySem.EqMixed.eq_str_bool (a7 I q (by simp))
  | int j=>obtain⟨t',rfl⟩:=ry;exact PySem.EqMixed.eq_str_int (a7 I q (by simp))
  | str j=>obtain⟨t',rfl⟩:=ry;exact eq_str (a7 I q qQ)
  | _=>exact absurd (show false=true from hs) Qn
 | byt i =>
  obtain⟨t,rfl⟩:=rx
  cases y with
  | byt j=>obtain⟨t',rfl⟩:=ry;exact PySem.W.eq_bytes (a7 I q qS)
  | _=>exact absurd (show false=true from hs) Qn
 | _=>cases y <;> exact absurd (show false=true from hs) Qn
theorem ii:OpR X (compareOp .NotEq) rNe:=by
 intro pins s σ H x y v u Q I rx ry h;obtain⟨hs,q⟩:=h
 cases x with
 | non =>
  cases rx
  cases y with
  | non=>cases ry;exact PySem.EqNone.ne_none_none (a7 I q (by simp))
  | bl j=>cases ry;exact PySem.EqNone.ne_none_bool (a7 I q (by simp))
  | int j=>obtain⟨t',rfl⟩:=ry;exact PySem.EqNone.ne_none_int (a7 I q (by simp))
  | str j=>obtain⟨t',rfl⟩:=ry;exact PySem.EqNone.ne_none_str (a7 I q (by simp))
  | _=>exact absurd (show false=true from hs) Qn
 | bl i =>
  cases rx
  cases y with
  | non=>cases ry;exact PySem.EqNone.ne_bool_none (a7 I q (by simp))
  | bl j=>cases ry;exact ne_bool (a7 I q (congrArg not u0))
  | str j=>obtain⟨t',rfl⟩:=ry;exact PySem.EqMixed.ne_bool_str (a7 I q (by simp))
  | _=>exact absurd (show false=true from hs) Qn
 | int i =>
  obtain⟨t,rfl⟩:=rx
  cases y with
  | non=>cases ry;exact PySem.EqNone.ne_int_none (a7 I q (by simp))
  | int j=>obtain⟨t',rfl⟩:=ry;exact ne_int (a7 I q (congrArg not qR))
  | str j=>obtain⟨t',rfl⟩:=ry;exact PySem.EqMixed.ne_int_str (a7 I q (by simp))
  | _=>exact absurd (show false=true from hs) Qn
 | str i =>
  obtain⟨t,rfl⟩:=rx
  cases y with
  | non=>cases ry;exact PySem.EqNone.ne_str_none (a7 I q (by simp))
  | bl j=>cases ry;exact PySem.EqMixed.ne_str_bool (a7 I q (by simp))
  | int j=>obtain⟨t',rfl⟩:=ry;exact PySem.EqMixed.ne_str_int (a7 I q (by simp))
  | str j=>obtain⟨t',rfl⟩:=ry;exact ne_str (a7 I q (congrArg not qQ))
  | _=>exact absurd (show false=true from hs) Qn
 | byt i =>
  obtain⟨t,rfl⟩:=rx
  cases y with
  | byt j=>obtain⟨t',rfl⟩:=ry;exact PySem.W.ne_bytes (a7 I q (congrArg not qS))
  | _=>exact absurd (show false=true from hs) Qn
 | _=>cases y <;> exact absurd (show false=true from hs) Qn
theorem kL:OpR X (compareOp .Lt) (rI0 λi j=>.bl (decide (i<j))):=yb λ_ _ _ _ _ _ _ q=>lt_int q
theorem qE:OpR X (compareOp .Gt) (rI0 λi j=>.bl (decide (j<i))):=yb λ_ _ _ _ _ _ _ q=>gt_int q
theorem za:OpR X (compareOp .GtE) (rI0 λi j=>.bl (decide (j<=i))):=yb λ_ _ _ _ _ _ _ q=>ge_int q
theorem jk:OpR X (compareOp .Is) (λx y H Q=>y=.non/\Q (.bl (decide (x=.non))) H):=by
 intro pins s σ H x y v u Q I rx ry h;obtain⟨rfl,q⟩:=h;cases ry;refine is_none_gen (a7 I q ?_)
 cases x <;> first
  | (cases rx;rfl)
  | (obtain⟨t,rfl⟩:=rx;rfl)
theorem mj:OpR X (compareOp .IsNot) (λx y H Q=>y=.non/\Q (.bl (!decide (x=.non))) H):=by
 intro pins s σ H x y v u Q I rx ry h;obtain⟨rfl,q⟩:=h;cases ry;refine isnot_none_gen (a7 I q ?_)
 cases x <;> first
  | (cases rx;rfl)
  | (obtain⟨t,rfl⟩:=rx;rfl)
theorem OpR.or {f:Value->Value->Sem Value} {r r':R2} (h:OpR X f r) (h':OpR X f r'):OpR X f (λx y H Q=>r x y H Q\/r' x y H Q):=by
 intro pins s σ H x y v u Q I rx ry q;rcases q with q|q
 ·exact h pins s σ H x y v u Q I rx ry q
 exact h' pins s σ H x y v u Q I rx ry q
variable {op:CmpOp}
theorem aZ (b:Expr) (h:op≠.In:=by decide) (h2:op≠.NotIn:=by decide):behindInMarks op b=false:=by
 have e1:(op==CmpOp.In)=false:=by cases op <;> first|rfl|exact absurd rfl h
 have e2:(op==CmpOp.NotIn)=false:=by cases op <;> first|rfl|exact absurd rfl h2
 cases b <;> simp[behindInMarks,e1,e2]
theorem cD {r:R2} (ho:OpR X (compareOp op) r) (ha:PE X a ta) (hb:PE X b tb) (hm:behindInMarks op b=false):PE X (.Compare a [op] [b] pos) (tOp r ta tb):=by
 intro pins s σ H Q I h;exact wpAny_Compare1 (yI ha hb I h λv u s2 x y H2 I2 rx ry q=>ho pins s2 σ H2 x y v u Q I2 rx ry q) hm
def wo (t:TE):TT:=λσ H Q=>t σ H λx H'=>∃k,x=.bl k/\Q k H'
theorem aL {r:R2} (ho:OpR X (compareOp op) r) (ha:PE X a ta) (hb:PE X b tb) (hm:behindInMarks op b=false):PT X (.Compare a [op] [b] pos) (wo (tOp r ta tb)):=by
 intro pins s σ H Q I h
 refine wpAny_isTrue_Compare1 (thn (ha pins s σ H _ I h) λv s1 ⟨x,H1,I1,r1,q1⟩=>thn (hb pins s1 σ H1 _ I1 q1) λu s2 ⟨y,H2,I2,r2,q2⟩ =>
  thn (ho pins s2 σ H2 x y v u _ I2 r1 r2 q2) λc s3 ⟨z,H3,I3,r3,k,e,q3⟩=>?_) hm
 subst e;cases r3;exact wpAny_truthy_bool ⟨H3,I3,q3⟩
theorem hG:(sizeLine:Nat)<2 ^ 63:=by rw[sizeLine_eq];decide
theorem fU:OpR X (binaryOp .Add) (λx y H Q=>∃i j,x=.str i/\y=.str j/\i.length+j.length<=sizeLine/\Q (.str (i++j)) H):=by
 intro pins s σ H x y v u Q I rx ry h;obtain⟨i,j,rfl,rfl,hz,q⟩:=h;obtain⟨t,rfl⟩:=rx;obtain⟨t',rfl⟩:=ry;exact add_str (λt' tk=>⟨.str (i++j),H,I.tok _,⟨_,rfl⟩,q⟩) hz
theorem dy {x:V} {us:List Value} (r:aY [x] us):∃u,us=[u]/\aR x u:=by
 cases r with
 | cons r1 r2=>cases r2;exact⟨_,rfl,r1⟩
theorem np {x y:V} {us:List Value} (r:aY [x,y] us):∃u w',us=[u,w']/\aR x u/\aR y w':=by
 cases r with
 | cons r1 r2 =>
 cases r2 with
 | cons r3 r4=>cases r4;exact⟨_,_,rfl,r1,r3⟩
theorem sM (hc:X.calm=true):dN X (.builtin "max") (λxs H Q=>∃i j,xs=[.int i,.int j]/\Q (.int (if j>i then j else i)) H):=by
 intro pins s σ H xs us Q I r h;obtain⟨i,j,rfl,q⟩:=h;obtain⟨u,w',rfl,⟨t,rfl⟩,⟨t',rfl⟩⟩:=np r;refine max_two_ints (I.ok.hd hc) λh' tk k=>⟨_,H,I.kept k,?_,q⟩;by_cases hj:j>i
 ·rw[Qz hj,Qz hj];exact⟨_,rfl⟩
 rw[QA hj,QA hj];exact⟨_,rfl⟩
theorem ld (hc:X.calm=true):dN X (.builtin "min") (λxs H Q=>∃i j,xs=[.int i,.int j]/\Q (.int (if j<i then j else i)) H):=by
 intro pins s σ H xs us Q I r h;obtain⟨i,j,rfl,q⟩:=h;obtain⟨u,w',rfl,⟨t,rfl⟩,⟨t',rfl⟩⟩:=np r;refine min_two_ints (I.ok.hd hc) λh' tk k=>⟨_,H,I.kept k,?_,q⟩;by_cases hj:j<i
 ·rw[Qz hj,Qz hj];exact⟨_,rfl⟩
 rw[QA hj,QA hj];exact⟨_,rfl⟩
theorem lh:dN X (.type "int") (λxs H Q=>(∃i,xs=[.int i]/\Q (.int i) H)\/∃k,xs=[.bl k]/\Q (.int (if k then 1 else 0)) H):=by
 intro pins s σ H xs us Q I r h;rcases h with⟨i,rfl,q⟩|⟨k,rfl,q⟩
 ·obtain⟨u,rfl,t,rfl⟩:=dy r;exact call_int_int ⟨.int i,H,I,⟨_,rfl⟩,q⟩
 obtain⟨u,rfl,r1⟩:=dy r;cases r1;exact call_int_bool ⟨.int (if k then 1 else 0),H,I.tok _,⟨_,rfl⟩,q⟩
end
structure ObjM (h:Heap) (x dx C:Addr) (mA:Str->Option Value):Prop where
 obj:h.get? x=some (PySem.W.instObj C dx)
 ns:h.Ns1 dx mA
 ne:dx≠x
variable {mA mg:Str->Option Value}
theorem r8 {h:Heap} (n:h.Ns1 dx mA):∃od,h.get? dx=some od/\∀name,PySem.W.lookIn name od=some (mA name):=by
 obtain⟨o,es,ep,ho,hd,hk,_,hm⟩:=n;refine⟨o,ho,λname=>?_⟩;have e:=hm name;unfold nsFind findBy at e;rw[<-Array.find?_toList]at e;unfold PySem.W.lookIn;rw[hd];dsimp only
 split
 ·rename_i y q
  rw[q]at e;exact congrArg some e
 rename_i q
 rw[q]at e
 have a:es.toList.any (·.refKey)=false:=by
  rw[List.any_eq_false];intro y hy;obtain⟨z,t,hkey⟩:=hk y (Array.mem_toList_iff.mp hy);simp[DictEntry.refKey,hkey]
 have a':¬es.toList.any (·.refKey)=true:=by rw[a];exact Qn
 rw[QA a'];exact congrArg some e
theorem ObjM.look {h:Heap} {x:Addr} (I:ObjM h x dx C mA):∃od,PySem.W.InstAt h x (PySem.W.instObj C dx) C (some od)/\∀name,PySem.W.lookIn name od=some (mA name) :=
 let ⟨od,ho,hl⟩:=r8 I.ns
 ⟨od,⟨I.obj,rfl,rfl,ho⟩,hl⟩
section
variable {prog:Program} {w:World} {A:Around} {E:Value->Shared->Prop} {s:Shared} {K:PySem.W.Frag} {x dx C f:Addr} {mA:Str->Option Value} {name:Str} {v:Value}
end
theorem jW.some_of {v:V} {o:Option Value} (r:jW (some v) o):∃u,o=some u/\aR v u:=by
 cases o with
 | none=>exact(show False from r).elim
 | some u=>exact⟨u,rfl,r⟩
section
variable {P:Program} {w:World} {H H':Hp} {h h':Heap} {a C dx:Addr} {fs fs':List (Str × V)}
theorem vX (hok:HOk P w H h) (e:H a=some (.ins C dx fs)):∃mA,ObjM h a dx C mA/\(∀f,jW (fs.lookup f) (mA f))/\PySem.Within mA (fs.map (·.1))/\fs.length<=1000/\H dx=some (.own a):=by
 obtain⟨d,z,ne,ob,mA,n,r,q⟩:=(show bj P w H h a (.ins C dx fs) from hok a _ e);exact⟨mA,⟨ob,n,ne⟩,r,q,z,d⟩
end
structure Cls (K:PySem.W.Frag) (C:Addr):Prop where
 pg:PySem.W.plainGet K C Str.empty=true
 hd:PySem.W.hasDictIn K C=true
 po:PySem.W.plainOver K C=true
 sa:PySem.W.findIn K (.ref C) "__setattr__" = some (some (.builtin "object.__setattr__"))
theorem Cls.get (c:Cls K C) (f:Str):PySem.W.plainGet K C f=true:=c.pg
structure Con (K:PySem.W.Frag) (C:Addr) (f:Str) (v:V) (u:Value):Prop where
 at_:PySem.W.findIn K (.ref C) f=some (some u)
 rel:aR v u
 get:PySem.W.specialIn K u "__get__" = some none
 cp:PySem.W.copiedNames.contains f=false
structure Meth (K:PySem.W.Frag) (C:Addr) (m:Str) (f:Addr):Prop where
 at_:PySem.W.findIn K (.ref C) m=some (some (.ref f))
 fn:PySem.W.isFn K (.ref f)=true
 kp:PySem.W.keepIn K (.ref f)=true
section
variable {X:Cx} {pins:List (Addr × Obj)} {σ:St} {H:Hp} {s:Shared} {a C dx:Addr} {fs:List (Str × V)} {f:Str} {v:V} {A:Around} {E:Value->Shared->Prop}
end
section
variable {X:Cx} {o e value:Expr} {f:Str} {pos pos' tpos:Pos} {ta tv:TE}
end
section
variable {X:Cx} {pins:List (Addr × Obj)} {σ:St} {H:Hp} {s:Shared} {A:Around} {E:Value->Shared->Prop} {Q:Value->Shared->Prop} {c:Value} {b:Bool}
inductive TyOf (K:PySem.W.Frag) (H:Hp):V->Value->Prop where
 | non:TyOf K H .non (.type "NoneType")
 | bl (x:Bool):TyOf K H (.bl x) (.type "bool")
 | int (i:Int):TyOf K H (.int i) (.type "int")
 | str (x:Str):TyOf K H (.str x) (.type "str")
 | flt (x:UInt64):TyOf K H (.flt x) (.type "float")
 | lst {a:Addr} {xs:List V} (e:H a=some (.lst xs)):TyOf K H (.ref a) (.type "list")
 | frz {a:Addr} {o:Obj} {xs:List V} (e:H a=some (.frz o (.lst xs))):TyOf K H (.ref a) (.type "list")
 | tup {a:Addr} {xs:List V} (e:H a=some (.tup xs)):TyOf K H (.ref a) (.type "tuple")
 | dK {a:Addr} {kvs:List (Key × V)} (e:H a=some (.dK kvs)):TyOf K H (.ref a) (.type "dict")
 | dT {a:Addr} {kvs:List (List Key × V)} (e:H a=some (.dT kvs)):TyOf K H (.ref a) (.type "dict")
 | ins {a C dx:Addr} {fs:List (Str × V)} (e:H a=some (.ins C dx fs)) (cl:Cls K C) (ha:PySem.W.findIn K (.ref C) "__class__" = some (some (.builtin "object.__class__")))
   (hn:PySem.W.specialIn K (.builtin "object.__class__") "__get__" = some (some (.builtin "getset_descriptor.__get__"))) (htk:PySem.W.takesIn K (.builtin "object.__class__")=some true)
   (hm:PySem.W.mroIn K C (.type "object")=some true):TyOf K H (.ref a) (.ref C)
theorem sn {x:V} {u t:Value} (I:Inv X pins σ H s) (rx:aR x u) (ty:TyOf X.K H x t) (e:PySem.W.kitOne X.K t c=some b) (h:∀tk,Q (.bool b) { s with toks:=tk }) :
  wpAny (model X.prog X.w) A (call (.builtin "isinstance") [u,c]) Q E s:=by
 cases ty with
 | non=>cases (show u=Value.none from rx);exact Xz PySem.W.kitx_none I.kIn True.intro e (λz=>nomatch z) h
 | bl y=>cases (show u=Value.bool y from rx);exact Xz PySem.W.kitx_bool I.kIn True.intro e (λz=>nomatch z) h
 | int i=>obtain⟨t,q⟩:=(show ∃t,u=Value.int i t from rx);cases q;exact Xz PySem.W.kitx_int I.kIn True.intro e (λz=>nomatch z) h
 | str y=>obtain⟨t,q⟩:=(show ∃t,u=Value.str y t from rx);cases q;exact Xz PySem.W.kitx_str I.kIn True.intro e (λz=>nomatch z) h
 | flt y=>obtain⟨t,q⟩:=(show ∃t,u=Value.float y t from rx);cases q;exact Xz PySem.W.kitx_float I.kIn True.intro e (λz=>nomatch z) h
 | @lst a xs ea =>
  cases (show u=Value.ref a from rx);obtain⟨_,_,n,_,h1⟩:=(show bj X.prog X.w H s.heap a (.lst xs) from I.hok a _ ea);exact Xz PySem.W.kitx_list I.kIn ⟨_,h1,rfl⟩ e (λz=>nomatch z) h
 | @frz a ob xs ea =>
  cases (show u=Value.ref a from rx);obtain⟨_,_,_,n,_,h1⟩:=(show bj X.prog X.w H s.heap a (.frz ob (.lst xs)) from I.hok a _ ea);exact Xz PySem.W.kitx_list I.kIn ⟨_,h1,rfl⟩ e (λz=>nomatch z) h
 | @tup a xs ea =>
  cases (show u=Value.ref a from rx);obtain⟨_,_,_,p⟩:=(show bj X.prog X.w H s.heap a (.tup xs) from I.hok a _ ea);obtain⟨o,h1,h2,_⟩:=p;exact Xz PySem.W.kitx_tuple I.kIn ⟨o,h1,h2⟩ e (λz=>nomatch z) h
 | @dK a kvs ea =>
  cases (show u=Value.ref a from rx);obtain⟨_,_,vs,_,p⟩:=(show bj X.prog X.w H s.heap a (.dK kvs) from I.hok a _ ea);obtain⟨o,es,ep,h1,h2,_⟩:=p;exact Xz PySem.W.kitx_dict I.kIn ⟨o,h1,h2.1⟩ e (λz=>nomatch z) h
 | @dT a kvs ea =>
  cases (show u=Value.ref a from rx);obtain⟨_,_,xs,_,o,es,ep,h1,h2,_⟩:=(show bj X.prog X.w H s.heap a (.dT kvs) from I.hok a _ ea);exact Xz PySem.W.kitx_dict I.kIn ⟨o,h1,h2.1⟩ e (λz=>nomatch z) h
 | @ins a C dx fs ea cl ha hn htk hm =>
 cases (show u=Value.ref a from rx);obtain⟨mA,O,_⟩:=vX I.hok ea;obtain⟨od,J,_⟩:=O.look;exact Xz (PySem.W.kitx_own (cl.get _) cl.hd ha hn htk hm) I.kIn J e (λz=>nomatch z) h
end
structure Room (k:Nat) (A:Around):Prop where
 hd:A.handled=none
 dp:A.depth+3*k+5<recursionLimit
 un:A.units+16*k+200<cLine
theorem Room.mono {j k:Nat} (r:Room k A) (h:j<=k):Room j A:=⟨r.hd,by have:=r.dp;omega,by have:=r.un;omega⟩
theorem Room.deeper {k:Nat} (r:Room (k+1) A) (env:Env):Room k (A.deeper env) :=
 ⟨r.hd,by have:=r.dp;show A.depth+1+3*k+5<_;omega,by have:=r.un;show A.units+3+16*k+200<_;omega⟩
theorem Room.depth {k:Nat} (r:Room k A):A.depth<recursionLimit:=by have:=r.dp;omega
theorem Room.units {k:Nat} (r:Room k A):A.units+64<cLine:=by have:=r.un;omega
def lC:TA:=λ_ H Q=>Q [] H
def cE (ta:TE) (tr:TA):TA:=λσ H Q=>ta σ H λx H1=>tr σ H1 λxs H2=>Q (x::xs) H2
section
variable {X:Cx} {e:Expr} {es:List Expr} {te:TE} {t:TA} {pos:Pos}
theorem af:PA X [] lC:=λ_ _ _ _ H Q I h=>Calls.spliced_nil ⟨[],H,I,.nil,h⟩
theorem ad (ha:PE X e te) (hr:PA X es t) (hs:starEach (e::es) X.env=(false,eval e X.env)::starEach es X.env:=by rfl):PA X (e::es) (cE te t):=by
 intro pos pins s σ H Q I h;rw[hs];show wpAny _ _ (spliced ((false,eval e X.env)::backTo pos (starEach es X.env))) _ _ s;refine XQ (thn (ha pins s σ H _ I h) λu s1 ⟨x,H1,I1,r1,q1⟩=>?_);exact thn (hr pos pins s1 σ H1 _ I1 q1) λus s2 ⟨xs,H2,I2,r2,q2⟩=>⟨x::xs,H2,I2,.cons r1 r2,q2⟩
def xx (t:TA):TE:=λσ H Q=>t σ H λxs H1=>xs.length<=sizeLine/\∀p,H1 p=none->Q (.ref p) (upd H1 p (.tup xs))
def xB (t:TA):TE:=λσ H Q=>t σ H λxs H1=>xs.length<=sizeLine/\∀p,H1 p=none->Q (.ref p) (upd H1 p (.lst xs))
theorem be {x1} (h:PA X es t):PE X (.Tuple es x1 pos) (xx t):=by
 intro pins s σ H Q I hq;refine wpAny_Tuple_spliced (thn (h pos pins s σ H _ I hq) λus s1 ⟨xs,H1,I1,r,z,q⟩=>⟨by rw[<-r.length];exact z,?_⟩);have hf:H1 s1.heap.objs.size=none:=I1.hok.fresh (Qh _);refine⟨.ref s1.heap.objs.size,upd H1 s1.heap.objs.size (.tup xs),I1.laid (t':=s1.toks) (λb u e=>Qd _ e) (Qh _) ?_,rfl,q _ hf⟩;exact⟨z,us,r,⟨_,Qp _ rfl,rfl,_,rfl⟩⟩
theorem pe_lst (h:PA X es t):PE X (.List es pos) (xB t):=by
 intro pins s σ H Q I hq;refine wpAny_List_spliced (thn (h pos pins s σ H _ I hq) λus s1 ⟨xs,H1,I1,r,z,q⟩=>⟨by rw[<-r.length];exact z,?_⟩);have hf:H1 s1.heap.objs.size=none:=I1.hok.fresh (Qh _);refine⟨.ref s1.heap.objs.size,upd H1 s1.heap.objs.size (.lst xs),I1.laid (t':=s1.toks) (λb u e=>Qd _ e) (Qh _) ?_,rfl,q _ hf⟩;exact⟨z,us,0,r,Qp _ rfl⟩
end
abbrev Sp:=List V->Hp->VK->XK->Prop
abbrev CXT:=List Env->Hp->Shared->XK->Value->Shared->Prop
structure Env0 (P:Program) (w:World) (K:PySem.W.Frag) (mg:Str->Option Value) (base:Heap) (A:Around) (outer:List Env) (s:Shared) (H:Hp):Prop where
 frames:A.frames=some outer
 mod:Mod K mg base
 bs:∀b o,base.get? b=some o->s.heap.get? b=some o/\H b=none
 bsz:base.objs.size<=s.heap.objs.size
 funs:s.heap.FunFrames base outer
 frf:∀b∈frs outer,H b=none
 hok:HOk P w H s.heap
 bare:AllBare s.gens
def CE (outer:List Env) (P:Program) (w:World) (H:Hp) (s:Shared) (Q:VK) (u:Value) (s':Shared):Prop :=
 ∃v H',s'.os=s.os/\AllBare s'.gens/\Un (frs outer) [] H H' s.heap s'.heap/\HOk P w H' s'.heap/\aR v u/\Q v H'
def CR (CX:CXT) (outer:List Env) (P:Program) (w:World) (H:Hp) (s:Shared) (Q:VK) (E:XK) (r:Result) (s':Shared):Prop :=
 match r with
 | .ok (.ret u)=>CE outer P w H s Q u s'
 | .ok _=>False
 | .error e=>CX outer H s E e s'
structure FnOk (P:Program) (w:World) (K:PySem.W.Frag) (mg:Str->Option Value) (base:Heap) (CX:CXT) (k:Nat) (f:Addr) (fd:FuncData) (ps:List Str) (sp:Sp):Prop where
 len:∀vs H Q E,sp vs H Q E->vs.length=ps.length
 run:∀(A:Around) (outer:List Env) (s:Shared) (H:Hp) (args:Args) (us:List Value) (vs:List V) (Q:VK) (E:XK),Room k A->Env0 P w K mg base A outer s H->BindsTo s fd args (ps.zip us)->aY vs us->sp vs H Q E ->
  codeAny (model P w) A (.call (.ref f) args) (CR CX outer P w H s Q E) s
section
variable {X:Cx} {pins:List (Addr × Obj)} {σ:St} {H:Hp} {s s':Shared}
theorem Inv.env0 (I:Inv X pins σ H s):Env0 X.prog X.w X.K X.mg X.base X.A X.stack s H :=
 ⟨I.ok.frames,I.ok.mod,I.bs,QP I.ok.bsz I.sz,I.stack,I.stkFree,I.hok,I.bare⟩
theorem Inv.after {Q:VK} {u:Value} (I:Inv X pins σ H s) (h:CE X.stack X.prog X.w H s Q u s'):EP X pins σ Q u s':=by
 obtain⟨v,H',os,bare,un,hok,r,q⟩:=h;obtain⟨hh,g,d,t,os'⟩:=s';obtain rfl:os'=s.os:=os;exact⟨v,H',I.call (h':=hh) (g':=g) (d':=d) (t':=t) (ch:=[]) un hok bare (λb z=>absurd z (by simp)),r,q⟩
end
def kI (sp:Sp) (dvs:List V) (E:XK) (t:TA):TE:=λσ H Q=>t σ H λvs H1=>sp (vs++dvs) H1 Q E
def fM (K:PySem.W.Frag) (fd:FuncData) (ps:List Str) (ds:List Value):Prop :=
 ∀(s:Shared) (us:List Value),K.In s.heap->(us++ds).length=ps.length->BindsTo s fd ⟨us,[]⟩ (ps.zip (us++ds))
variable {ps N:List Str}
theorem fM.all {fd:FuncData} (h:∀us:List Value,us.length=ps.length->bindArgs fd ⟨us,[]⟩=pure (ps.zip us)):fM K fd ps []:=λs us _ hl=>by
 rw[List.append_nil]at hl ⊢;exact .of_eq (h us hl)
def jX (CX:CXT) (X:Cx) (E:XK):Prop:=∀(pins:List (Addr × Obj)) (σ:St) (H:Hp) (s:Shared) (e:Value) (s':Shared),Inv X pins σ H s->CX X.stack H s E e s'->X.xe e s'
section
variable {X:Cx} {CX:CXT} {k:Nat} {f C:Addr} {fd:FuncData} {ps:List Str} {sp:Sp} {dvs:List V} {ds:List Value} {E:XK} {x m:Str} {p pos apos:Pos} {e o:Expr} {es:List Expr} {ta:TE} {t:TA}
theorem xG {pins:List (Addr × Obj)} {σ:St} {H:Hp} {s:Shared} {Q:VK} {us:List Value} {vs:List V} (F:FnOk X.prog X.w X.K X.mg X.base CX k f fd ps sp) (hr:Room k X.A) (hb:fM X.K fd ps ds) (hd:aY dvs ds) (hx:jX CX X E)
  (I:Inv X pins σ H s) (r:aY vs us) (h:sp (vs++dvs) H Q E):wpAny (model X.prog X.w) X.A (call (.ref f) us) (EP X pins σ Q) X.xe s:=by
 have r2:aY (vs++dvs) (us++ds):=r.append hd;have hl:(us++ds).length=ps.length:=by rw[<-r2.length];exact F.len _ _ _ _ h
 refine wpAny_call (codeAny_mono (F.run X.A X.stack s H ⟨us,[]⟩ (us++ds) (vs++dvs) Q E hr I.env0 (hb s us I.kIn hl) r2 h) λr s' hq=>?_)
 cases r with
 | error e=>exact hx pins σ H s e s' I hq
 | ok fl =>
 cases fl with
 | ret u=>exact I.after hq
 | next=>exact False.elim hq
 | brk=>exact False.elim hq
 | cont=>exact False.elim hq
theorem vH (F:FnOk X.prog X.w X.K X.mg X.base CX k f fd ps sp) (hr:Room k X.A) (hg:Gl X x) (hm:X.mg x=some (.ref f)) (hk:PySem.W.keepIn X.K (.ref f)=true) (hb:fM X.K fd ps ds) (hd:aY dvs ds) (hx:jX CX X E)
  (ha:PA X (e::es) t) (hdb:(x==("__debug__" : Str))=false:=by decide) (he:starEach (e::es) X.env=(false,eval e X.env)::starEach es X.env:=by rfl) (hpl:(backTo pos (starEach es X.env)).any (·.1)=false:=by rfl) :
  PE X (.Call (.Name x p) (e::es) [] pos) (kI sp dvs E t):=by
 intro pins s σ H Q I h;refine wpAny_Call_Name_kw (mE I hg hm ?_ hdb);refine PySem.W.callWith_K (h₀:=X.base) I.ok.mod.kin hk (thn (ha pos pins s σ H _ I h) λus s1 ⟨vs,H1,I1,r,q⟩=>⟨I1.kIn,?_⟩) he hpl;exact xG F hr hb hd hx I1 r q
structure Mk (K:PySem.W.Frag) (C f:Addr):Prop where
 makes:PySem.W.makesIn K C=true
 init:PySem.W.findIn K (.ref C) "__init__" = some (some (.ref f))
 fn:PySem.W.isFn K (.ref f)=true
 kp:PySem.W.keepIn K (.ref C)=true
end
def PK (X:Cx) (kws:List Keyword) (t:TA):Prop :=
 ∀(pos:Pos) (pins:List (Addr × Obj)) (s:Shared) (σ:St) (H:Hp) (Q:List V->Hp->Prop),Inv X pins σ H s->t σ H Q->wpAny (model X.prog X.w) X.A (evalAll ((backToKw pos (keywordEach kws X.env)).map (·.2))) (AP X pins σ Q) X.xe s
section
variable {X:Cx} {CX:CXT} {k:Nat} {f C:Addr} {fd:FuncData} {ps ks:List Str} {sp:Sp} {E:XK} {x m:Str} {p pos apos kpos:Pos} {e o:Expr} {es:List Expr} {kws:List Keyword} {te ta:TE} {t tk:TA} {nm:Option Str}
theorem xO:PK X [] lC:=λ_ _ _ _ H Q I h=>wpAny_evalAll_nil ⟨[],H,I,.nil,h⟩
theorem vC (ha:PE X e te) (hr:PK X kws t):PK X (⟨nm,e,kpos⟩::kws) (cE te t):=by
 intro pos pins s σ H Q I h;show wpAny _ _ (evalAll ((do let v <-eval e X.env;standAt pos;pure v)::(backToKw pos (keywordEach kws X.env)).map (·.2))) _ _ s;refine wpAny_evalAll_cons (Qa (thn (ha pins s σ H _ I h) λu s1 ⟨x,H1,I1,r1,q1⟩=>Qa (wpAny_standAt (Qf ?_))));exact thn (hr pos pins s1 σ H1 _ I1 q1) λus s2 ⟨xs,H2,I2,r2,q2⟩=>⟨x::xs,H2,I2,.cons r1 r2,q2⟩
structure KBinds (K:PySem.W.Frag) (fd:FuncData) (ps ks:List Str) (g:List Value->List Value->List Value) (gV:List V->List V->List V):Prop where
 to:∀(s:Shared) (us ws:List Value),K.In s.heap->(g us ws).length=ps.length->BindsTo s fd ⟨us,ks.zip ws⟩ (ps.zip (g us ws))
 rel:∀{vs:List V} {us:List Value} {zs:List V} {ws:List Value},aY vs us->aY zs ws->aY (gV vs zs) (g us ws)
variable {g:List Value->List Value->List Value} {gV:List V->List V->List V}
end
structure FnScope (N P:List Str) (sc:Scope):Prop where
 kind:sc.kind=.function
 co:sc.isCoroutine=false
 gen:sc.isGenerator=false
 nd:N.Nodup
 pre:N.take P.length=P
 par:∀x∈P,sc.names.lookup x=some .local\/sc.names.lookup x=some .cell
 nofree:∀y∈sc.names,y.2≠.free
theorem lm {kindOf:Str->Option NameKind} {x:Str}:∀{binds:List (Str × Value)} {m:Str->Option Value},(∀v,(x,v)∉binds)->bindL kindOf binds m x=m x
 | [],_,_=>rfl
 | (n,v)::r,m,h=>by
  unfold bindL;rw[lm λw hw=>h w (Qq _ hw)]
  split
  ·have:x≠n:=by rintro rfl;exact h v Xd
   simp[this]
  rfl
theorem lq {kindOf:Str->Option NameKind} {x:Str}:∀{binds:List (Str × Value)} {m:Str->Option Value},(∀v,(x,v)∉binds)->bindC kindOf binds m x=m x
 | [],_,_=>rfl
 | (n,v)::r,m,h=>by
  unfold bindC;rw[lq λw hw=>h w (Qq _ hw)]
  split
  ·rfl
  have:x≠n:=by rintro rfl;exact h v Xd
  simp[this]
theorem lp {kindOf:Str->Option NameKind} {x:Str} {v:Value}:∀{P:List Str} {vs:List Value} {i:Nat} {m:Str->Option Value},P.Nodup->P[i]?=some x->vs[i]?=some v->kindOf x=some .local ->
  bindL kindOf (P.zip vs) m x=some v
 | [],_,_,_,_,h,_,_=>by simp at h
 | _::_,[],_,_,_,_,h,_=>by simp at h
 | p::P,w::vs,0,m,nd,h1,h2,hk=>by
  simp at h1 h2;subst h1;subst h2;show bindL kindOf ((p,w)::P.zip vs) m p=_;unfold bindL;rw[lm λv hv=>(Xi.mp nd).1 (List.of_mem_zip hv).1,Qz hk];simp
 | p::P,w::vs,i+1,m,nd,h1,h2,hk=>by
  show bindL kindOf ((p,w)::P.zip vs) m x=_;unfold bindL;exact lp (i:=i) (Xi.mp nd).2 (by simpa using h1) (by simpa using h2) hk
theorem lr {kindOf:Str->Option NameKind} {x:Str} {v:Value}:∀{P:List Str} {vs:List Value} {i:Nat} {m:Str->Option Value},P.Nodup->P[i]?=some x->vs[i]?=some v->kindOf x≠some .local ->
  bindC kindOf (P.zip vs) m x=some v
 | [],_,_,_,_,h,_,_=>by simp at h
 | _::_,[],_,_,_,_,h,_=>by simp at h
 | p::P,w::vs,0,m,nd,h1,h2,hk=>by
  simp at h1 h2;subst h1;subst h2;show bindC kindOf ((p,w)::P.zip vs) m p=_;unfold bindC;rw[lq λv hv=>(Xi.mp nd).1 (List.of_mem_zip hv).1,QA hk];simp
 | p::P,w::vs,i+1,m,nd,h1,h2,hk=>by
  show bindC kindOf ((p,w)::P.zip vs) m x=_;unfold bindC;exact lr (i:=i) (Xi.mp nd).2 (by simpa using h1) (by simpa using h2) hk
def start (N:List Str) (vs:List V):St:=vs.map some++List.replicate (N.length-vs.length) none
noncomputable def cxOf (CX:CXT) (P:Program) (w:World) (K:PySem.W.Frag) (mg:Str->Option Value) (base:Heap) (N:List Str) (qual:Str) (scope:Scope) (f:Addr) (cd:Value) (A:Around) (outer:List Env) (s:Shared) (H:Hp) (E:XK):Cx where
 prog:=P
 w:=w
 K:=K
 mg:=mg
 base:=base
 A:=A.deeper (envOfC qual scope s.heap.objs.size f cd)
 N:=N
 s₀:=s
 H₀:=H
 env:=envOfC qual scope s.heap.objs.size f cd
 outer:=outer
 stack:=envOfC qual scope s.heap.objs.size f cd::outer
 ex:=[]
 calm:=true
 fn:=λ_=>true
 pn:=[]
 xe:=λe s'=>wpAny (model P w) (A.deeper (envOfC qual scope s.heap.objs.size f cd)) (leaving (envOfC qual scope s.heap.objs.size f cd) e) (λ_ s''=>CX outer H s E e s'') (λe' s''=>CX outer H s E e' s'') s'
variable {sc scope:Scope}
theorem oH {n:Nat} {x:Str} (h:sc.names.lookup x=some .cell):∃c,(cellsFrom n sc.names []).lookup x=some c:=by
 have q:=PySem.W.cellsFrom_some sc.names n [] (.inl h);exact Option.isSome_iff_exists.mp q
theorem sq {CX:CXT} {base:Heap} {qual:Str} {outer:List Env} {E:XK} {us:List Value} {vs:List V}
  (S:FnScope N ps scope) (hd:A.handled=none) (e0:Env0 P w K mg base A outer s H) (hl:vs.length=ps.length) (r:aY vs us)
  (x:InCallC s s.heap.objs.size (bindL (envOfC qual scope s.heap.objs.size f cd).kindOf (ps.zip us) λ_=>none) (cellsFrom (s.heap.objs.size+1) scope.names []) (bindC (envOfC qual scope s.heap.objs.size f cd).kindOf (ps.zip us) λ_=>none) s1) :
  Inv (cxOf CX P w K mg base N qual scope f cd A outer s H E) [] (start N vs) H s1:=by
 have hpl:ps.length<=N.length:=by have:=congrArg List.length S.pre;rw[Qv]at this;omega
 obtain⟨h1,tk,rfl,hk⟩:=x.done;have noA:∀b:Addr,b∉(cxOf CX P w K mg base N qual scope f cd A outer s H E).ex:=λb z=>absurd (show b∈([]:List Addr) from z) (by simp)
 refine⟨⟨e0.mod,S.kind,rfl,rfl,Qh _,λy z c h1 h2=>?_,λy hy=>?_,λy c _ h=>?_,λ_=>hd,Around.frames_deeper e0.frames,.inr ⟨rfl,rfl⟩,λb z=>absurd z (noA b),e0.bs,e0.bsz,λb _ _=>noA b,λb z=>absurd z (noA b),e0.funs,e0.frf⟩,
  rfl,e0.bare,Un.kept hk,⟨_,x.toInCall.ns,λi y v h1 h2 h3=>?_⟩,λy c h=>⟨_,x.cell y c h⟩,e0.hok.fresh (Qh _),λy c h=>?_,λp hp=>absurd (show p∈([]:List (Addr × Obj)) from hp) (by simp),e0.hok.kept hk,?_⟩
 ·exact name_of_addr x.apart (PySem.mem_of_lookup h1) (PySem.mem_of_lookup h2)
 ·have hy:scope.names.lookup y=some .cell\/scope.names.lookup y=some .free:=hy;rcases hy with hy|hy
  ·exact oH hy
  exact absurd rfl (S.nofree _ (PySem.mem_of_lookup hy))
 ·exact XH (x.above y c (PySem.mem_of_lookup h))
 ·have hi:i<vs.length:=by
   unfold start at h2;by_cases hi:i<vs.length
   ·exact hi
   rw[QN (by simpa using hi)]at h2;rw[List.getElem?_replicate]at h2
   split at h2 <;> cases h2
  have ha:vs[i]?=some v:=by
   unfold start at h2;rw[QT (by simpa using hi),Qi]at h2
   cases e:vs[i]? with
   | none=>rw[e]at h2;cases h2
   | some a=>rw[e]at h2;cases h2;rfl
  obtain⟨u,hu,rv⟩:=r.get ha
  have hp:ps[i]?=some y:=by
   rw[<-S.pre,List.getElem?_take_of_lt (by omega)];exact h1
  have ndP:ps.Nodup:=by rw[<-S.pre];exact S.nd.sublist (List.take_sublist _ _)
  refine⟨u,rv,?_⟩;rcases S.par y (Qg hp) with k|k
  ·exact .inl ⟨k,lp ndP hp hu k⟩
  obtain⟨c,e⟩:=oH (n:=s.heap.objs.size+1) k;refine .inr ⟨.inl k,c,e,?_⟩;have q:=x.cell y c e;rw[lr ndP hp hu (by show scope.names.lookup y≠_;rw[k];decide)]at q;exact q
 ·exact e0.hok.fresh (XH (x.above y c (PySem.mem_of_lookup h)))
 unfold start;show _=N.length;rw[Qj,Qc,List.length_replicate];omega
theorem xo {CX:CXT} {base:Heap} {k:Nat} {name qual:Str} {params:Arguments} {body:List Stmt} {kV:Value} {an od:Option Addr}
  {osl:Array (Option Value)} {sp:Sp} (lk:K.lookup f=some ⟨oc,od,.func (PySem.W.fnOf name qual params body scope dV kV doc pm an cdv ct),osl⟩) (hcd:PySem.W.codeIn K cdv qual=true) (S:FnScope N ps scope)
  (len:∀vs H Q E,sp vs H Q E->vs.length=ps.length)
  (hbody:∀(A:Around) (outer:List Env) (s:Shared) (H:Hp) (vs:List V) (Q:VK) (E:XK),Room k (A.deeper (envOfC qual scope s.heap.objs.size f cdv))->sp vs H Q E ->
   ∃t,PSs (cxOf CX P w K mg base N qual scope f cdv A outer s H E) body t/\t { nx:=λ_ H'=>Q .non H',rt:=Q } (start N vs) H) :
  FnOk P w K mg base CX (k+1) f (PySem.W.fnOf name qual params body scope dV kV doc pm an cdv ct) ps sp:=by
 refine⟨len,λA outer s H args us vs Q E hr e0 hb r hsp=>?_⟩;have hl:=len _ _ _ _ hsp;have KX:K.In s.heap:=e0.mod.kin.keeps λb o e=>(e0.bs b o e).1;have lim:s.heap.NoLimit:=e0.mod.nolimit.keeps λb o e=>(e0.bs b o e).1
 have hkind:∀y∈ps.zip us,scope.names.lookup y.1=some .local\/(scope.names.lookup y.1=some .cell/\((cellsFrom (s.heap.objs.size+1) scope.names []).lookup y.1).isSome=true):=λ⟨n,v⟩ hy=>by
  rcases S.par n (List.of_mem_zip hy).1 with q|q
  ·exact .inl q
  exact .inr ⟨q,PySem.W.cellsFrom_some _ _ _ (.inl q)⟩
 refine codeAny_call_function hr.depth (KX _ _ lk) rfl S.co S.gen rfl (PySem.W.codeRec_of KX hcd) (hb _ _ _ _ ?_);refine wpAny_newFunctionEnv_cells S.kind hkind λenv he s1 x=>?_;subst he;refine⟨lim.keeps x.toInCall.keep,codeAny_func ?_⟩;obtain⟨t,ht,hq⟩:=hbody A outer s H vs Q E (hr.deeper _) hsp;have I:Inv (cxOf CX P w K mg base N qual scope f cdv A outer s H E) [] (start N vs) H s1:=sq S hr.hd e0 hl r x;refine Xn (ht [] s1 (start N vs) H _ I hq) (λfl s' hs=>?_) λe s' hs=>hs
 have fin:∀{σ':St} {H':Hp} {v:V} {u:Value},Inv (cxOf CX P w K mg base N qual scope f cdv A outer s H E) [] σ' H' s'->aR v u->Q v H'->CE outer P w H s Q u s' :=
  λ{σ' H' v u} J rv q=>⟨v,H',J.os,J.bare,J.base,J.hok,rv,q⟩
 cases fl with
 | ret u =>
  obtain⟨v,σ',H',J,rv,q⟩:=hs;exact fin J rv q
 | next =>
  obtain⟨σ',H',J,q⟩:=hs;exact fin (v:=V.non) (u:=Value.none) J rfl q
 | brk =>
  obtain⟨_,_,_,q⟩:=hs;exact False.elim q
 | cont =>
 obtain⟨_,_,_,q⟩:=hs;exact False.elim q
section
variable {X:Cx} {x:Str} {p pos:Pos} {e:Expr} {es:List Expr} {t:TA} {id T:String} {r:List V->Hp->VK->Prop}
def tCB (r:List V->Hp->VK->Prop) (t:TA):TE:=λσ H Q=>t σ H λvs H1=>r vs H1 Q
theorem aK (hc:dN X (.builtin id) r) (hg:Gl X x) (hm:X.mg x=none) (hv:bootBuiltins x=some (.builtin id)) (ha:PA X (e::es) t) (hn:x ≠ "__name__" := by decide) (hdb:(x==("__debug__" : Str))=false:=by decide)
  (he:starEach (e::es) X.env=(false,eval e X.env)::starEach es X.env:=by rfl) (hpl:(backTo pos (starEach es X.env)).any (·.1)=false:=by rfl):PE X (.Call (.Name x p) (e::es) [] pos) (tCB r t):=by
 intro pins s σ H Q I h;refine wpAny_Call_Name_kw (ck I hg hm hv ?_ hn hdb);exact PyProof.Rows.callWith_builtin1 (thn (ha pos pins s σ H _ I h) λus s1 ⟨vs,H1,I1,r1,q1⟩=>hc pins s1 σ H1 vs us Q I1 r1 q1) he hpl
theorem cU (hc:dN X (.type T) r) (hg:Gl X x) (hm:X.mg x=none) (hv:bootBuiltins x=some (.type T)) (ha:PA X (e::es) t) (hn:x ≠ "__name__" := by decide) (hdb:(x==("__debug__" : Str))=false:=by decide)
  (he:starEach (e::es) X.env=(false,eval e X.env)::starEach es X.env:=by rfl) (hpl:(backTo pos (starEach es X.env)).any (·.1)=false:=by rfl):PE X (.Call (.Name x p) (e::es) [] pos) (tCB r t):=by
 intro pins s σ H Q I h;refine wpAny_Call_Name_kw (ck I hg hm hv ?_ hn hdb);exact QV (thn (ha pos pins s σ H _ I h) λus s1 ⟨vs,H1,I1,r1,q1⟩=>hc pins s1 σ H1 vs us Q I1 r1 q1) he hpl
end
end L2
namespace HT
open PySem PyProof.Rows
section
open PySem.SeqAt
open PySem.AutoSeq1 (wpAny_loadPart')
open PySem.MeetsSeq PySem.MeetsSeq2 PySem.MeetsSeq3
end
section
variable {prog:Program} {w:World} {A:Around} {E:Value->Shared->Prop} {s:Shared}
def sIx (n d:Nat):Option Int->Nat
 | none=>d
 | some v=>if v<0 then (v+(n:Int)).toNat else min v.toNat n
theorem nN (n d:Nat):sIx n d none=d:=rfl
theorem qq (n d k:Nat):sIx n d (some (k:Int))=min k n:=by
 show (if (k:Int)<0 then ((k:Int)+(n:Int)).toNat else min (k:Int).toNat n)=min k n;rw[QA (by omega),Xu]
end
end HT
namespace L2
open PySem PySem.Spec PyProof.Rows
abbrev TO:=St->Hp->(Option Int->Hp->Prop)->Prop
def PO (X:Cx) (e:Option Expr) (t:TO):Prop :=
 ∀(pins:List (Addr × Obj)) (s:Shared) (σ:St) (H:Hp) (Q:Option Int->Hp->Prop),Inv X pins σ H s->t σ H Q ->
  wpAny (model X.prog X.w) X.A (evalPart e X.env) (λu s'=>∃o H',Inv X pins σ H' s'/\IsPart u o/\Q o H') X.xe s
def qi:TO:=λ_ H Q=>Q none H
def wq (t:TE):TO:=λσ H Q=>t σ H λx H1=>∃i,x=.int i/\Q (some i) H1
section
variable {X:Cx} {e:Expr} {te:TE} {lo hi:Option Expr} {tl th:TO} {pos p2:Pos}
theorem gu:PO X none qi:=by
 intro pins s σ H Q I h;rw[evalPart_none];exact Qf ⟨none,H,I,.none,h⟩
theorem gt (h:PE X e te):PO X (some e) (wq te):=by
 intro pins s σ H Q I hw;rw[evalPart_some];refine thn (h pins s σ H _ I hw) λu s1 ⟨x,H1,I1,r1,q1⟩=>?_;obtain⟨i,rfl,q⟩:=q1;obtain⟨t,rfl⟩:=r1;exact⟨some i,H1,I1,.int i t,q⟩
def SlR (X:Cx) (r:V->Option Int->Option Int->Hp->VK->Prop):Prop :=
 ∀(pins:List (Addr × Obj)) (s:Shared) (σ:St) (H:Hp) (x:V) (v vl vu:Value) (lo hi:Option Int) (sl:Addr) (Q:VK),Inv X pins σ H s->aR x v->s.heap.IsSliceOf sl vl vu .none->IsPart vl lo->IsPart vu hi->r x lo hi H Q ->
  ∃T id,typeLookup (.type T) "__getitem__" = pure (some (.builtin id))/\s.TypeIs v T/\wpAny (model X.prog X.w) X.A (getItem v (.ref sl)) (EP X pins σ Q) X.xe s
def tSl (r:V->Option Int->Option Int->Hp->VK->Prop) (te:TE) (tl th:TO):TE:=λσ H Q=>te σ H λx H1=>tl σ H1 λl H2=>th σ H2 λu H3=>r x l u H3 Q
theorem eU {r:V->Option Int->Option Int->Hp->VK->Prop} (hr:SlR X r) (he:PE X e te) (hl:PO X lo tl) (hu:PO X hi th):PE X (.Subscript e (.Slice lo hi none p2) pos) (tSl r te tl th):=by
 intro pins s σ H Q I h;refine Subscript_ (thn (he pins s σ H _ I h) λv s1 ⟨x,H1,I1,r1,q1⟩=>?_);refine wpAny_Slice (thn (hl pins s1 σ H1 _ I1 q1) λvl s2 ⟨l,H2,I2,pl,q2⟩=>thn (hu pins s2 σ H2 _ I2 q2) λvu s3 ⟨u,H3,I3,pu,q3⟩=>?_);rw[evalPart_none];refine Qf ?_;have I4:Inv X pins σ H3 { s3 with heap:=s3.heap.push { cls:=.type "slice", data:=.fields #[vl,vu,.none] } }:=I3.kept (t':=s3.toks) λb ob q=>Qd _ q;obtain⟨T,id,hT,ht,hg⟩:=hr pins { s3 with heap:=s3.heap.push { cls:=.type "slice", data:=.fields #[vl,vu,.none] } } σ H3 x v vl vu l u s3.heap.objs.size Q I4 r1 (Heap.IsSliceOf.new ..) pl pu q3;show wpAny (model X.prog X.w) X.A (subscriptTail e (.Slice lo hi none p2) v (.ref s3.heap.objs.size)) (EP X pins σ Q) X.xe { s3 with heap:=s3.heap.push { cls:=.type "slice", data:=.fields #[vl,vu,.none] } };exact tail_any (ops:=[.ref s3.heap.objs.size,v]) ht hT hg (by with_unfolding_all rfl)
def mN (xs:List V) (lo hi:Option Int):List V:=(xs.drop (HT.sIx xs.length 0 lo)).take (HT.sIx xs.length xs.length hi-HT.sIx xs.length 0 lo)
theorem oE (xs:List V) (lo hi:Option Int):(mN xs lo hi).length<=xs.length:=by
 unfold mN;rw[Qv,Xc];omega
end
def ixN (n:Nat) (i:Int):Option Nat:=if 0<=i then (if i<n then some i.toNat else none) else if -(n:Int)<=i then some (i+n).toNat else none
def atI {α:Type} (xs:List α) (i:Int):Option α:=(ixN xs.length i).bind λj=>xs[j]?
theorem gD {n:Nat} {i:Int} {j:Nat} (h:ixN n i=some j):seqIndex? i n=some j/\j<n/\-(n:Int)<=i/\i<n:=by
 unfold ixN at h;by_cases h0:0<=i
 ·rw[Qz h0]at h;by_cases h1:i<n
  ·rw[Qz h1]at h;have e:i.toNat=j:=QX h;exact⟨by rw[seqIndex_of h0 h1,e],by omega,by omega,h1⟩
  rw[QA h1]at h;cases h
 rw[QA h0]at h;by_cases h1:-(n:Int)<=i
 ·rw[Qz h1]at h;have e:(i+n).toNat=j:=QX h;exact⟨by rw[seqIndex_neg (by omega) h1,e],by omega,h1,by omega⟩
 rw[QA h1]at h;cases h
theorem mW {α:Type} {xs:List α} {i:Int} {v:α} (h:atI xs i=some v):∃j,seqIndex? i xs.length=some j/\xs[j]?=some v/\j<xs.length/\-(xs.length:Int)<=i/\i<xs.length:=by
 unfold atI at h
 cases e:ixN xs.length i with
 | none=>rw[e]at h;cases h
 | some j =>
 rw[e]at h;obtain⟨h1,h2,h3,h4⟩:=gD e;exact⟨j,h1,h,h2,h3,h4⟩
theorem dj {α:Type} {xs:List α} {j:Nat} {v:α} (h:xs[j]?=some v):atI xs (j:Int)=some v:=by
 have hj:j<xs.length:=(Qe.mp h).1
 have e:ixN xs.length (j:Int)=some j:=by
  unfold ixN;rw[Qz (by omega),Qz (by omega)];simp
 unfold atI;rw[e];exact h
def wg (b:Expr):Prop:=∀o i,subscripted b false o i=operate [o,i] (getItem o i)
def IxR (X:Cx) (r:R2):Prop :=
 ∀(value slice:Expr) (pins:List (Addr × Obj)) (s:Shared) (σ:St) (H:Hp) (x y:V) (v u:Value) (Q:VK),Inv X pins σ H s->aR x v->aR y u->r x y H Q ->
  subscripted slice false v u=operate [v,u] (getItem v u)->wpAny (model X.prog X.w) X.A (subscriptTail value slice v u) (EP X pins σ Q) X.xe s
def MtR (X:Cx) (id:String) (r:V->List V->Hp->VK->Prop):Prop :=
 ∀(pins:List (Addr × Obj)) (s:Shared) (σ:St) (H:Hp) (x:V) (xs:List V) (v:Value) (us:List Value) (Q:VK),Inv X pins σ H s->aR x v->aY xs us->r x xs H Q ->
  wpAny (model X.prog X.w) X.A (call (.builtin id) (v::us)) (EP X pins σ Q) X.xe s
section
variable {X:Cx} {a b:Expr} {ta tb:TE} {pos:Pos}
theorem aD {r:R2} (hr:IxR X r) (ha:PE X a ta) (hb:PE X b tb) (hs:wg b:=by exact λ_ _=>rfl):PE X (.Subscript a b pos) (tOp r ta tb):=by
 intro pins s σ H Q I h;exact Subscript_ (yI ha hb I h λv u s2 x y H2 I2 rx ry q=>hr a b pins s2 σ H2 x y v u Q I2 rx ry q (hs _ _))
def vz (K:PySem.W.Frag):R2:=λx y H Q=>∃p xs i v,x=.ref p/\y=.int i/\SqL K H p xs/\atI xs i=some v/\Q v H
def pj (K:PySem.W.Frag):R2:=λx y H Q=>∃p xs i v,x=.ref p/\y=.int i/\SqT K H p xs/\atI xs i=some v/\Q v H
def xJ:R2:=λx y H Q=>∃z i c,x=.str z/\y=.int i/\z.length<=sizeLine/\atI z.cps.toList i=some c/\Q (.str ⟨#[c]⟩) H
theorem bo:IxR X (vz X.K):=by
 intro value slice pins s σ H x y v u Q I rx ry h hs;obtain⟨p,xs,i,z,rfl,rfl,hq,he,q⟩:=h;cases rx;obtain⟨t,rfl⟩:=ry;obtain⟨its,r,pl,hz⟩:=I.list hq;obtain⟨j,h1,h2,h3,h4,h5⟩:=mW he;obtain⟨w,ew,rw'⟩:=r.get h2;have hl:=r.length;have hn:=hG;have fin:EP X pins σ Q w s:=⟨z,H,I,rw',q⟩;by_cases h0:0<=i
 ·have hj:i.toNat=j:=by
   rw[seqIndex_of h0 h5]at h1;exact QX h1
  exact item_listR pl.isList h0 (by omega) (by rw[hj];simpa using ew) fin hs
 have hj:(i+(its.toArray.size:Int)).toNat=j:=by
  rw[seqIndex_neg (by omega) h4]at h1;rw[Qk,<-hl];exact QX h1
 exact subscriptTail_builtinR (x:=w) pl.isList.typeIs slot_list_getitem.lookup
  (wpAny_getItem_list_neg (Q:=λr s'=>r=w/\EP X pins σ Q r s') pl.isList (by omega) (by rw[Qk] <;> omega) (by omega) (by rw[hj];simpa using ew) ⟨rfl,fin⟩) hs
theorem aH:IxR X (pj X.K):=by
 intro value slice pins s σ H x y v u Q I rx ry h hs;obtain⟨p,xs,i,z,rfl,rfl,hq,he,q⟩:=h;cases rx;obtain⟨t,rfl⟩:=ry;obtain⟨its,r,pl,hz⟩:=I.tuple hq;obtain⟨j,h1,h2,h3,h4,h5⟩:=mW he;obtain⟨w,ew,rw'⟩:=r.get h2;have hl:=r.length;have hn:=hG;have fin:EP X pins σ Q w s:=⟨z,H,I,rw',q⟩
 exact subscriptTail_builtinR (x:=w) pl.typeIs slot_tuple_getitem.lookup
  (getItem_tuple (j:=j) (Q:=λr s'=>r=w/\EP X pins σ Q r s') pl (by omega) (by omega) (by rw[Qk,<-hl];exact h1) (by simpa using ew) ⟨rfl,fin⟩) hs
theorem jG:IxR X xJ:=by
 intro value slice pins s σ H x y v u Q I rx ry h hs;obtain⟨z,i,c,rfl,rfl,hz,he,q⟩:=h;obtain⟨t,rfl⟩:=rx;obtain⟨t',rfl⟩:=ry;obtain⟨j,h1,h2,h3,h4,h5⟩:=mW he;have hl:z.cps.toList.length=z.length:=by simp[Str.length]
 rw[hl]at h1 h4 h5;have hn:=hG
 exact tail_any (typeIs_str s z t) slot_str_getitem.lookup (getItem_str (c:=c) (by
  have e1:decide (i < -(2 ^ 63:Int))=false:=QI (by omega);have e2:decide (i>=2 ^ 63)=false:=QI (by omega)
  rw[e1,e2,Bool.or_false]) (by rw[h1];simpa using h2) ⟨.str ⟨#[c]⟩,H,I.tok _,⟨_,rfl⟩,q⟩) hs
theorem pK (its:List Value) (n j:Nat) (u:Value):Obj.mapSeq (·.setIfInBounds j u) { cls:=.type "list", data:=.seq its.toArray n }={ cls:=.type "list", data:=.seq (its.set j u).toArray n }:=by
 simp[Obj.mapSeq]
variable {s:Shared} {pins:List (Addr × Obj)}
theorem Inv.lst {σ:St} {H:Hp} {p:Addr} {xs:List V} (I:Inv X pins σ H s) (h:H p=some (.lst xs)) :
  ∃(its:List Value) (n:Nat),aY xs its/\s.heap.get? p=some { cls:=.type "list", data:=.seq its.toArray n }/\xs.length<=sizeLine:=by
 obtain⟨z,its,n,r,e⟩:=I.hok p _ h;exact⟨its,n,r,e,z⟩
theorem Inv.lstUpd {σ:St} {H:Hp} {p:Addr} {xs ys:List V} {its its':List Value} {n n':Nat} {f:Obj->Obj} (I:Inv X pins σ H s) (h:H p=some (.lst xs))
  (ho:s.heap.get? p=some { cls:=.type "list", data:=.seq its.toArray n }) (hf:f { cls:=.type "list", data:=.seq its.toArray n }={ cls:=.type "list", data:=.seq its'.toArray n' }) (r:aY ys its') (hz:ys.length<=sizeLine) (t:Nat) :
  Inv X pins σ (upd H p (.lst ys)) { s with heap:=s.heap.update p f,toks:=t }:=by
 have e:(s.heap.update p f).get? p=some { cls:=.type "list", data:=.seq its'.toArray n' }:=by
  rw[Xw f ho (by rw[hf] <;> rfl),hf]
 refine I.write (x:=p) (e:=p) (by rw[h];trivial) (.inl rfl) (λb u hb q=>(Q4 _ _ (XI hb)).trans q) ⟨_,e⟩ ?_;exact⟨hz,its',n',r,e⟩
def wF:V->V->V->Hp->(Hp->Prop)->Prop:=λo i v H Q=>∃p xs k j,o=.ref p/\i=.int k/\H p=some (.lst xs)/\ixN xs.length k=some j/\Q (upd H p (.lst (xs.set j v)))
theorem nw:B4 X wF:=by
 intro pins s σ H o i v ov iv u Q I ro ri rv h;obtain⟨p,xs,k,j,rfl,rfl,hp,hj,q⟩:=h;cases ro;obtain⟨t,rfl⟩:=ri;obtain⟨its,n,r,ho,hz⟩:=I.lst hp;obtain⟨h1,h2,h3,h4⟩:=gD hj;have hl:=r.length;have hn:=hG
 have I':Inv X pins σ (upd H p (.lst (xs.set j v))) { s with heap:=s.heap.update p (Obj.mapSeq (·.setIfInBounds j u)) } :=
  I.lstUpd hp ho (pK its n j u) (r.set rv j) (by rw[List.length_set];exact hz) s.toks
 by_cases h0:0<=k
 ·have hk:k.toNat=j:=by
   rw[seqIndex_of h0 h4]at h1;exact QX h1
  exact PySem.W.ki_setAt ho h0 (by omega) (by rw[Qk,<-hl];exact h4) (by rw[hk];exact⟨_,I',q⟩)
 have hk:(k+(its.toArray.size:Int)).toNat=j:=by
  rw[seqIndex_neg (by omega) h3]at h1;rw[Qk,<-hl];exact QX h1
 exact PySem.W.ki_setBack ho (by omega) (by rw[Qk,<-hl];exact h3) (by omega) (by rw[hk];exact⟨_,I',q⟩)
theorem wB (i:Int) (n:Nat):max 0 (min (if i<0 then i+(n:Int) else i) (n:Int))=(((if i<0 then (i+(n:Int)).toNat else min i.toNat n):Nat):Int):=by
 by_cases h:i<0
 ·rw[Qz h,Qz h,Int.min_eq_left (by omega)];omega
 obtain⟨k,rfl⟩:=Int.eq_ofNat_of_zero_le (Int.not_lt.mp h);rw[QA h,QA h,Xu];omega
theorem lR (lo hi:Option Int) (n:Nat):(sliceBounds lo hi none n).1=((HT.sIx n 0 lo:Nat):Int)/\(sliceBounds lo hi none n).2.1=((HT.sIx n n hi:Nat):Int)/\(sliceBounds lo hi none n).2.2=1:=by
 refine⟨?_,?_,rfl⟩
 ·cases lo with
  | none=>simp[sliceBounds,HT.sIx]
  | some i =>
   simp only[sliceBounds,HT.sIx,Option.getD_none,show (1:Int)>0 by decide,if_true];exact wB i n
 cases hi with
 | none=>simp[sliceBounds,HT.sIx]
 | some i =>
 simp only[sliceBounds,HT.sIx,Option.getD_none,show (1:Int)>0 by decide,if_true];exact wB i n
theorem jZ (its:List Value) (lo hi:Option Int):slicePick its.toArray lo hi none=((its.drop (HT.sIx its.length 0 lo)).take (HT.sIx its.length its.length hi-HT.sIx its.length 0 lo)).toArray:=by
 obtain⟨h1,h2,h3⟩:=lR lo hi its.toArray.size;unfold slicePick;rw[h1,h2,h3];simp only[sliceRange_one,pick_run,Qk] <;> rfl
def yX (K:PySem.W.Frag):V->Option Int->Option Int->Hp->VK->Prop:=λx lo hi H Q=>∃a xs,x=.ref a/\SqL K H a xs/\∀p,H p=none->Q (.ref p) (upd H p (.lst (mN xs lo hi)))
theorem qo:SlR X (yX X.K):=by
 intro pins s σ H x v vl vu lo hi sl Q I rx hs pl pu h;obtain⟨a,xs,rfl,hx,q⟩:=h;cases rx;obtain⟨its,r,ht,hz⟩:=I.list hx;have hlen:=r.length;refine⟨"list", _,slot_list_getitem.lookup,ht.isList.typeIs,?_⟩;refine wpAny_getItem_list_slice ht.isList hs pl pu .none (by simp) ?_ (by rw[Qk] <;> omega);rw[jZ,<-hlen];refine⟨.ref s.heap.objs.size,_,I.laid (t':=s.toks) (o:=.lst (mN xs lo hi)) (λb ob q=>Qd _ q) (Qh _) ?_,rfl,q _ (I.hok.fresh (Qh _))⟩;exact⟨QP (oE xs lo hi) hz,_,0,(r.drop (HT.sIx xs.length 0 lo)).take (HT.sIx xs.length xs.length hi-HT.sIx xs.length 0 lo),Qp _ rfl⟩
def cL:V->Bool
 | .non=>true
 | .bl _=>true
 | .int _=>true
 | .str _=>true
 | _=>false
def eqV:V->V->Bool
 | .non,.non=>true
 | .bl a,.bl b=>a==b
 | .bl a,.int b=>(if a then 1 else 0)==b
 | .int a,.bl b=>a==(if b then 1 else 0)
 | .int a,.int b=>a==b
 | .str a,.str b=>a==b
 | _,_=>false
variable {u v:Value}
theorem uY {A:Around} {y x:V} (ry:aR y u) (rx:aR x v) (fy:cL y=true) (fx:cL x=true):SeqAt.EqAt A s u v (eqV y x):=by
 cases y with
 | non =>
  cases ry
  cases x with
  | non=>cases rx;exact SeqAt.EqAt.same _
  | bl b=>cases rx;exact SeqAt.EqAt.none_bool b
  | int b=>obtain⟨t,rfl⟩:=rx;exact SeqAt.EqAt.none_int b t
  | str b=>obtain⟨t,rfl⟩:=rx;exact SeqAt.EqAt.none_str b t
  | _=>exact absurd (show false=true from fx) Qn
 | bl a =>
  cases ry
  cases x with
  | non=>cases rx;exact SeqAt.EqAt.bool_none a
  | bl b=>cases rx;exact SeqAt.EqAt.bool_bool a b
  | int b=>obtain⟨t,rfl⟩:=rx;exact SeqAt.EqAt.bool_int a b t
  | str b=>obtain⟨t,rfl⟩:=rx;exact SeqAt.EqAt.bool_str a b t
  | _=>exact absurd (show false=true from fx) Qn
 | int a =>
  obtain⟨t',rfl⟩:=ry
  cases x with
  | non=>cases rx;exact SeqAt.EqAt.int_none a t'
  | bl b=>cases rx;exact SeqAt.EqAt.int_bool a t' b
  | int b=>obtain⟨t,rfl⟩:=rx;exact SeqAt.EqAt.int_int a t' b t
  | str b=>obtain⟨t,rfl⟩:=rx;exact SeqAt.EqAt.int_str a t' b t
  | _=>exact absurd (show false=true from fx) Qn
 | str a =>
  obtain⟨t',rfl⟩:=ry
  cases x with
  | non=>cases rx;exact SeqAt.EqAt.str_none a t'
  | bl b=>cases rx;exact SeqAt.EqAt.str_bool a t' b
  | int b=>obtain⟨t,rfl⟩:=rx;exact SeqAt.EqAt.str_int a t' b t
  | str b=>obtain⟨t,rfl⟩:=rx;exact SeqAt.EqAt.str_str a t' b t
  | _=>exact absurd (show false=true from fx) Qn
 | _=>exact absurd (show false=true from fy) Qn
def eqU (x:V) (u:Value):Bool:=match u with
 | .none=>eqV .non x
 | .bool b=>eqV (.bl b) x
 | .int i _=>eqV (.int i) x
 | .str z _=>eqV (.str z) x
 | _=>false
theorem uX {x y:V} (r:aR y u) (f:cL y=true):eqU x u=eqV y x:=by
 cases y with
 | non=>cases r;rfl
 | bl b=>cases r;rfl
 | int i=>obtain⟨t,rfl⟩:=r;rfl
 | str z=>obtain⟨t,rfl⟩:=r;rfl
 | _=>exact absurd (show false=true from f) Qn
theorem m_ {x:V}:∀{xs:List V} {us:List Value},aY xs us->xs.all cL=true->us.any (eqU x)=xs.any λy=>eqV y x
 | _,_,.nil,_=>rfl
 | y::xs,u::us,.cons r t,f=>by
  rw[List.all_cons,XA]at f;rw[List.any_cons,List.any_cons,uX r f.1,m_ t f.2]
theorem jv {A:Around} {s:Shared} {x:V} {v:Value} (rx:aR x v) (fx:cL x=true):∀{xs:List V} {us:List Value},aY xs us->xs.all cL=true->∀u∈us,SeqAt.EqAt A s u v (eqU x u)
 | _,_,.nil,_=>λu hu=>by cases hu
 | y::xs,u::us,.cons r t,f=>λu' hu=>by
  rw[List.all_cons,XA]at f;rcases QQ.mp hu with rfl|hu
  ·rw[uX r f.1];exact uY r rx f.1 fx
  exact jv rx fx t f.2 u' hu
def inV (x:V) (xs:List V):Bool:=xs.any λy=>eqV y x
def rIn (K:PySem.W.Frag) (neg:Bool):R2:=λx y H Q=>∃p xs,y=.ref p/\(SqL K H p xs\/SqT K H p xs)/\cL x=true/\xs.all cL=true/\Q (.bl (if neg then !inV x xs else inV x xs)) H
theorem dX:OpR X (compareOp .NotIn) (rIn X.K true):=by
 intro pins s σ H x y v u Q I rx ry h;obtain⟨p,xs,rfl,hq,fx,fs,q⟩:=h;cases ry;rcases hq with hq|hq
 ·obtain⟨its,r,pl,hz⟩:=I.list hq;refine SeqAt.notIn_listAt (eqU x) pl.isList (λw hw=>jv rx fx r fs w (by simpa using hw)) ⟨.bl _,H,I,rfl,?_⟩;rw[show its.toArray.any (eqU x)=its.any (eqU x) by simp,m_ r fs];exact q
 obtain⟨its,r,pl,hz⟩:=I.tuple hq;refine SeqAt.notIn_tupleAt (eqU x) pl (λw hw=>jv rx fx r fs w (by simpa using hw)) ⟨.bl _,H,I,rfl,?_⟩;rw[show its.toArray.any (eqU x)=its.any (eqU x) by simp,m_ r fs];exact q
theorem aN:dN X (.builtin "len") (λxs H Q=>∃p ys,xs=[.ref p]/\(SqL X.K H p ys\/SqT X.K H p ys)/\Q (.int ys.length) H):=by
 intro pins s σ H xs us Q I r h;obtain⟨p,ys,rfl,hq,q⟩:=h;obtain⟨u,rfl,rx⟩:=dy r;cases rx;have hn:=hG;rcases hq with hq|hq
 ·obtain⟨its,r',pl,hz⟩:=I.list hq;have hlen:=r'.length;exact Calls.call_len_list pl.isList (by simp only[Qk] <;> omega) ⟨.int ys.length,H,I.tok _,⟨s.toks+1,by rw[Qk,hlen]⟩,q⟩
 obtain⟨its,r',pl,hz⟩:=I.tuple hq;have hlen:=r'.length;exact len_tuple pl (by simp only[Qk] <;> omega) ⟨.int ys.length,H,I.tok _,⟨s.toks+1,by rw[Qk,hlen]⟩,q⟩
theorem mQ:dN X (.builtin "len") (λxs H Q=>∃z,xs=[.str z]/\z.length<=sizeLine/\Q (.int z.length) H):=by
 intro pins s σ H xs us Q I r h;obtain⟨z,rfl,hz,q⟩:=h;obtain⟨u,rfl,t,rfl⟩:=dy r;have hn:=hG;exact len_str (by omega) ⟨.int z.length,H,I.tok _,⟨_,rfl⟩,q⟩
theorem d_:dN X (.type "list") (λxs H Q=>∃p ys,xs=[.ref p]/\(SqL X.K H p ys\/SqT X.K H p ys)/\∀l,H l=none->Q (.ref l) (upd H l (.lst ys))):=by
 intro pins s σ H xs us Q I r h;obtain⟨p,ys,rfl,hq,q⟩:=h;obtain⟨u,rfl,rx⟩:=dy r;cases rx
 have fin:∀(its:List Value),aY ys its->ys.length<=sizeLine->∀(h':Heap) (c':Nat),(∀b o',s.heap.get? b=some o'->h'.get? b=some o') ->
   h'.get? s.heap.objs.size=some { cls:=.type "list", dict:=none,data:=.seq its.toArray c',slots:=#[] }->EP X pins σ Q (.ref s.heap.objs.size) { s with heap:=h' }:=λits r' hz h' c' kp e =>
  ⟨.ref s.heap.objs.size,_,I.laid (t':=s.toks) kp (Qh _) (show bj X.prog X.w _ h' _ (.lst ys) from⟨hz,its,c',r',e⟩),rfl,q _ (I.hok.fresh (Qh _))⟩
 rcases hq with hq|hq
 ·obtain⟨its,r',pl,hz⟩:=I.list hq;have hlen:=r'.length;obtain⟨o,ho,hc,n,hd⟩:=pl.isList;exact call_list_seq p (.inl rfl) ho hc hd (λh' c' kp e=>fin its r' hz h' c' kp e) (by simp only[Qk] <;> omega)
 obtain⟨its,r',pl,hz⟩:=I.tuple hq;have hlen:=r'.length;obtain⟨o,ho,hc,n,hd⟩:=pl;exact call_list_seq p (.inr rfl) ho hc hd (λh' c' kp e=>fin its r' hz h' c' kp e) (by simp only[Qk] <;> omega)
def tyV (K:PySem.W.Frag) (T:String) (x:V) (H:Hp):Prop:=match x with
 | .str _=>T = "str"
 | .int _=>T = "int"
 | .ref p=>(T = "list" /\ ∃xs,SqL K H p xs)\/(T = "tuple" /\ ∃o,K.lookup p=some o/\o.cls=.type "tuple" /\ o.dict=none) \/
   (T = "dict" /\ ((∃kvs,H p=some (.dK kvs))\/∃kvs,H p=some (.dT kvs)))\/(T = "set" /\ ∃S n,H p=some (.set S n))
 | _=>False
theorem xu {σ:St} {H:Hp} {T:String} {x:V} (I:Inv X pins σ H s) (r:aR x v) (ty:tyV X.K T x H) :
  s.TypeIs v T/\∀a,v=.ref a->∃ob,s.heap.get? a=some ob/\ob.dict=none:=by
 cases x with
 | str z =>
  obtain⟨t,rfl⟩:=r;cases (show T = "str" from ty);exact⟨typeIs_str s z t,λ_ e=>nomatch e⟩
 | int i =>
  obtain⟨t,rfl⟩:=r;cases (show T = "int" from ty);exact⟨typeIs_int s i t,λ_ e=>nomatch e⟩
 | ref p =>
  cases r;rcases ty with⟨rfl,xs,hq⟩|⟨rfl,o,hk,hc,hd⟩|⟨rfl,hk⟩|⟨rfl,S,n,hk⟩
  ·obtain⟨its,_,pl,_⟩:=I.list hq;refine⟨pl.isList.typeIs,λa e=>?_⟩;cases e;obtain⟨o,n,e,c,hd,_⟩:=pl;exact⟨o,e,hd⟩
  ·refine⟨⟨o,I.kIn p o hk,hc⟩,λa e=>?_⟩;cases e;exact⟨o,I.kIn _ o hk,hd⟩
  ·have z:∃o,s.heap.get? p=some o/\o.ExactDict:=by
    rcases hk with⟨kvs,hk⟩|⟨kvs,hk⟩
    ·obtain⟨_,_,_,_,o,_,_,e,ex,_⟩:=I.hok p _ hk;exact⟨o,e,ex⟩
    obtain⟨_,_,_,_,o,_,_,e,ex,_⟩:=I.hok p _ hk;exact⟨o,e,ex⟩
   obtain⟨o,e,ex⟩:=z;refine⟨⟨o,e,ex.1⟩,λa e2=>?_⟩;cases e2;exact⟨o,e,ex.2.1⟩
  obtain⟨o,_,_,_,e,ex,_⟩:=I.hok p _ hk;refine⟨⟨o,e,ex.1⟩,λa e2=>?_⟩;cases e2;exact⟨o,e,ex.2.1⟩
 | _=>exact False.elim ty
def tBM (K:PySem.W.Frag) (T:String) (r:V->List V->Hp->VK->Prop) (to:TE) (t:TA):TE:=λσ H Q=>to σ H λx H1=>tyV K T x H1/\t σ H1 λxs H2=>r x xs H2 Q
variable {o e:Expr} {es:List Expr} {to:TE} {t:TA} {name:Str} {apos cpos:Pos} {T id:String} {r:V->List V->Hp->VK->Prop}
theorem eV (pa:PlainAttrs T) (slot:Slot T name id) (hty:typeOf (.builtin id)=pure (.type "method_descriptor")) (hm:MtR X id r) (ho:PE X o to) (ha:PA X (e::es) t)
  (hbase:attributeBase o name X.env (eval o X.env)=eval o X.env:=by rfl)
  (hfew:((backTo cpos (starEach (e::es) X.env)).all (fun x=>!x.1)&&(backToKw cpos (keywordEach [] X.env)).all (fun x=>x.1.isSome)
   && decide ((e::es).length+([]:List Keyword).length+(if ([]:List Keyword).isEmpty then 0 else 1)<30))=true:=by rfl)
  (hline:(apos.endLine==cpos.line)=true:=by rfl) (hs:starEach (e::es) X.env=(false,eval e X.env)::starEach es X.env:=by rfl) (hplain:(backTo cpos (starEach es X.env)).any (·.1)=false:=by rfl) :
  PE X (.Call (.Attribute o name apos) (e::es) [] cpos) (tBM X.K T r to t):=by
 intro pins s σ H Q I h;refine wpAny_Call_method_late hbase hfew hline rfl (thn (ho pins s σ H _ I h) λv s1 ⟨x,H1,I1,r1,ty,q1⟩=>?_);obtain⟨h1,h2⟩:=xu I1 r1 ty;refine⟨T,id,pa,slot,hty,h1,h2,?_⟩;have hA:=ha cpos pins s1 σ H1 _ I1 q1;rw[hs]at hA ⊢;refine Calls.callWith_builtin (by show (false || (backTo cpos (starEach es X.env)).any (·.1))=false;rw[hplain] <;> rfl) (Calls.evalArgs_plain ?_);exact thn hA λus s2 ⟨vs,H2,I2,r2,q2⟩=>hm pins s2 σ H2 x vs v us Q I2 r1 r2 q2
end
def MtM (X:Cx) (id:String) (r:V->List V->Hp->VK->Prop):Prop :=
 ∀(pins:List (Addr × Obj)) (s:Shared) (σ:St) (H:Hp) (x:V) (xs:List V) (v:Value) (us:List Value) (Q:VK),Inv X pins σ H s->aR x v->aY xs us->r x xs H Q ->
  wpAny (model X.prog X.w) X.A (call (.builtin id) (v::us)) (EP X pins σ Q) X.xe s
theorem aY.one:∀{x:V} {us:List Value},aY [x] us->∃u,us=[u]/\aR x u
 | _,_,.cons r .nil=>⟨_,rfl,r⟩
theorem aY.eraseIdx:∀{xs:List V} {us:List Value} (i:Nat),aY xs us->aY (xs.eraseIdx i) (us.eraseIdx i)
 | _,_,_,.nil=>.nil
 | _,_,0,.cons _ t=>t
 | _,_,i+1,.cons r t=>.cons r (aY.eraseIdx i t)
theorem kQ {α:Type}:∀(l:List α) (i:Nat),(l.eraseIdx i).length<=l.length
 | [],_=>Qh _
 | _::_,0=>Nat.le_succ _
 | _::r,i+1=>Nat.succ_le_succ (kQ r i)
section
variable {X:Cx} {pins:List (Addr × Obj)} {σ:St} {H:Hp} {s:Shared} {l b:Addr} {xs ys zs:List V}
theorem Inv.lset {its its':List Value} {n:Nat} {f:Array Value->Array Value} {t':Nat} (I:Inv X pins σ H s) (hH:H l=some (.lst xs))
  (e:s.heap.get? l=some { cls:=.type "list", data:=.seq its.toArray n }) (hf:f its.toArray=its'.toArray) (hv:aY ys its') (hz:ys.length<=sizeLine) :
  Inv X pins σ (upd H l (.lst ys)) { s with heap:=s.heap.update l (Obj.mapSeq f),toks:=t' }:=by
 have q:=PySem.IsL.update e f;rw[hf]at q;refine I.write (x:=l) (e:=l) (by rw[hH];exact trivial) (.inl rfl) (λb' u hb hu=>(Q4 s.heap (Obj.mapSeq f) (XI hb)).trans hu) ⟨_,q⟩ ?_;exact⟨hz,its',_,hv,q⟩
theorem Inv.lnew {its:List Value} {t':Nat} (I:Inv X pins σ H s) (hv:aY ys its) (hz:ys.length<=sizeLine) :
  Inv X pins σ (upd H s.heap.objs.size (.lst ys)) { s with heap:=s.heap.push { cls:=.type "list", data:=.seq its.toArray },toks:=t' } :=
 I.laid (λ_ _ q=>Qd _ q) (Qh _) ⟨hz,its,0,hv,Qp _ rfl⟩
theorem Inv.fresh (I:Inv X pins σ H s):H s.heap.objs.size=none:=I.hok.fresh (Qh _)
theorem Inv.lstM (I:Inv X pins σ H s) (hH:H l=some (.lst xs)):xs.length<=sizeLine/\∃(its:List Value) (n:Nat),aY xs its/\xs.length=its.length/\s.heap.get? l=some { cls:=.type "list", data:=.seq its.toArray n }:=by
 obtain⟨z,its,n,r,e⟩:=I.hok l _ hH;exact⟨z,its,n,r,r.length,e⟩
end
section
variable {X:Cx}
def qu:V->List V->Hp->VK->Prop:=λx vs H Q=>∃l xs y,x=.ref l/\vs=[y]/\H l=some (.lst xs)/\xs.length<sizeLine/\Q .non (upd H l (.lst (xs++[y])))
theorem cw:MtM X "list.append" qu:=by
 intro pins s σ H x vs v us Q I rx rv h;obtain⟨l,xs,y,rfl,rfl,hH,hz,q⟩:=h;cases rx;obtain⟨u,rfl,ru⟩:=rv.one;obtain⟨z,its,n,r,hl,e⟩:=I.lstM hH;refine call_meets F.slot_list_append ⟨_,e,rfl⟩ F.entry_list_append (F.args_list_append_2 _ _) (PySem.list_append l its.toArray n u (by rw[Qk];omega)) ⟨e,?_⟩;refine⟨.non,_,I.lset (its':=its++[u]) hH e (by simp) (r.append (.cons ru .nil)) ?_,rfl,q⟩;rw[Qj,List.length_singleton];omega
def xI:V->List V->Hp->VK->Prop:=λx vs H Q=>∃l xs i k y,x=.ref l/\vs=[.int i]/\H l=some (.lst xs)/\-(2 ^ 63)<=i/\i<2 ^ 63/\seqIndex? i xs.length=some k/\xs[k]?=some y/\Q y (upd H l (.lst (xs.eraseIdx k)))
theorem js:MtM X "list.pop" xI:=by
 intro pins s σ H x vs v us Q I rx rv h;obtain⟨l,xs,i,k,y,rfl,rfl,hH,h1,h2,hk,hy,q⟩:=h;cases rx;obtain⟨u,rfl,ru⟩:=rv.one;obtain⟨t,rfl⟩:=ru;obtain⟨z,its,n,r,hl,e⟩:=I.lstM hH;obtain⟨w,hw,rw'⟩:=r.get hy
 refine call_meets F.slot_list_pop ⟨_,e,rfl⟩ F.entry_list_pop (F.args_list_pop_2 _ _)
  (MeetsSeq.list_pop_at l its.toArray n i t k w (fitsIndex_both h1 h2) (by rw[Qk,<-hl];exact hk) (by rw[<-Qx];exact hw) (by rw[Qk];omega)) ⟨e,?_⟩
 refine⟨y,_,I.lset (its':=its.eraseIdx k) hH e ?_ (r.eraseIdx k) ?_,rw',q⟩
 ·show its.toArray.eraseIdxIfInBounds k=(its.eraseIdx k).toArray;rw[List.eraseIdxIfInBounds_toArray]
 have:=kQ xs k;omega
def yZ:R2:=λx y H Q=>∃l b xs zs,x=.ref l/\y=.ref b/\H l=some (.lst xs)/\H b=some (.lst zs)/\xs.length+zs.length<=sizeLine/\∀p,H p=none->Q (.ref p) (upd H p (.lst (xs++zs)))
theorem t_:OpR X (binaryOp .Add) yZ:=by
 intro pins s σ H x y v u Q I rx ry h;obtain⟨l,b,xs,zs,rfl,rfl,hH,hB,hz,q⟩:=h;cases rx;cases ry;obtain⟨z,its,n,r,hl,e⟩:=I.lstM hH;obtain⟨z2,its2,n2,r2,hl2,e2⟩:=I.lstM hB;refine PySem.P.add_list e e2 ?_ (by rw[Qk,Qk];omega);have ea:its.toArray++its2.toArray=(its++its2).toArray:=by simp
 rw[ea];exact⟨.ref _,_,I.lnew (t':=s.toks) (r.append r2) (by rw[Qj];omega),rfl,q _ I.fresh⟩
end
section
variable {prog:Program} {w:World} {A:Around} {E:Value->Shared->Prop} {s:Shared}
end
section
variable {X:Cx}
end
section
variable {κ:Type} [DecidableEq κ]
def bn (kvs:List (κ × V)) (k:κ):Option V:=(kvs.find? λkv=>decide (kv.1=k)).map (·.2)
def bN (kvs:List (κ × V)) (k:κ) (v:V):List (κ × V) :=
 if (kvs.any λkv=>decide (kv.1=k))=true then kvs.map (λkv=>if kv.1=k then (kv.1,v) else kv) else kvs++[(k,v)]
variable {r kvs:List (κ × V)}
theorem bI {p:κ × V} {k:κ} (e:p.1=k):bn (p::r) k=some p.2:=by simp[bn,XJ,e]
theorem bJ {p:κ × V} {k:κ} (e:¬p.1=k):bn (p::r) k=bn r k:=by simp[bn,XJ,e]
theorem cX (k:κ):∀kvs:List (κ × V),(kvs.any λkv=>decide (kv.1=k))=(bn kvs k).isSome
 | []=>rfl
 | p::r=>by
  rw[List.any_cons];by_cases e:p.1=k
  ·simp only[bI e,QU e,Bool.true_or,Option.isSome_some]
  rw[bJ e,QI e,Bool.false_or];exact cX k r
theorem nq (k j:κ) (y:V):∀kvs:List (κ × V),bn (kvs.map λkv=>if kv.1=k then (kv.1,y) else kv) j=(bn kvs j).map λx=>if j=k then y else x
 | []=>rfl
 | p::r=>by
  have ih:=nq k j y r;rw[QC];by_cases h:p.1=k
  ·rw[Qz h];by_cases e:p.1=j
   ·rw[bI (p:=(p.1,y)) e,bI e,Option.map_some,Qz (e.symm.trans h)]
   rw[bJ (p:=(p.1,y)) e,bJ e,ih]
  rw[QA h];by_cases e:p.1=j
  ·rw[bI (p:=p) e,bI e,Option.map_some,QA (λz=>h (e.trans z))]
  rw[bJ (p:=p) e,bJ e,ih]
theorem kG (k j:κ) (y:V):∀kvs:List (κ × V),bn kvs k=none->bn (kvs++[(k,y)]) j=if j=k then some y else bn kvs j
 | [],_=>by
  by_cases e:k=j
  ·rw[Qz e.symm];exact bI (p:=(k,y)) e
  rw[QA (λz=>e z.symm)];exact bJ (p:=(k,y)) e
 | p::r,hn=>by
  rw[List.cons_append];have hk:¬p.1=k:=λz=>by rw[bI z]at hn;cases hn
  rw[bJ hk]at hn;have ih:=kG k j y r hn;by_cases e:p.1=j
  ·rw[bI e,bI e,QA (λz=>hk (e.trans z))]
  rw[bJ e,bJ e,ih]
theorem eL (kvs:List (κ × V)) (k j:κ) (y:V):bn (bN kvs k y) j=if j=k then some y else bn kvs j:=by
 unfold bN;by_cases a:(kvs.any λkv=>decide (kv.1=k))=true
 ·rw[Qz a,nq];rw[cX]at a;by_cases e:j=k
  ·obtain⟨x,hx⟩:=Option.isSome_iff_exists.mp a;rw[Qz e,e,hx,Option.map_some,Qz rfl]
  rw[QA e]
  cases bn kvs j with
  | none=>rfl
  | some x=>rw[Option.map_some,QA e]
 rw[QA a];refine kG k j y kvs ?_;rw[cX]at a
 cases q:bn kvs k with
 | none=>rfl
 | some x=>rw[q]at a;exact(a rfl).elim
theorem dh (kvs:List (κ × V)) (k:κ) (v:V):(bN kvs k v).length<=kvs.length+1:=by
 unfold bN
 split
 ·rw[Qc];omega
 rw[Qj,Q0,Xq];omega
theorem dE {k:κ} (v:V) (h:bn kvs k=none):bN kvs k v=kvs++[(k,v)]:=by
 unfold bN;rw[cX,h];exact QA (by decide)
theorem jW.isSome_eq {o:Option V} {u:Option Value} (r:jW o u):o.isSome=u.isSome:=by
 cases o with
 | none=>cases u with
  | none=>rfl
  | some _=>exact(show False from r).elim
 | some _=>cases u with
  | none=>exact(show False from r).elim
  | some _=>rfl
variable {vs:List (κ × Value)}
theorem KV.val (r:KV kvs vs) (k:κ):jW (bn kvs k) (valueAt vs k):=by
 unfold KV at r
 induction r with
 | nil=>exact True.intro
 | @cons p q ps qs h t ih =>
 obtain⟨h1,h2⟩:=h;by_cases e:p.1=k
 ·have e':q.1=k:=h1.symm.trans e;have b:valueAt (q::qs) k=some q.2:=by simp[valueAt,XJ,e']
  rw[bI e,b];exact h2
 have e':¬q.1=k:=λz=>e (h1.trans z);have b:valueAt (q::qs) k=valueAt qs k:=by simp[valueAt,XJ,e']
 rw[bJ e,b];exact ih
theorem KV.any (r:KV kvs vs) (k:κ):(kvs.any λkv=>decide (kv.1=k))=vs.any λkv=>decide (kv.1=k):=by
 unfold KV at r
 induction r with
 | nil=>rfl
 | cons h t ih=>rw[List.any_cons,List.any_cons,ih,h.1]
theorem KV.repl (r:KV kvs vs) (k:κ) {y:V} {u:Value} (ry:aR y u) :
  KV (kvs.map λkv=>if kv.1=k then (kv.1,y) else kv) (vs.map λkv=>if kv.1=k then (kv.1,u) else kv):=by
 unfold KV at r ⊢
 induction r with
 | nil=>exact .nil
 | @cons p q ps qs h t ih =>
 rw[QC,QC];refine .cons ?_ ih;obtain⟨h1,h2⟩:=h;by_cases e:p.1=k
 ·rw[Qz e,Qz (h1.symm.trans e)];exact⟨h1,ry⟩
 rw[QA e,QA (λz=>e (h1.trans z))];exact⟨h1,h2⟩
theorem KV.put (r:KV kvs vs) (k:κ) {y:V} {u:Value} (ry:aR y u):KV (bN kvs k y) (stored vs k u):=by
 unfold bN stored;rw[r.any k];by_cases e:(vs.any λkv=>decide (kv.1=k))=true
 ·rw[Qz e,Qz e];exact r.repl k ry
 rw[QA e,QA e];exact Paired.snoc r ⟨rfl,ry⟩
theorem KV.length (r:KV kvs vs):kvs.length=vs.length:=Paired.length r
end
variable {u:Value} {w:World} {P prog:Program}
theorem jF {k:Key} (r:aR (kV k) u):(bg P w).is k u=true:=by
 cases k with
 | inl i=>obtain⟨t,e⟩:=(show ∃t,u=Value.int i t from r);subst e;exact oj P w i t
 | inr x=>obtain⟨t,e⟩:=(show ∃t,u=Value.str x t from r);subst e;exact eY P w x t
theorem kS {P:Program} {w:World}:∀{ks:List Key} {us:List Value},aY (ks.map kV) us->ItemsAre (bg P w) ks us
 | [],_,r=>by rw[List.map_nil]at r;cases r;exact .nil
 | k::ks,_,r=>by
  rw[QC]at r
  cases r with
  | cons h t=>exact .cons (jF h) (kS t)
abbrev KT (H:Hp):List (List Key × V)->List (List Key × Addr × Value)->Prop:=Paired λp q=>p.1=q.1/\H q.2.1=some (.tup (p.1.map kV))/\aR p.2 q.2.2
variable {xs:List (List Key × Addr × Value)} {kvs:List (List Key × V)} {H H':Hp}
theorem KT.val (r:KT H kvs xs) (k:List Key):jW (bn kvs k) ((atKey xs k).map (·.2)):=by
 induction r with
 | nil=>exact True.intro
 | @cons p q ps qs h t ih =>
 obtain⟨h1,_,h2⟩:=h;by_cases e:p.1=k
 ·have e':q.1=k:=h1.symm.trans e;have b:atKey (q::qs) k=some q.2:=by simp[atKey,XJ,e']
  rw[bI e,b];exact h2
 have e':¬q.1=k:=λz=>e (h1.trans z);have b:atKey (q::qs) k=atKey qs k:=by simp[atKey,XJ,e']
 rw[bJ e,b];exact ih
theorem KT.repl (r:KT H kvs xs) (k:List Key) {y:V} (ry:aR y u) :
  KT H (kvs.map λkv=>if kv.1=k then (kv.1,y) else kv) (xs.map (putAt k u)):=by
 induction r with
 | nil=>exact .nil
 | @cons p q ps qs h t ih =>
 rw[QC,QC];refine .cons ?_ ih;obtain⟨h1,h2,h3⟩:=h;unfold putAt;by_cases e:p.1=k
 ·rw[Qz e,Qz (h1.symm.trans e)];exact⟨h1,h2,ry⟩
 rw[QA e,QA (λz=>e (h1.trans z))];exact⟨h1,h2,h3⟩
theorem KT.put (r:KT H kvs xs) (k:List Key) {b:Addr} {y:V} (hb:H b=some (.tup (k.map kV))) (ry:aR y u) :
  KT H (bN kvs k y) (storedH xs k b u):=by
 have e:(kvs.any λkv=>decide (kv.1=k))=(atKey xs k).isSome:=by
  rw[cX,(r.val k).isSome_eq,Option.isSome_map]
 unfold bN storedH;rw[e];by_cases q:(atKey xs k).isSome=true
 ·rw[Qz q,Qz q];exact r.repl k ry
 rw[QA q,QA q];exact Paired.snoc r ⟨rfl,hb,ry⟩
theorem KT.keeps (r:KT H kvs xs) (ht:∀b ys,H b=some (.tup ys)->H' b=some (.tup ys)):KT H' kvs xs :=
 Paired.mapP r λ_ _ z=>⟨z.1,ht _ _ z.2.1,z.2.2⟩
section
variable {P:Program} {w:World} {H:Hp} {h:Heap} {a:Addr}
theorem wD {u:HO} (ok:HOk P w H h) (e:Rd H a u):bj P w H h a u:=e.ok ok
theorem jN {kvs:List (Key × V)} (ok:HOk P w H h) (e:Rd H a (.dK kvs)):kvs.length<=sizeLine/\(a==sysModules)=false/\∃vs,KV kvs vs/\h.DictOf (bg P w) a vs :=
 show bj P w H h a (.dK kvs) from wD ok e
theorem uZ {kvs:List (Key × V)} (ok:HOk P w H h) (e:H a=some (.dK kvs)):kvs.length<=sizeLine/\(a==sysModules)=false/\∃vs,KV kvs vs/\h.DictOf (bg P w) a vs:=jN ok (.inl e)
theorem jD {ks:List Key} (ok:HOk P w H h) (e:H a=some (.tup (ks.map kV))):(tupleKind (bg P w)).is h ks a:=by
 obtain⟨_,its,r,o,h1,h2,n,h3⟩:=(show bj P w H h a (.tup (ks.map kV)) from ok a _ e);exact⟨o,its.toArray,n,h1,h2,h3,by simpa using kS r⟩
variable {kvs:List (List Key × V)}
theorem kY (ok:HOk P w H h) (e:Rd H a (.dT kvs)):kvs.length<=sizeLine/\(a==sysModules)=false /\
  ∃xs,KT H kvs xs/\h.DictOfH (tupleKind (bg P w)) a xs:=by
 obtain⟨z,y,xs,r,o,es,ep,h1,h2,h3,h4,h5⟩:=(show bj P w H h a (.dT kvs) from wD ok e);refine⟨z,y,xs,r,o,es,ep,h1,h2,h3,h4,λx hx=>?_,h5⟩
 have all:∀{l:List (List Key × V)} {m:List (List Key × Addr × Value)},KT H l m->∀x∈m,(tupleKind (bg P w)).is h x.1 x.2.1:=by
  intro l m q
  induction q with
  | nil=>intro x hx;exact nomatch hx
  | @cons p q ps qs hq t ih =>
  intro x hx;rcases QQ.mp hx with e|hx
  ·subst e;exact jD ok (by rw[<-hq.1];exact hq.2.1)
  exact ih x hx
 exact all r x hx
theorem BZ (ok:HOk P w H h) (e:H a=some (.dT kvs)):kvs.length<=sizeLine/\(a==sysModules)=false /\
  ∃xs,KT H kvs xs/\h.DictOfH (tupleKind (bg P w)) a xs:=kY ok (.inl e)
end
def cC (H:Hp) (a:Addr) (y:V) (r:Option V):Prop :=
 (∃kvs k,Rd H a (.dK kvs)/\y=kV k/\r=bn kvs k)\/∃kvs k b,Rd H a (.dT kvs)/\y=.ref b/\H b=some (.tup (k.map kV))/\r=bn kvs k
def oU (H:Hp) (a:Addr) (y v:V) (H':Hp):Prop :=
 (∃kvs k,H a=some (.dK kvs)/\y=kV k/\kvs.length<sizeLine/\H'=upd H a (.dK (bN kvs k v))) \/
 ∃kvs k b,H a=some (.dT kvs)/\y=.ref b/\H b=some (.tup (k.map kV))/\kvs.length<sizeLine/\H'=upd H a (.dT (bN kvs k v))
theorem cC.k {H:Hp} {a:Addr} {kvs:List (Key × V)} {k:Key} (e:H a=some (.dK kvs)):cC H a (kV k) (bn kvs k):=.inl ⟨kvs,k,.inl e,rfl,rfl⟩
theorem oU.k {H:Hp} {a:Addr} {kvs:List (Key × V)} {k:Key} {v:V} (e:H a=some (.dK kvs)) (hl:kvs.length<sizeLine):oU H a (kV k) v (upd H a (.dK (bN kvs k v))):=.inl ⟨kvs,k,e,rfl,hl,rfl⟩
section
variable {X:Cx} {pins:List (Addr × Obj)} {σ:St} {H:Hp} {s:Shared} {a:Addr} {y v:V} {u r:Value} {o:Option V} {A:Around} {E:Value->Shared->Prop}
theorem Inv.big (I:Inv X pins σ H s):sysModules<s.heap.objs.size:=by
 have h:mainGlobals<s.heap.objs.size:=(I.mod.glob.keeps I.bk).lt;exact Nat.lt_trans (by decide) h
variable {Q:Value->Shared->Prop}
theorem sJ (hu:A.units+1<cLine) (I:Inv X pins σ H s) (g:cC H a y (some v)) (ry:aR y u) (h:∀w' s',Inv X pins σ H s'->aR v w'->Q w' s') :
  wpAny (model X.prog X.w) A (getItem (.ref a) u) Q E s:=by
 rcases g with⟨kvs,k,e,ey,l⟩|⟨kvs,k,b,e,ey,eb,l⟩
 ·subst ey;obtain⟨z,hd,vs,rel,dd⟩:=jN I.hok e;obtain⟨w',hw,rw'⟩:=jW.some_of (v:=v) (o:=valueAt vs k) (by rw[l];exact rel.val k);exact wpAny_getItem_of (jF ry) dd.mapOf hw (h w' _ (I.tok _) rw')
 subst ey;cases (show u=Value.ref b from ry);obtain⟨z,hd,xs,rel,dd⟩:=kY I.hok e;obtain⟨w',hw,rw'⟩:=jW.some_of (v:=v) (o:=(atKey xs k).map (·.2)) (by rw[l];exact rel.val k);obtain⟨p,hp,hp2⟩:=Option.map_eq_some_iff.mp hw;refine wpAny_getItem_heap (tupleKind_room_in1 hu) (jD I.hok eb) dd hp ?_;rw[hp2];exact h w' _ (I.tok _) rw'
theorem C2 (hu:A.units+1<cLine) (I:Inv X pins σ H s) (g:cC H a y o) (ry:aR y u) (h:∀s',Inv X pins σ H s'->Q (.bool o.isSome) s') :
  wpAny (model X.prog X.w) A (compareOp .In u (.ref a)) Q E s:=by
 rcases g with⟨kvs,k,e,ey,l⟩|⟨kvs,k,b,e,ey,eb,l⟩
 ·subst ey;obtain⟨z,hd,vs,rel,dd⟩:=jN I.hok e;refine wpAny_in_of (jF ry) hd dd.mapOf ?_;rw[<-(rel.val k).isSome_eq,<-l];exact h _ (I.tok _)
 subst ey;cases (show u=Value.ref b from ry);obtain⟨z,hd,xs,rel,dd⟩:=kY I.hok e;refine wpAny_in_heap (tupleKind_room_in1 hu) (jD I.hok eb) hd dd ?_;have q:=(rel.val k).isSome_eq;rw[Option.isSome_map]at q;rw[<-q,<-l];exact h _ (I.tok _)
theorem v8 (hu:A.units+1<cLine) (I:Inv X pins σ H s) (g:cC H a y o) (ry:aR y u) (h:∀s',Inv X pins σ H s'->Q (.bool (!o.isSome)) s') :
  wpAny (model X.prog X.w) A (compareOp .NotIn u (.ref a)) Q E s:=by
 rcases g with⟨kvs,k,e,ey,l⟩|⟨kvs,k,b,e,ey,eb,l⟩
 ·subst ey;obtain⟨z,hd,vs,rel,dd⟩:=jN I.hok e;refine wpAny_notIn_of (jF ry) hd dd.mapOf ?_;rw[<-(rel.val k).isSome_eq,<-l];exact h _ (I.tok _)
 subst ey;cases (show u=Value.ref b from ry);obtain⟨z,hd,xs,rel,dd⟩:=kY I.hok e;refine wpAny_notIn_heap (tupleKind_room_in1 hu) (jD I.hok eb) hd dd ?_;have q:=(rel.val k).isSome_eq;rw[Option.isSome_map]at q;rw[<-q,<-l];exact h _ (I.tok _)
theorem iO {h':Heap} {t':Nat} {ob:HO} (I:Inv X pins σ H s) (mu:Mut (H a)) (hs:Heap.SameBut a s.heap h') (he:∃q,h'.get? a=some q) (new:bj X.prog X.w (upd H a ob) h' a ob) :
  Inv X pins σ (upd H a ob) { s with heap:=h',toks:=t' } :=
 I.write (x:=a) (e:=a) mu (.inl rfl) (λb q hb z=>(hs.2 b hb).trans z) he new
theorem pW {P:Program} {w:World} {H':Hp} {h':Heap} {kvs:List (Key × V)} {vs:List (Key × Value)} (z:kvs.length<=sizeLine) (hd:(a==sysModules)=false) (rel:KV kvs vs) (dd:h'.DictOf (bg P w) a vs) :
  bj P w H' h' a (.dK kvs):=⟨z,hd,vs,rel,dd⟩
theorem sI {H':Hp} {Q:Unit->Shared->Prop} (hu:A.units+1<cLine) (I:Inv X pins σ H s) (g:oU H a y v H') (ry:aR y u) (rv:aR v r) (h:∀s',Inv X pins σ H' s'->Q () s') :
  wpAny (model X.prog X.w) A (setItem (.ref a) u r) Q E s:=by
 rcases g with⟨kvs,k,e,ey,l,eH⟩|⟨kvs,k,b,e,ey,eb,l,eH⟩
 ·subst ey eH;obtain⟨z,hd,vs,rel,dd⟩:=uZ I.hok e;have hz:vs.length<=sizeLine:=by rw[<-rel.length];exact z
  have hl:(bN kvs k v).length<=sizeLine:=by have:=dh kvs k v;omega
  refine wpAny_setItem_pairs (hsz:=hz) (jF ry) dd λh' dd' hs=>h _ ?_;have he:∃q,h'.get? a=some q:=let ⟨q,_,_,hq,_⟩:=dd';⟨q,hq⟩;exact iO I (by rw[e];exact True.intro) hs he (pW hl hd (rel.put k rv) dd')
 subst ey eH;cases (show u=Value.ref b from ry);obtain⟨z,hd,xs,rel,dd⟩:=BZ I.hok e;have hz:xs.length<=sizeLine:=by rw[<-Paired.length rel];exact z
 have hl:(bN kvs k v).length<=sizeLine:=by have:=dh kvs k v;omega
 refine wpAny_setItem_heap (hsz:=hz) (tupleKind_room_in1 hu) (jD I.hok eb) dd λh' dd' hs=>h _ ?_;obtain⟨q,es,ep,hq,h2,h3,h4,_,h5⟩:=dd';refine iO I (by rw[e];exact True.intro) hs ⟨q,hq⟩ ⟨hl,hd,_,(rel.put k eb rv).keeps λc ys ec=>?_,q,es,ep,hq,h2,h3,h4,h5⟩;rw[aq (BO ec e (λz=>nomatch z))];exact ec
end
section
variable {X:Cx} {pins:List (Addr × Obj)} {σ:St} {H:Hp} {s:Shared} {a:Addr} {kvs:List (Key × V)} {k:Key} {u:Value} {A:Around} {E:Value->Shared->Prop}
end
def B5 (i:Expr):Prop:=∀ov iv,subscripted i false ov iv=operate [ov,iv] (getItem ov iv)
variable {Q E:Value->Shared->Prop} {pos:Pos} {s:Shared}
theorem vq {A:Around} {env:Env} {value slice:Expr} {T id:String}
  (hl:typeLookup (.type T) "__getitem__" = pure (some (.builtin id))) (hs:B5 slice)
  (h:wpAny (model prog w) A (eval value env) (λo s₁=>wpAny (model prog w) A (eval slice env) (λi s₂=>s₂.TypeIs o T/\wpAny (model prog w) A (getItem o i) Q E s₂) E s₁) E s) :
  wpAny (model prog w) A (eval (.Subscript value slice pos) env) Q E s:=by
 refine Subscript_ (Xn h (λo s₁ h₁=>Xn h₁ (λi s₂ h₂=>?_) λ_ _ x=>x) λ_ _ x=>x);obtain⟨hT,h₂⟩:=h₂;unfold subscriptTail;refine Qa ?_;rw[getitemInPython_of_ne hT.not_modules];refine Qa (wpAny_specialOf hT hl ?_)
 have fin:wpAny (model prog w) A (subscripted slice false o i) (λr s₃=>wpAny (model prog w) A (letTemporaryGo value o r >>= λ_=>pure r) Q E s₃) E s₂:=by
  rw[hs o i];exact wpAny_operating (Xn h₂ (λr s₃ h₃=>Qa (wpAny_letTemporaryGo (Qf h₃))) λ_ _ x=>x)
 first
  | exact Qf (Qa fin)
  | exact Qa (Qf (Qa fin))
  | exact Qa fin
variable {pins:List (Addr × Obj)} {X:Cx}
theorem oD {σ:St} {a:Addr} {y:V} {o:Option V} (I:Inv X pins σ H s) (g:cC H a y o):s.TypeIs (.ref a) "dict" := by
 rcases g with⟨kvs,k,e,_,_⟩|⟨kvs,k,b,e,_,_,_⟩
 ·obtain⟨_,_,vs,_,dd⟩:=jN I.hok e;exact dd.typeIs
 obtain⟨_,_,xs,_,dd⟩:=kY I.hok e;exact dd.typeIs
def wy (td ty:TE):TE:=λσ H Q=>td σ H λx H1=>ty σ H1 λy H2=>∃a v,x=.ref a/\cC H2 a y (some v)/\Q v H2
def yT (ty td:TE):TE:=λσ H Q=>ty σ H λy H1=>td σ H1 λx H2=>∃a o,x=.ref a/\cC H2 a y o/\Q (.bl o.isSome) H2
def qk (ty td:TE):TE:=λσ H Q=>ty σ H λy H1=>td σ H1 λx H2=>∃a o,x=.ref a/\cC H2 a y o/\Q (.bl (!o.isSome)) H2
def wC (td ty tv:TE):TS:=λD σ H=>tv σ H λv H1=>td σ H1 λx H2=>ty σ H2 λy H3=>∃a H4,x=.ref a/\oU H3 a y v H4/\D.nx σ H4
section
variable {X:Cx} {o i e value:Expr} {pos pos' tpos:Pos} {td ty tv:TE}
theorem bO (hu:X.A.units+1<cLine) (ho:PE X o td) (hi:PE X i ty) (hs:B5 i:=by exact λ_ _=>rfl):PE X (.Subscript o i pos) (wy td ty):=by
 intro pins s σ H Q I h;refine vq PySem.F.slot_dict_getitem.lookup hs (thn (ho pins s σ H _ I h) λu s1 ⟨x,H1,I1,rx,q1⟩=>thn (hi pins s1 σ H1 _ I1 q1) λiv s2 ⟨y,H2,I2,ry,a,v,ex,g,q2⟩=>?_);subst ex;obtain rfl:u=Value.ref a:=rx;exact⟨oD I2 g,sJ hu I2 g ry λw' s3 I3 rw'=>⟨v,H2,I3,rw',q2⟩⟩
theorem xW (hu:X.A.units+1<cLine) (hi:PE X i ty) (ho:PE X o td):PC X .In i o (yT ty td):=by
 intro pins s σ H Q I h;refine thn (hi pins s σ H _ I h) λiv s1 ⟨y,H1,I1,ry,q1⟩=>thn (ho pins s1 σ H1 _ I1 q1) λu s2 ⟨x,H2,I2,rx,a,ov,ex,g,q2⟩=>?_;subst ex;obtain rfl:u=Value.ref a:=rx;exact C2 hu I2 g ry λs3 I3=>⟨.bl ov.isSome,H2,I3,rfl,q2⟩
theorem rL (hu:X.A.units+1<cLine) (hi:PE X i ty) (ho:PE X o td):PC X .NotIn i o (qk ty td):=by
 intro pins s σ H Q I h;refine thn (hi pins s σ H _ I h) λiv s1 ⟨y,H1,I1,ry,q1⟩=>thn (ho pins s1 σ H1 _ I1 q1) λu s2 ⟨x,H2,I2,rx,a,ov,ex,g,q2⟩=>?_;subst ex;obtain rfl:u=Value.ref a:=rx;exact v8 hu I2 g ry λs3 I3=>⟨.bl (!ov.isSome),H2,I3,rfl,q2⟩
theorem ma (hu:X.A.units+1<cLine) (ho:PE X o td) (hi:PE X i ty) (hv:PE X value tv) (hs:swapsWith value (some (.Subscript o i pos')) pos.line X.env=pure false) :
  PS X (.Assign [.Subscript o i pos'] value pos) (wC td ty tv):=by
 intro pins s σ H D I h;refine wpAny_Assign_Subscript (thn (hv pins s σ H _ I h) λr s1 ⟨v,H1,I1,rv,q1⟩=>thn (ho pins s1 σ H1 _ I1 q1) λu s2 ⟨x,H2,I2,rx,q2⟩=>thn (hi pins s2 σ H2 _ I2 q2) λiv s3 ⟨y,H3,I3,ry,a,H4,ex,g,q3⟩=>?_) hs;subst ex;obtain rfl:u=Value.ref a:=rx;exact sI hu I3 g ry rv λs4 I4=>⟨σ,H4,I4,q3⟩
end
theorem oC (h:Heap) (hb:sysModules<h.objs.size):bj P w H (h.push { cls:=.type "dict", data:=.dict #[] }) h.objs.size (.dK []) :=
 ⟨QM _,beq_eq_false_iff_ne.mpr (XI (QB hb)),[],.nil,Heap.DictOf.new h⟩
def xC:TE:=λ_ H Q=>∀p,H p=none->Q (.ref p) (upd H p (.dK []))
section
variable {X:Cx} {pos:Pos}
theorem jj:PE X (.Dict [] [] pos) xC:=λpins s σ H Q I h =>
 wpAny_Dict_empty ⟨.ref s.heap.objs.size,_,I.laid (a:=s.heap.objs.size) (o:=.dK []) (t':=s.toks) (λ_ _ q=>Qd _ q) (Qh _) (oC s.heap I.big),rfl,h _ (I.hok.fresh (Qh _))⟩
end
def oZ:List (TE × TE)->St->Hp->(List (V × V)->Hp->Prop)->Prop
 | [],_,H,Q=>Q [] H
 | (tk,tv)::r,σ,H,Q=>tk σ H λx H1=>tv σ H1 λy H2=>oZ r σ H2 λps H3=>Q ((x,y)::ps) H3
abbrev VV:List (V × V)->List (Value × Value)->Prop:=Paired λp q=>aR p.1 q.1/\aR p.2 q.2
def PPs (X:Cx) (pos:Pos) (keys:List (Option Expr)) (values:List Expr) (trs:List (TE × TE)):Prop :=
 ∀(pins:List (Addr × Obj)) (s:Shared) (σ:St) (H:Hp) (Q:List (V × V)->Hp->Prop),Inv X pins σ H s->oZ trs σ H Q ->
  wpAny (model X.prog X.w) X.A (evalPairs (pairTrees keys values X.env pos)) (λvs s'=>∃ps H',Inv X pins σ H' s'/\VV ps vs/\Q ps H') X.xe s
theorem vB:PPs X pos [] [] []:=λpins s σ H Q I h=>pairTrees_nil_walk ⟨[],H,I,.nil,h⟩
variable {trs:List (TE × TE)}
theorem tR {k v:Expr} {ks:List (Option Expr)} {vs:List Expr} {tk tv:TE} (hk:PE X k tk) (hv:PE X v tv) (hr:PPs X pos ks vs trs) :
  PPs X pos (some k::ks) (v::vs) ((tk,tv)::trs):=λpins s σ H Q I h =>
 pairTrees_cons_walk (thn (hk pins s σ H _ I h) λu s1 ⟨x,H1,I1,rx,q1⟩=>thn (hv pins s1 σ H1 _ I1 q1) λw2 s2 ⟨y,H2,I2,ry,q2⟩ =>
  thn (hr pins s2 σ H2 _ I2 q2) λws s3 ⟨ps,H3,I3,rel,q3⟩=>⟨(x,y)::ps,H3,I3,.cons ⟨rx,ry⟩ rel,q3⟩)
def ju (kvs more:List (Key × V)):List (Key × V):=more.foldl (λacc kv=>bN acc kv.1 kv.2) kvs
theorem KV.merge:∀{more:List (Key × V)} {rs:List (Key × Value)} {kvs:List (Key × V)} {vs:List (Key × Value)},KV more rs->KV kvs vs->KV (ju kvs more) (merged vs rs):=by
 intro more rs kvs vs r;unfold KV at r
 induction r generalizing kvs vs with
 | nil=>intro q;exact q
 | @cons p q ps qs h t ih =>
 intro r0
 have e:KV (bN kvs p.1 p.2) (stored vs q.1 q.2):=by
  have:=r0.put p.1 h.2;rw[<-h.1];exact this
 exact ih e
theorem fK:∀(more kvs:List (Key × V)),(ju kvs more).length<=kvs.length+more.length
 | [],kvs=>by show kvs.length<=kvs.length+0;omega
 | p::r,kvs=>by
  have h1:=fK r (bN kvs p.1 p.2);have h2:=dh kvs p.1 p.2;show (ju (bN kvs p.1 p.2) r).length<=_;rw[Q0];omega
theorem jS {P:Program} {w:World}:∀{kvs:List (Key × V)} {ws:List (Value × Value)},VV (kvs.map λkv=>(kV kv.1,kv.2)) ws->∃rs,Carries (bg P w) ws rs/\KV kvs rs
 | [],_,r=>by rw[List.map_nil]at r;cases r;exact⟨[],True.intro,.nil⟩
 | p::kvs,_,r=>by
  rw[QC]at r
  cases r with
  | @cons a b as bs h t =>
  obtain⟨rs,c,q⟩:=jS (P:=P) (w:=w) t;obtain⟨b1,b2⟩:=b;exact⟨(p.1,b2)::rs,⟨jF h.1,rfl,c⟩,.cons ⟨rfl,h.2⟩ q⟩
def yS (trs:List (TE × TE)):TE:=λσ H Q=>∀p,H p=none->oZ trs σ (upd H p (.dK [])) λps H2=>H2 p=some (.dK [])/\∃kvs:List (Key × V),ps=kvs.map (λkv=>(kV kv.1,kv.2))/\kvs.length<=15/\Q (.ref p) (upd H2 p (.dK (ju [] kvs)))
theorem vG {keys:List (Option Expr)} {values:List Expr} (h:PPs X pos keys values trs) (hall:keys.all (·.isSome)=true) (hl:keys.length=values.length) (h0:keys≠[])
  (h15:keys.length<=15):PE X (.Dict keys values pos) (yS trs):=by
 intro pins s σ H Q I q;have hn:=I.hok.fresh (Qh s.heap.objs.size);have I1:=I.laid (a:=s.heap.objs.size) (o:=.dK []) (h':=s.heap.push { cls:=.type "dict", data:=.dict #[] }) (t':=s.toks) (λ_ _ q=>Qd _ q) (Qh _) (oC s.heap I.big);refine wpAny_Dict_walk (knd:=bg X.prog X.w) hall hl h0 h15 (thn (h pins _ σ _ _ I1 (q _ hn)) λws s2 ⟨ps,H2,I2,rel,e,kvs,ep,lk,q2⟩=>?_);subst ep;obtain⟨rs,c,rk⟩:=jS (P:=X.prog) (w:=X.w) rel;obtain⟨z,hd,vs0,r0,dd⟩:=uZ I2.hok e;cases r0;refine⟨rs,c,dd,λh' dd' hs=>⟨.ref s.heap.objs.size,_,?_,rfl,q2⟩⟩
 have hz:(ju [] kvs).length<=sizeLine:=by
  have h1:=fK kvs [];rw[Xq]at h1;rw[sizeLine_eq];omega
 have he:∃q,h'.get? s.heap.objs.size=some q:=let ⟨q,_,_,hq,_⟩:=dd';⟨q,hq⟩;exact iO I2 (by rw[e];exact True.intro) hs he (pW hz hd (rk.merge .nil) dd')
structure M1 (X:Cx) (o:Expr) (m:Str) (apos:Pos) (e:Expr) (cpos:Pos):Prop where
 base:attributeBase o m X.env (eval o X.env)=eval o X.env
 few:((backTo cpos (starEach [e] X.env)).all (λx=>!x.1)&&(backToKw cpos (keywordEach [] X.env)).all (λx=>x.1.isSome)
  && decide (([e]:List Expr).length+([]:List Keyword).length+(if ([]:List Keyword).isEmpty then 0 else 1)<30))=true
 line:(apos.endLine==cpos.line)=true
 trees:backTo cpos (starEach [e] X.env)=[(false,eval e X.env)]
structure M2 (X:Cx) (o:Expr) (m:Str) (apos:Pos) (e f:Expr) (cpos:Pos):Prop where
 base:attributeBase o m X.env (eval o X.env)=eval o X.env
 few:((backTo cpos (starEach [e,f] X.env)).all (λx=>!x.1)&&(backToKw cpos (keywordEach [] X.env)).all (λx=>x.1.isSome)
  && decide (([e,f]:List Expr).length+([]:List Keyword).length+(if ([]:List Keyword).isEmpty then 0 else 1)<30))=true
 line:(apos.endLine==cpos.line)=true
 trees:backTo cpos (starEach [e,f] X.env)=[(false,eval e X.env),(false,eval f X.env)]
def IsD (H:Hp) (a:Addr):Prop:=(∃kvs,Rd H a (.dK kvs))\/∃kvs,Rd H a (.dT kvs)
theorem yx {σ:St} {a:Addr} (I:Inv X pins σ H s) (d:IsD H a) :
  s.TypeIs (.ref a) "dict" /\ (∀b,Value.ref a=.ref b->∃ob,s.heap.get? b=some ob/\ob.dict=none)/\(a==sysModules)=false:=by
 rcases d with⟨kvs,e⟩|⟨kvs,e⟩
 ·obtain⟨_,hd,vs,_,dd⟩:=jN I.hok e;refine⟨dd.typeIs,λb q=>?_,hd⟩;cases q;obtain⟨ob,_,_,h1,h2,_⟩:=dd;exact⟨ob,h1,h2.2.1⟩
 obtain⟨_,hd,xs,_,dd⟩:=kY I.hok e;refine⟨dd.typeIs,λb q=>?_,hd⟩;cases q;obtain⟨ob,_,_,h1,h2,_⟩:=dd;exact⟨ob,h1,h2.2.1⟩
section
variable {X:Cx} {pins:List (Addr × Obj)} {σ:St} {H:Hp} {s:Shared} {a:Addr} {y d:V} {u r:Value} {o:Option V} {A:Around} {E:Value->Shared->Prop}
end
section
variable {X:Cx} {o e f:Expr} {apos cpos:Pos} {td ty tx:TE}
end
section
variable {X:Cx} {pins:List (Addr × Obj)} {σ:St} {H:Hp} {s:Shared} {a:Addr} {kvs:List (Key × V)} {A:Around} {E:Value->Shared->Prop}
end
section
variable {X:Cx} {pins:List (Addr × Obj)} {σ:St} {H:Hp} {s:Shared} {a:Addr} {y:V} {u:Value} {A:Around} {E:Value->Shared->Prop}
end
end L2
namespace Att
open PySem PySem.W PySem.Calls PyProof.Rows
theorem iA {P:Params} {h:Heap}:∀(ns:List Int) (vs:List Value),WellAll P h vs (ns.map WData.int)->IntsAre vs ns:=by
 intro ns
 induction ns with
 | nil =>
  intro vs w;rw[List.map_nil]at w;cases w;exact .nil
 | cons n ns ih =>
 intro vs w;rw[QC]at w
 cases w with
 | cons a b =>
 cases a;exact .cons _ _ (ih _ b)
theorem rq {l:OpenLaw} {n:Nat} (hn:l.most=some n) {P:Params} {h:Heap} {args:List WData} {vals:List Value}
  (hpre:l.row.toRowW.claim.pre args=true) (hwl:WellAll P h vals args) :
  ∃a vs ns,vals=[Value.ref a]/\args=[WData.list (ns.map WData.int)]/\h.get? a=some { cls:=.type "list", data:=.seq vs.toArray }/\IntsAre vs ns/\ns.length<=n:=by
 have hsh:WShape.hasAll [] args [.list .int]=true:=(pre_splitW hpre).1;have hc:l.pre.holds [] { args:=args }=true:=(pre_splitW hpre).2;obtain⟨d,r,rfl,h1,h2⟩:=hasAllW_cons hsh;obtain rfl:=hasAllW_nil h2;obtain⟨xs,rfl,h3⟩:=hasW_list h1;obtain⟨ns,rfl⟩:=items_int h3
 have hlen:ns.length<=n:=by
  unfold OpenLaw.pre at hc
  have h4:(WTm.not (.lt (.lit (.int (n:Int))) (.len (.arg 0)))).holds [] { args:=[.list (ns.map .int)] }=true:=by
   have h4:=(holds_andW hc).1;rw[hn]at h4;exact h4
  have h5:=condW_of h4 (w_not (w_lt w_lit (w_len_list (w_arg rfl))));rw[Qc]at h5;refine Nat.le_of_not_lt λq=>?_;have q':(n:Int)<((ns.length:Nat):Int):=by omega
  first
   | (rw[QU q']at h5;exact absurd h5 (by decide))
   | (simp at h5;omega)
 cases hwl with
 | cons w1 w2 =>
 cases w2
 cases w1 with
 | list ho hall=>exact⟨_,_,ns,rfl,rfl,ho,iA ns _ hall,hlen⟩
theorem rJ (l:OpenLaw) (args:List WData):l.row.toRowW.claim.post args (.bool true) args=true :=
 postW_of (r:=l.row.toRowW) (X:=(true==true))
  (show WShape.has [] (.bool true) .bool=true by first|rfl|decide|simp[WShape.has,WShape.arms,WShape.armsAll])
  (show (WTm.eq .res (.lit (.bool true))).value [] { args:=args,res:=some (.bool true),after:=args }=some (.bool (true==true)) from w_eq_bool (w_res rfl) w_lit) rfl
theorem oN {l:OpenLaw} {n:Nat} {q:Program} {loose:List Str} {XP:(Str->Option Value)->Heap->Prop} {YP:World->Heap->Prop} {d:DefRec}
  (hn:l.most=some n) (hdf:d.params.defaults=[])
  (call:∀(w:World) (s₀ s₁:Shared) (mg mb:Str->Option Value) (fa:Addr) (o:Obj) (pm cd doc:Value) (a:Addr) (vs:List Value) (ns:List Int),
   Ground q loose [] XP w s₀ mg mb s₁.heap->YP w s₁.heap ->
   s₁.heap.get? fa=some o->o.data=.func (docDef d.name d.params d.body d.scope pm cd doc)->s₁.heap.CodeRec cd d.name->mg d.name=some (.ref fa) ->
   s₁.heap.get? a=some { cls:=.type "list", data:=.seq vs.toArray }->IntsAre vs ns->ns.length<=n->s₁.gens=#[] ->
   codeAny (model l.prog w) callerA (.call (.ref fa) ⟨[.ref a],[]⟩) (λr s'=>r=.ok (.ret (.bool true))/\OldK s₁.heap s'.heap/\s'.os=s₁.os/\AllBare s'.gens) s₁) :
  WalkO q loose XP YP l.row.toRowW d [] (λf vs=>PySem.call f vs):=by
 intro w s₀ s₁ mg mb G Y fa o pm cd doc dV kV ho hd hcd hD hmg hg args vals as hpre hlay hrd hwl hlo;obtain rfl:dV=.none:=Dflts.none hD hdf;obtain rfl:kV=.none:=Dflts.noKw hD;obtain⟨a,vs,ns,rfl,rfl,hobj,hints,hlen⟩:=rq hn hpre hwl;refine enter_call (codeAny_mono (call w s₀ s₁ mg mb fa o pm cd doc a vs ns G Y ho (fd_plain hd) hcd hmg hobj hints hlen hg) λr s' hq=>?_);obtain⟨rfl,h2,h3,h4⟩:=hq;exact⟨.inl ⟨.bool true,.bool true,[],rfl,λ_=>rfl,.bool true,rJ l _,λ_=>⟨List.Pairwise.nil,λ_ hm=>(nomatch hm)⟩⟩,h2,h3,h4⟩
section
variable {prog:Program} {w:World} {A:Around} {E:Value->Shared->Prop} {s:Shared} {K:Frag}
end
end Att
namespace L2
open PySem PySem.Spec PyProof.Rows
theorem kD:∀{vs:List Value} {ns:List Int},IntsAre vs ns->aY (ns.map V.int) vs
 | _,_,.nil=>.nil
 | _,_,.cons n t h=>.cons ⟨t,rfl⟩ (kD h)
end L2
/- THE LAST THEOREM (shape;LID,My.* are yours):
  My.Adr: a structure of the addresses that your layer names (classes,functions);My.Txt K t: a structure (Prop) of the equations over K;
  My.txt_mk:{K} {implicit addresses ..} (e1:nsIn K mainGlobals "law" = some (some (.ref f))) (e2:K.lookup f=some ⟨oc,od,.func (fnOf "law" "law" params body scope dV kV doc pm an cdv ct),sl⟩) (e3:codeIn K cdv "law" = true) ..:∃t,My.Txt K t
(the tactic k_is has no namespace: write k_is) -/
namespace L2
open PySem PySem.Spec PyProof.Rows
abbrev CX0:CXT:=λ_ _ _ _ _ _=>False
abbrev E0:XK:=λ_ _ _=>False
theorem wK {X:Cx}:jX CX0 X E0:=λ_ _ _ _ _ _ _ h=>h.elim
structure Fun (K:PySem.W.Frag) (x qual:Str) (st:Stmt) (f:Addr) (fd:FuncData):Prop where
 ex:∃(oc:Value) (od:Option Addr) (kV doc pm:Value) (an:Option Addr) (cdv ct:Value) (osl:Array (Option Value)),
  fd=PySem.W.fnOf x qual (cQ st) (bS st) (au st) .none kV doc pm an cdv ct/\K.lookup f=some ⟨oc,od,.func fd,osl⟩/\PySem.W.codeIn K cdv qual=true
 kp:PySem.W.keepIn K (.ref f)=true
section
variable {P:Program} {w:World} {K:PySem.W.Frag} {mg:Str->Option Value} {base:Heap}
variable {x qual:Str}
theorem Fun.ok {st:Stmt} {f:Addr} {fd:FuncData} {N ps:List Str} {k:Nat} {sp:Sp} (F:Fun K x qual st f fd) (S:FnScope N ps (au st)) (len:∀vs H Q E,sp vs H Q E->vs.length=ps.length)
  (hbody:∀(cdv:Value) (A:Around) (outer:List Env) (s:Shared) (H:Hp) (vs:List V) (Q:VK) (E:XK),Room k (A.deeper (envOfC qual (au st) s.heap.objs.size f cdv))->sp vs H Q E ->
   ∃t,PSs (cxOf CX0 P w K mg base N qual (au st) f cdv A outer s H E).nox (bS st) t/\t { nx:=λ_ H'=>Q .non H',rt:=Q } (start N vs) H):FnOk P w K mg base CX0 (k+1) f fd ps sp:=by
 obtain⟨oc,od,kV,doc,pm,an,cdv,ct,osl,rfl,lk,hcd⟩:=F.ex;refine xo lk hcd S len λA outer s H vs Q E hr hsp=>?_;obtain⟨t,h,q⟩:=hbody cdv A outer s H vs Q E hr hsp;exact⟨t,h.nox,q⟩
theorem Fun.binds {st:Stmt} {f:Addr} {fd:FuncData} {ps:List Str} (F:Fun K x qual st f fd)
  (h:∀(kV doc pm:Value) (an:Option Addr) (cdv ct:Value) (us:List Value),us.length=ps.length->bindArgs (PySem.W.fnOf x qual (cQ st) (bS st) (au st) .none kV doc pm an cdv ct) ⟨us,[]⟩=pure (ps.zip us)):fM K fd ps []:=by
 obtain⟨oc,od,kV,doc,pm,an,cdv,ct,osl,rfl,lk,hcd⟩:=F.ex;exact .all (h kV doc pm an cdv ct)
theorem pS {st:Stmt} {f:Addr} {oc:Value} {od an:Option Addr} {osl:Array (Option Value)} {kV doc pm cdv ct:Value} (l:K.lookup f=some ⟨oc,od,.func (PySem.W.fnOf x qual (cQ st) (bS st) (au st) .none kV doc pm an cdv ct),osl⟩)
  (c:PySem.W.codeIn K cdv qual=true) (k:PySem.W.keepIn K (.ref f)=true):Fun K x qual st f (PySem.W.fnOf x qual (cQ st) (bS st) (au st) .none kV doc pm an cdv ct):=⟨⟨oc,od,kV,doc,pm,an,cdv,ct,osl,rfl,l,c⟩,k⟩
end
theorem eI {A:Around} {k:Nat} (hr:Room k A):A.units+1<cLine:=XO (Nat.add_le_add_left (by decide:1<=64) _) hr.units
section
variable {X:Cx}
theorem pv (i:Nat) {x:Str} {pos:Pos} (hN:X.N[i]?=some x:=by rfl) (hv:Vis X.env.scope x:=by first|exact Or.inl rfl|exact Or.inr (Or.inl rfl)|exact Or.inr (Or.inr rfl)) (hd:(x==("__debug__" : Str))=false:=by decide)
  (hcd:(x==("__classdict__" : Str))=false:=by decide):PE X (.Name x pos) (eN i):=xP hN hv hd hcd
end
variable {A B c:Prop}
theorem iteF (h:B):if false=true then A else B:=by
 rw[QA Qn];exact h
theorem bV (h:A):if true=true then A else B:=by
 rw[Qz rfl];exact h
theorem ki [Decidable c] (h1:c->A) (h2:¬c->B):if c then A else B:=by
 by_cases h:c
 ·rw[Qz h];exact h1 h
 rw[QA h];exact h2 h
def aw (H H':Hp):Prop:=∀b o,H b=some o->H' b=some o
theorem aw.refl (H:Hp):aw H H:=λ_ _ h=>h
theorem aw.trans {H H1 H2:Hp} (a:aw H H1) (b:aw H1 H2):aw H H2:=λc o h=>b c o (a c o h)
theorem aw.free {H H':Hp} (e:aw H H') {l:Addr} (h:H' l=Option.none):H l=Option.none:=by
 cases q:H l with
 | none=>rfl
 | some o =>
 rw[e l o q]at h;cases h
theorem aw.seq {K:PySem.W.Frag} {H H':Hp} {a:Addr} {xs:List V} (e:aw H H') (h:SqL K H a xs):SqL K H' a xs:=by
 rcases h with(h|⟨o,h⟩)|h
 ·exact .inl (.inl (e _ _ h))
 ·exact .inl (.inr ⟨o,e _ _ h⟩)
 exact .inr h
section
variable {κ:Type} [DecidableEq κ]
variable {kvs:List (κ × V)}
theorem sW {k:κ} (h:bn kvs k=none):¬k∈kvs.map (·.1):=by
 intro m;obtain⟨p,hp,e⟩:=Qo.mp m;have q:(kvs.any λkv=>decide (kv.1=k))=true:=List.any_eq_true.mpr ⟨p,hp,QU e⟩;rw[cX,h]at q;exact absurd q (by simp)
theorem vh {k:κ} {v:V} (h:bn kvs k=some v):k∈kvs.map (·.1):=by
 have q:(kvs.any λkv=>decide (kv.1=k))=true:=by
  rw[cX,h]
  all_goals rfl
 obtain⟨p,hp,e⟩:=List.any_eq_true.mp q;exact Qo.mpr ⟨p,hp,of_decide_eq_true e⟩
end
section
variable {X:Cx}
end
end L2
set_option maxHeartbeats 4000000
namespace L2
open PySem PySem.Spec PyProof.Rows
def wk:St->St->Prop
 | [],[]=>True
 | none::a,_::b=>wk a b
 | some x::a,y::b=>y=some x/\wk a b
 | _,_=>False
theorem lA:∀{a b:St},wk a b->a.length=b.length
 | [],[],_=>rfl
 | [],_::_,h=>h.elim
 | none::_,[],h=>h.elim
 | some _::_,[],h=>h.elim
 | none::a,_::b,h=>congrArg (·+1) (lA (a:=a) (b:=b) h)
 | some _::a,_::b,h=>congrArg (·+1) (lA (a:=a) (b:=b) h.2)
theorem lB:∀{a b:St},wk a b->∀(i:Nat) (v:V),a[i]?=some (some v)->b[i]?=some (some v)
 | [],[],_,i,v,e=>by simp at e
 | [],_::_,h,_,_,_=>h.elim
 | none::_,[],h,_,_,_=>h.elim
 | some _::_,[],h,_,_,_=>h.elim
 | none::a,y::b,h,0,v,e=>by simp at e
 | none::a,y::b,h,i+1,v,e=>by
  have:=lB (a:=a) (b:=b) h i v (by simpa using e);simpa using this
 | some x::a,y::b,h,0,v,e=>by
  have e':x=v:=by simpa using e
  subst e';rw[h.1];rfl
 | some x::a,y::b,h,i+1,v,e=>by
  have:=lB (a:=a) (b:=b) h.2 i v (by simpa using e);simpa using this
def cq (env:Env):List (Str × NameKind)->List (Str × Addr)->List (Str × Addr)
 | [],acc=>acc
 | (n,k)::r,acc=>cq env r (if (k==.free)=true then (n,(env.cells.lookup n).getD 0)::acc else acc)
theorem jQ {env:Env}:∀(ns:List (Str × NameKind)) (acc:List (Str × Addr)),(∀y∈ns,y.2=.free->∃c,env.cells.lookup y.1=some c) ->
  (forIn ns acc (fun x r=>match x with
   | (name,kind)=>if (kind==NameKind.free)=true then (do let c <-cellOf env name;pure (ForInStep.yield ((name,c)::r))) else pure (ForInStep.yield r)):Sem (List (Str × Addr)))=pure (cq env ns acc)
 | [],acc,_=>rfl
 | (n,k)::r,acc,h=>by
  rw[List.forIn_cons];have ih:=λa=>jQ (env:=env) r a λy hy=>h y (Qq _ hy);by_cases hk:(k==NameKind.free)=true
  ·obtain⟨c,hc⟩:=h (n,k) Xd (by simpa using hk);have e1:cellOf env n=pure c:=by unfold cellOf;rw[hc]
   simp only[hk,if_true,e1,pure_bind];unfold cq;simp only[hk,if_true,hc,Option.getD_some];exact ih _
  simp only[hk,XV,pure_bind];unfold cq;simp only[hk,XV];exact ih _
variable {env:Env} {scope:Scope}
theorem jR (h:∀y∈scope.names,y.2=.free->∃c,env.cells.lookup y.1=some c):closureFor scope env=pure (cq env scope.names []):=by
 have e:=jQ scope.names [] h;unfold closureFor
 first
  | (rw[show (forIn scope.names ([]:List (Str × Addr)) _:Sem (List (Str × Addr)))=pure (cq env scope.names []) from e];rfl)
  | (simp only[bind_pure];exact e)
  | exact(congrArg (· >>= pure) e)
theorem hX {env:Env}:∀(ns:List (Str × NameKind)) (acc:List (Str × Addr)) (n:Str) (a:Addr),(n,a)∈cq env ns acc->(n,a)∈acc\/(a=(env.cells.lookup n).getD 0/\(n,NameKind.free)∈ns)
 | [],acc,n,a,h=>.inl h
 | (m,k)::r,acc,n,a,h=>by
  unfold cq at h;by_cases hk:(k==NameKind.free)=true
  ·rw[Qz hk]at h;rcases hX r _ n a h with q|⟨q1,q2⟩
   ·rcases QQ.mp q with q|q
    ·cases q;have hk':k=.free:=by simpa using hk
     subst hk';exact .inr ⟨rfl,Xd⟩
    exact .inl q
   exact .inr ⟨q1,Qq _ q2⟩
  rw[QA hk]at h;rcases hX r _ n a h with q|⟨q1,q2⟩
  ·exact .inl q
  exact .inr ⟨q1,Qq _ q2⟩
theorem k_ {env:Env}:∀(ns:List (Str × NameKind)) (acc:List (Str × Addr)) (p:Str × Addr),p∈acc->p∈cq env ns acc
 | [],_,_,h=>h
 | (m,k)::r,acc,p,h=>by
  unfold cq;refine k_ r _ p ?_
  split
  ·exact Qq _ h
  exact h
theorem jP {env:Env}:∀(ns:List (Str × NameKind)) (acc:List (Str × Addr)) (n:Str),(n,NameKind.free)∈ns->(n,(env.cells.lookup n).getD 0)∈cq env ns acc
 | [],_,_,h=>nomatch h
 | (m,k)::r,acc,n,h=>by
  unfold cq;rcases QQ.mp h with q|q
  ·cases q;refine k_ r _ _ ?_;rw[Qz (by rfl)];exact Xd
  exact jP r _ n q
theorem c8 {α β:Type} [BEq α] [LawfulBEq α]:∀{l:List (α × β)} {x:α} {y:β},l.lookup x=some y->(x,y)∈l
 | [],_,_,h=>by simp at h
 | (a,b)::r,x,y,h=>by
  rw[Q2]at h;by_cases e:(x==a)=true
  ·rw[e]at h;have e':x=a:=by simpa using e
   have h':b=y:=by simpa using h
   subst e' h';exact Xd
  have e2:(x==a)=false:=by simpa using e
  rw[e2]at h;exact Qq _ (c8 (by simpa using h))
theorem fJ {α β:Type} [BEq α] [LawfulBEq α]:∀{l:List (α × β)} {x:α} {y:β},(x,y)∈l->∃z,l.lookup x=some z
 | [],_,_,h=>nomatch h
 | (a,b)::r,x,y,h=>by
  rw[Q2];by_cases e:(x==a)=true
  ·rw[e];exact⟨b,rfl⟩
  have e2:(x==a)=false:=by simpa using e
  rw[e2];rcases QQ.mp h with q|q
  ·cases q;simp at e
  exact fJ q
variable {c it e T D p:Addr} {x z:Str} {ns:List (Str × NameKind)}
theorem u7 (h:(cq env ns []).lookup x=some c) (hall:∀y∈ns,y.2=.free->∃c,env.cells.lookup y.1=some c):env.cells.lookup x=some c:=by
 rcases hX ns [] x c (c8 h) with q|⟨q1,q2⟩
 ·nomatch q
 obtain⟨c',hc⟩:=hall _ q2 rfl;have hc':env.cells.lookup x=some c':=hc;rw[hc']at q1;rw[hc',q1];rfl
theorem qU {env:Env} (h:(x,NameKind.free)∈ns):∃c,(cq env ns []).lookup x=some c:=fJ (jP ns [] x h)
noncomputable def Cx.block (X:Cx) (N:List Str) (scope:Scope) (C:Addr) (s:Shared) (H:Hp) (fp:List Addr):Cx :=
 { X with N:=N,s₀:=s,H₀:=H,env:=compEnvC scope (cq X.env scope.names []) C X.env,outer:=X.stack,ex:=fp,fn:=λ_=>false,pn:=[],xe:=λ_ _=>False }
theorem l6 {k:NameKind} (h:(relabel scope env).names.lookup x=some k):∃k',scope.names.lookup x=some k'/\(k=k'\/(k'=.free/\k=.cell)):=by
 unfold relabel at h;generalize scope.names=ns at h
 induction ns with
 | nil=>simp at h
 | cons p r ih =>
 obtain⟨n,k0⟩:=p;rw[QC]at h;by_cases e:(x==n)=true
 ·refine⟨k0,by rw[Q2,e],?_⟩;by_cases c:(k0==NameKind.free&&env.scope.kind==.function&&env.kindOf n==some .cell)=true
  ·have h1:some NameKind.cell=some k:=by
    have h2:=h;simp only[c,if_true]at h2;rw[Q2,e]at h2;exact h2
   have h3:k0=.free:=by
    simp only[XA,beq_iff_eq]at c;exact c.1.1
   exact .inr ⟨h3,(QX h1).symm⟩
  have h1:some k0=some k:=by
   have h2:=h;simp only[c,QK,XV]at h2;rw[Q2,e]at h2;exact h2
  exact .inl (QX h1).symm
 have e2:(x==n)=false:=by simpa using e
 rw[Q2,e2];refine ih ?_;by_cases c:(k0==NameKind.free&&env.scope.kind==.function&&env.kindOf n==some .cell)=true
 ·have h2:=h;simp only[c,if_true]at h2;rw[Q2,e2]at h2;exact h2
 have h2:=h;simp only[c,QK,XV]at h2;rw[Q2,e2]at h2;exact h2
theorem l8 (h:scope.names.lookup x=some .free):(relabel scope env).names.lookup x=some .cell\/(relabel scope env).names.lookup x=some .free:=by
 unfold relabel;show List.lookup x (scope.names.map _)=_\/List.lookup x (scope.names.map _)=_;generalize scope.names=ns at h
 induction ns with
 | nil=>simp at h
 | cons p r ih =>
 obtain⟨n,k0⟩:=p;rw[QC];by_cases e:(x==n)=true
 ·rw[Q2,e]at h;have h':k0=.free:=by simpa using h
  subst h';by_cases c:(NameKind.free==NameKind.free&&env.scope.kind==.function&&env.kindOf n==some .cell)=true
  ·left
   simp only[c,if_true];rw[Q2,e]
  right
  simp only[c,QK,XV];rw[Q2,e]
 have e2:(x==n)=false:=by simpa using e
 rw[Q2,e2]at h;have h3:=ih h;by_cases c:(k0==NameKind.free&&env.scope.kind==.function&&env.kindOf n==some .cell)=true
 ·simp only[c,if_true];rw[Q2,e2];exact h3
 simp only[c,QK,XV];rw[Q2,e2];exact h3
def wj (X:Cx) (ifs:List Expr) (t:TT):Prop :=
 ∀(pins:List (Addr × Obj)) (s:Shared) (σ:St) (H:Hp) (Q:Bool->Hp->Prop),Inv X pins σ H s->t σ H Q ->
  wpAny (model X.prog X.w) X.A (forIn ifs true λc r=>if r=true then do let ok <-isTrue c X.env (eval c X.env);pure (ForInStep.yield ok) else pure (ForInStep.yield r)) (TP X pins σ Q) X.xe s
def fF:TT:=λ_ H Q=>Q true H
theorem gv {X:Cx}:wj X [] fF:=λ_ _ _ H _ I h=>wpAny_tests_nil ⟨H,I,h⟩
theorem tT {X:Cx} {c:Expr} {t:TT} (h:PT X c t):wj X [c] t:=λpins s σ H Q I hw=>wpAny_tests_one (h pins s σ H Q I hw)
variable {w:World} {prog P:Program}
theorem gH {A:Around} {R:Result->Shared->Prop} {s:Shared} {elt target iter:Expr} {ifs:List Expr} {pos:Pos} {it acc:Value} (I:Nat->Shared->Prop)
  (turn:∀n s,I n s->wpAny (model prog w) A (pyNext it) (fun r s1=>match r with
   | none=>R (.ok .next) s1
   | some v=>wpAny (model prog w) A (letOwnedTupleGo target it v) (λ_ s2=>wpAny (model prog w) A (assign target env v) (λ_ s3 =>
     wpAny (model prog w) A (forIn ifs true λc r=>if r=true then do let ok <-isTrue c env (eval c env);pure (ForInStep.yield ok) else pure (ForInStep.yield r)) (λok s4 =>
      if ok=true then wpAny (model prog w) A (eval elt env) (λx s5 =>
       wpAny (model prog w) A (call (.builtin "list.append") [acc,x]) (λ_ s6=>∃m,m<n/\I m s6) (λ_ _=>False) s5) (λ_ _=>False) s4
      else ∃m,m<n/\I m s4) (λ_ _=>False) s3) (λ_ _=>False) s2) (λ_ _=>False) s1) (λ_ _=>False) s)
  (n:Nat) (h:I n s):codeAny (model prog w) A (.compLoop (.ListComp elt [⟨target,iter,ifs,0⟩] scope pos) 0 it acc env) R s:=by
 refine codeAny_loop rfl I (λn s hI=>?_) n h;show wpAny _ A ((compTurn (.ListComp elt [⟨target,iter,ifs,0⟩] scope pos) 0 it acc env).onRaise (λx=>do noteFrame x env;theTreesLotGoes x)) _ _ s;refine wpAny_noted ?_;rw[compTurn_list];have no:∀{E:Value->Shared->Prop},∀e s',(λ(_:Value) (_:Shared)=>False) e s'->E e s':=λ_ _ z=>False.elim z;refine Qa (wpAny_standAt (Qa (Xn (turn n s hI) (λr s1 h1=>?_) no)))
 cases r with
 | none=>exact Qf h1
 | some v =>
 refine Qa (Xn h1 (λ_ s2 h2=>?_) no);refine Qa (Xn h2 (λ_ s3 h3=>Qa (Xn h3 (λok s4 h4=>?_) no)) no)
 cases ok with
 | false=>exact Qf ⟨rfl,h4⟩
 | true =>
 exact Qa (Qa (Xn h4 (λx s5 h5=>Qa (Xn h5 (λ_ s6 h6=>Qf (Qf ⟨rfl,h6⟩)) no)) no))
def bH (tgs:List Str) (cap:List (Str × Nat)) (σ:St):St:=tgs.map (λ_=>none)++cap.map λc=>(σ[c.2]?).join
def kH (wi:TI) (g:TG) (tt:TT) (te:TE) (f:St->St):TE:=λσ H Q=>wi σ H λJ H1=>∀D,H1 D=none->∃W:Nat->Nat->Hp->List V->Prop,(∃m,W 0 m (upd H1 D (.lst [])) []) /\
 ∀i m H ys,W i m H ys->H D=some (.lst ys)/\((J.stop i H/\Q (.ref D) H)\/(J.go i H/\∀x H',J.yld i H x H'->g x (f σ) H' λσ2 H2=>wk (f σ) σ2/\tt σ2 H2 λb H3 =>
  if b=true then te σ2 H3 λv H4=>H4 D=some (.lst ys)/\ys.length<sizeLine/\∃m',m'<m/\W (i+1) m' (upd H4 D (.lst (ys++[v]))) (ys++[v])
  else ∃m',m'<m/\W (i+1) m' H3 ys))
structure BlockOk (X:Cx) (scope:Scope) (tgs:List Str) (cap:List (Str × Nat)):Prop where
 kind:scope.kind=.function
 nocell:(scope.names.all λy=>!(y.2==NameKind.cell))=true
 names:(scope.names.all λy=>!(y.2==NameKind.local) || (scope.names.lookup y.1==some .local))=true
 free:(scope.names.all λy=>!(y.2==NameKind.free) || (X.env.scope.names.lookup y.1==some .cell) || (X.env.scope.names.lookup y.1==some .free))=true
 caps:(cap.all λc=>decide (X.N[c.2]?=some c.1)&&(scope.names.lookup c.1==some .free)&&(decide (X.env.scope.names.lookup c.1=some .cell) || decide (X.env.scope.names.lookup c.1=some .free)))=true
 tgl:(tgs.all λx=>(scope.names.lookup x==some .local))=true
section
variable {X:Cx} {scope:Scope} {tgs:List Str} {cap:List (Str × Nat)}
theorem BlockOk.cellAt (B:BlockOk X scope tgs cap) (ok:X.Ok):∀y∈scope.names,y.2=.free->∃c,X.env.cells.lookup y.1=some c:=λy hy hk=>by
 have q:=QJ.mp B.free y hy;rw[hk]at q;refine ok.has y.1 ?_;simp only[beq_self_eq_true,Bool.not_true,Bool.false_or,Bool.or_eq_true,beq_iff_eq]at q;exact q
theorem BlockOk.noc (B:BlockOk X scope tgs cap):∀y∈scope.names,y.2≠.cell:=λy hy hk=>by
 have q:=QJ.mp B.nocell y hy;rw[hk]at q;simp at q
theorem BlockOk.locs (B:BlockOk X scope tgs cap):∀y∈scope.names,y.2=.local->scope.names.lookup y.1=some .local:=λy hy hk=>by
 have q:=QJ.mp B.names y hy;rw[hk]at q;simpa using q
variable {pins:List (Addr × Obj)}
theorem Inv.enter {σ:St} {H:Hp} {s:Shared} {h1:Heap} {tk:Nat} {fp:List Addr} (B:BlockOk X scope tgs cap) (I:Inv X pins σ H s) (hfp:∀b∈fp,gc X pins H b) (hlt:∀b∈fp,b<s.heap.objs.size)
  (hns:h1.Ns s.heap.objs.size (λ_=>none)) (old:∀b o,s.heap.get? b=some o->h1.get? b=some o) :
  Inv (X.block (tgs++cap.map (·.1)) scope s.heap.objs.size s H fp) [] (bH tgs cap σ) H { s with heap:=h1,toks:=tk }:=by
 have cellsIn:∀x c,(cq X.env scope.names []).lookup x=some c->X.env.cells.lookup x=some c:=λx c e=>u7 e (B.cellAt I.ok)
 have kindIn:∀x,((relabel scope X.env).names.lookup x=some .cell\/(relabel scope X.env).names.lookup x=some .free)->(x,NameKind.free)∈scope.names:=λx hx=>by
  have go:∀k,(relabel scope X.env).names.lookup x=some k->(k=.cell\/k=.free)->(x,NameKind.free)∈scope.names:=λk hk hc=>by
   obtain⟨k',e1,e2⟩:=l6 hk;have m:=c8 e1;rcases e2 with e2|⟨e2,_⟩
   ·subst e2;rcases hc with z|z
    ·exact absurd z (B.noc _ m)
    subst z;exact m
   subst e2;exact m
  rcases hx with h|h
  ·exact go _ h (.inl rfl)
  exact go _ h (.inr rfl)
 have nocl:∀x c,X.env.cells.lookup x=some c->c≠s.heap.objs.size:=λx c e=>by
  obtain⟨v,q⟩:=I.cell x c e;exact QB q.lt
 refine⟨⟨I.ok.mod,?_,I.ok.glob,I.ok.blt,Qh _,λx y c e1 e2=>I.ok.inj x y c (cellsIn x c e1) (cellsIn y c e2),λx hx=>?_,λx c hf _=>absurd (show false=true from hf) Qn,I.ok.hd,I.ok.frames,.inl rfl,
  λb hb=>⟨QB (hlt b hb),λx c e=>?_⟩,I.bs,QP I.ok.bsz I.sz,λb o e hb=>?_,λb hb hf=>?_,I.stack,I.stkFree⟩,
  rfl,I.bare,Un.kept old,⟨_,hns,λi x v h2 h3 h4=>?_⟩,λx c e=>?_,?_,λx c e=>I.freeC x c (cellsIn x c e),λp hp=>absurd (show p∈([]:List (Addr × Obj)) from hp) (by simp),I.hok.kept old,?_⟩
 ·exact B.kind
 ·exact qU (kindIn x hx)
 ·exact(hfp b hb).2.2.2.2.1 x c (cellsIn x c e)
 ·-- no object of the base is an iterator of ours
  rcases(hfp b hb).2.2.2.1 with z|z
  ·exact I.ok.noex b o e z
  have q:=I.ok.bs b o e;exact absurd (QE (Qm q.1) z) (XF _)
 ·have hf':b∈frs X.stack:=hf;rcases QQ.mp (I.stkSub b hf') with z|z
  ·exact(hfp b hb).2.1 z
  exact(hfp b hb).2.2.1 z
 ·-- a name that is known: one of the captured ones
  have hi:tgs.length<=i:=by
   by_cases hl:i<tgs.length
   ·exfalso;unfold bH at h3;rw[QT (by simpa using hl),Qi]at h3
    cases e:tgs[i]? with
    | none=>rw[e]at h3;cases h3
    | some z=>rw[e]at h3;cases h3
   exact om2 hl
  unfold bH at h3;rw[QN (by simpa using hi),Qc,Qi]at h3;have h2':(tgs++cap.map (·.1))[i]?=some x:=h2;rw[QN hi,Qi]at h2'
  cases e:cap[i-tgs.length]? with
  | none=>rw[e]at h2';cases h2'
  | some c =>
  rw[e]at h2' h3;have hx:c.1=x:=by simpa using h2'
  have hv:(σ[c.2]?).join=some v:=by simpa using h3
  have hm:c∈cap:=Qg e;have q:=QJ.mp B.caps c hm;simp only[XA,decide_eq_true_eq,beq_iff_eq,Bool.or_eq_true]at q;obtain⟨⟨q1,q2⟩,q3⟩:=q
  have hσ:σ[c.2]?=some (some v):=by
   cases z:σ[c.2]? with
   | none=>rw[z]at hv;cases hv
   | some o =>
   rw[z]at hv;have:o=some v:=by simpa using hv
   rw[this]
  obtain⟨m,_,hl⟩:=I.loc
  obtain⟨u,r,l⟩:=hl c.2 c.1 v q1 hσ (by
   rcases q3 with z|z
   ·exact .inr (.inl z)
   exact .inr (.inr z))
  subst hx;refine⟨u,r,.inr ⟨l8 q2,?_⟩⟩
  have nl:¬X.env.kindOf c.1=some .local:=λz=>by
   rcases q3 with y|y
   ·have:X.env.kindOf c.1=some .cell:=y;rw[this]at z;cases z
   have:X.env.kindOf c.1=some .free:=y;rw[this]at z;cases z
  rcases l with⟨l1,_⟩|⟨_,d,l2,l3⟩
  ·exact absurd l1 nl
  obtain⟨d',e'⟩:=qU (env:=X.env) (c8 q2);have:d=d':=QX (l2.symm.trans (cellsIn _ _ e'));subst this;obtain⟨oc,ho,hd⟩:=l3;exact⟨d,e',oc,old d oc ho,hd⟩
 ·obtain⟨v,oc,ho,hd⟩:=I.cell x c (cellsIn x c e);exact⟨v,oc,old c oc ho,hd⟩
 ·exact I.hok.fresh (Qh _)
 unfold bH;show _=(tgs++cap.map (·.1)).length;simp
theorem Inv.leave {σ σ':St} {H H':Hp} {s s':Shared} {h2:Heap} {fp:List Addr} {N:List Str} (I:Inv X pins σ H s) (hfp:∀b∈fp,gc X pins H b)
  (J:Inv (X.block N scope s.heap.objs.size s H fp) [] σ' H' s') (hs:Heap.SameBut s.heap.objs.size s'.heap h2):Inv X pins σ H' { s' with heap:=h2 }:=by
 have u:Un (frs X.stack) fp H H' s.heap s'.heap:=J.base;have ne:∀b o,s.heap.get? b=some o->b≠s.heap.objs.size:=λb o e=>QB (Qm e);have hf:H' s.heap.objs.size=none:=J.free;have k:∀b o,b≠s.heap.objs.size->s'.heap.get? b=some o->h2.get? b=some o:=λb o hb e=>(hs.2 b hb).trans e
 have u2:Un (frs X.stack) fp H H' s.heap h2 :=
  ⟨λb o e n h1 h3=>k b o (ne b o e) (u.keep b o e n h1 h3),λb o e n h1 h3=>let ⟨sl,q⟩:=u.slot b o e n h1 h3;⟨sl,k b _ (ne b o e) q⟩,u.free,λb o e h3=>let ⟨o',q⟩:=u.there b o e h3;⟨o',k b o' (ne b o e) q⟩,u.tups,u.frzs,u.tbls⟩
 have hok:HOk X.prog X.w H' h2:=λb ob e=>(J.hok b ob e).stay (λc v hc q=>k c v (by
  rcases hc with z|z
  ·subst z;intro y;rw[y,hf]at e;cases e
  intro y
  rw[y,hf]at z;cases z) q) (λ_ q=>q) λ_ _ q=>q
 exact Inv.call' I (s':={ s' with heap:=h2 }) J.os u2 hok J.bare λb hb=>by
  obtain⟨f0,f1,f2,f3,f4,f5⟩:=hfp b hb;exact⟨f3,f1,f4,f5⟩
theorem qy {elt tg iter:Expr} {ifs:List Expr} {pos:Pos} {wi:TI} {g:TG} {tt:TT} {te:TE} (hc:X.calm=true) (B:BlockOk X scope tgs cap) (hi:PI X tg iter wi)
  (hg:∀C s H fp,PG (X.block (tgs++cap.map (·.1)) scope C s H fp) tg g) (ht:∀C s H fp,wj (X.block (tgs++cap.map (·.1)) scope C s H fp) ifs tt) (he:∀C s H fp,PE (X.block (tgs++cap.map (·.1)) scope C s H fp) elt te)
  (hs:∀x,foldedSetIterable iter X.env x=pure x:=by intro _;rfl):PE X (.ListComp elt [⟨tg,iter,ifs,0⟩] scope pos) (kH wi g tt te (bH tgs cap)):=by
 intro pins s σ H Q I h;rw[eval_ListComp];refine wpAny_comprehension_free (use:=none) rfl hs (jR (B.cellAt I.ok)) B.kind B.locs (thn (hi pins s σ H _ I h) λv s1 h1=>thn h1 λitv s2 h2=>?_);obtain⟨it,fp,tn,J,H2,e,I2,T,st2,f2,q⟩:=h2;subst e;have lt2:∀b∈fp,b<s2.heap.objs.size:=λb hb=>let ⟨o,e,_⟩:=T.obj _ _ st2 b hb;Qm e;have hD:H2 s2.heap.objs.size=none:=I2.hok.fresh (Qh _);obtain⟨W,⟨m0,w0⟩,turn⟩:=q s2.heap.objs.size hD;refine wpAny_newObj_type ?_;have I3:Inv X pins σ (upd H2 s2.heap.objs.size (.lst [])) { s2 with heap:=s2.heap.push { cls:=.type "list", dict:=none,data:=.seq ([]:List Value).toArray } }:=I2.lnew (t':=s2.toks) (ys:=[]) (its:=[]) .nil (QM _);have st3:tn 0 (s2.heap.push { cls:=.type "list", dict:=none,data:=.seq ([]:List Value).toArray }):=T.keep _ _ _ st2 λb _ o e=>Qd _ e;have nD:∀b∈fp,b≠s2.heap.objs.size:=λb hb=>QB (lt2 b hb);have f3:∀b∈fp,gc X pins (upd H2 s2.heap.objs.size (.lst [])) b:=λb hb=>⟨by rw[aq (nD b hb)];exact(f2 b hb).1,(f2 b hb).2⟩;generalize hs3:({ s2 with heap:=s2.heap.push { cls:=.type "list", dict:=none,data:=.seq ([]:List Value).toArray } }:Shared)=s3 at I3 st3 ⊢;have st3':tn 0 s3.heap:=by rw[<-hs3];exact st3
 have lt3:∀b∈fp,b<s3.heap.objs.size:=λb hb=>let ⟨o,e,_⟩:=T.obj _ _ st3' b hb;Qm e;generalize hH3:upd H2 s2.heap.objs.size (.lst [])=H3 at I3 f3 w0;generalize s2.heap.objs.size=D at *;refine wpAny_newFunctionEnv B.noc (by intro y hy;simp at hy) (λh1 hns hsb=>?_) B.kind;have old:∀b o,s3.heap.get? b=some o->h1.get? b=some o:=λb o e=>hsb.extBut b o (QB (Qm e)) (Qd _ e);have I4:=Inv.enter (tk:=s3.toks+([]:List (Str × Value)).length) (h1:=h1) B I3 f3 lt3 hns old;have st4:tn 0 h1:=T.keep _ _ _ st3' λb _ o e=>old b o e
 have fpB:∀{H':Hp},(∀b∈fp,H' b=none)->∀b∈fp,gc (X.block (tgs++cap.map (·.1)) scope s3.heap.objs.size s3 H3 fp) [] H' b:=λ{H'} hn b hb =>
  ⟨hn b hb,QB (lt3 b hb),I4.ok.exfs b hb,.inl hb,λx c e=>(I4.ok.exf b hb).2 x c e,λp hp=>absurd (show p∈([]:List (Addr × Obj)) from hp) (by simp)⟩
 have loop:codeAny (model X.prog X.w) X.A (.compLoop (.ListComp elt [⟨tg,iter,ifs,0⟩] scope pos) 0 (.ref it) (.ref D) (compEnvC scope (cq X.env scope.names []) s3.heap.objs.size X.env))
   (compPost (model X.prog X.w) X.A X.xe none (EP X pins σ Q) (.ref D) s3.heap.objs.size) { s3 with heap:=h1,toks:=s3.toks+([]:List (Str × Value)).length }:=by
  refine gH (λn s'=>∃i H' ys,Inv (X.block (tgs++cap.map (·.1)) scope s3.heap.objs.size s3 H3 fp) [] (bH tgs cap σ) H' s'/\tn i s'.heap/\(∀b∈fp,H' b=none)/\W i n H' ys) ?_ m0 ⟨0,H3,[],I4,st4,λb hb=>(f3 b hb).1,w0⟩;rintro n s5 ⟨i,H5,ys,I5,st5,fr5,w5⟩;obtain⟨hl,ht5⟩:=turn i n H5 ys w5;rcases ht5 with⟨stop,qd⟩|⟨go,step⟩
  ·refine thn (T.done (X.block (tgs++cap.map (·.1)) scope s3.heap.objs.size s3 H3 fp) rfl rfl rfl hc i [] s5 _ H5 _ I5 (fpB fr5) st5 stop) λr s6 ⟨hr,I6⟩=>?_;subst hr;obtain⟨m6,n6,_⟩:=I6.loc;exact⟨m6,n6,λh' hs'=>⟨.ref D,H5,Inv.leave I3 f3 I6 hs',rfl,qd⟩⟩
  refine thn (T.item (X.block (tgs++cap.map (·.1)) scope s3.heap.objs.size s3 H3 fp) rfl rfl rfl hc i [] s5 _ H5 _ I5 (fpB fr5) st5 go) λr s6 ⟨u,hr,h6⟩=>?_;subst hr;refine thn h6 λ_ s7 ⟨x,H7,I7,r7,y7,st7,fr7⟩=>?_;have I7':=I7.pinned (fpB fr7) (T.obj _ _ st7)
  have again:∀{σ8:St} {H8:Hp} {s8:Shared} {ys8:List V},Inv (X.block (tgs++cap.map (·.1)) scope s3.heap.objs.size s3 H3 fp) ([]++gZ fp s7.heap) σ8 H8 s8->wk (bH tgs cap σ) σ8->(∃m',m'<n/\W (i+1) m' H8 ys8) ->
    ∃m,m<n/\∃i H' ys,Inv (X.block (tgs++cap.map (·.1)) scope s3.heap.objs.size s3 H3 fp) [] (bH tgs cap σ) H' s8/\tn i s8.heap/\(∀b∈fp,H' b=none)/\W i m H' ys:=λ{σ8 H8 s8 ys8} I8 k8 ⟨m',hm,w8⟩=>by
   refine⟨m',hm,i+1,H8,ys8,I8.unpinned.weak (lA k8) (lB k8),T.keep _ _ _ st7 λb hb o e=>(I8.pin (b,o) (QL _ (QL _ (cx hb e)))).1,λb hb=>?_,w8⟩;obtain⟨o,e,d⟩:=T.obj _ _ st7 b hb;exact(I8.pin (b,o) (QL _ (QL _ (cx hb e)))).2.1
  refine thn (hg _ _ _ _ _ s7 _ H7 x u _ I7' r7 (step x H7 y7)) λ_ s8 ⟨σ8,H8,I8,k8,q8⟩=>?_;refine thn (ht _ _ _ _ _ s8 σ8 H8 _ I8 q8) λok s9 ⟨H9,I9,q9⟩=>?_
  cases ok with
  | false =>
   rw[QA Qn]at q9 ⊢;exact again I9 k8 q9
  | true =>
  rw[Qz rfl]at q9 ⊢;refine thn (he _ _ _ _ _ s9 σ8 H9 _ I9 q9) λy sA ⟨yv,HA,IA,rA,hA,zA,qA⟩=>?_;exact thn (cw _ sA σ8 HA (.ref D) [yv] (.ref D) [y] (λv H'=>v=.non/\∃m',m'<n/\W (i+1) m' H' (ys++[yv])) IA rfl (.cons rA .nil) ⟨D,ys,yv,rfl,rfl,hA,zA,rfl,qA⟩) λ_ sB ⟨_,HB,IB,_,_,qB⟩=>again IB k8 qB
 exact codeAny_compStart_list loop (T.self _ 0 _ _ _ st4 loop)
theorem c7 {X:Cx} {scope:Scope} {elt iter:Expr} {p pos:Pos} {wi:TI} {te:TE} (x:Str) (cap:List (Str × Nat)) (hi:PI X (.Name x p) iter wi) (he:∀C s H fp,PE (X.block ([x]++cap.map (·.1)) scope C s H fp) elt te) (hc:X.calm=true:=by rfl) (B:BlockOk X scope [x] cap:=by exact⟨rfl,rfl,rfl,rfl,rfl,rfl⟩) (hN:([x]++cap.map (·.1)).Nodup:=by decide +kernel) (hg:([x]++cap.map (·.1)).Nodup->∀C s H fp,PG (X.block ([x]++cap.map (·.1)) scope C s H fp) (.Name x p) (eJ 0):=by intro h _ _ _ _;exact cP (i:=0) h rfl (by walk_at "z")) (hs:∀x,foldedSetIterable iter X.env x=pure x:=by intro _;rfl):PE X (.ListComp elt [⟨.Name x p,iter,[],0⟩] scope pos) (kH wi (eJ 0) fF te (bH [x] cap)):=qy hc B hi (hg hN) (λ_ _ _ _=>gv) he hs
end
def Itf (n:Nat) (f:Nat->V):It:=⟨λi _=>i<n,λi H x H'=>H'=H/\x=f i,λi _=>i=n⟩
variable {n i:Nat}
theorem iS {K:PySem.W.Frag} {px:Pos} {f:Nat->V} {Pv:Nat->Value->Prop} {St:Nat->Heap->Prop}
  (W:∀A:Around,A.handled=none->Walks P w A it [it] [it] n Pv St) (hP:∀i v,Pv i v->aR (f i) v) (hobj:∀i h,St i h->∃o,h.get? it=some o/\∀v,o.data≠.cell v)
  (hfr:∀i h h',St i h->(∀o,h.get? it=some o->h'.get? it=some o)->St i h')
  (hself:∀(A:Around) (i:Nat) (s:Shared) (Q:Value->Shared->Prop) (E:Value->Shared->Prop),St i s.heap->Q (.ref it) s->wpAny (model P w) A (pyIter (.ref it)) Q E s) :
  Turn P w K (.Name x px) (Itf n f) [it] it St where
 mem:=by simp
 obj:=λi h st b hb=>by
  have e:b=it:=by simpa using hb
  subst e;exact hobj i h st
 keep:=λi h h' st k=>hfr i h h' st λo e=>k it (by simp) o e
 item:=by
  intro X hP' hw hK hc i pins s σ H E I hf st hg;subst hP' hw hK;obtain⟨f0,f1,f2,f3,f4,f5⟩:=hf it (by simp);refine(W X.A (I.ok.hd hc)).item i s _ _ hg st λv h' tk hv st' kk=>?_;have I1:Inv X pins σ H { s with heap:=h',toks:=tk }:=I.turned (λb o hb e=>kk b o (by simpa using hb) e) f0 f1 f3 f4 f5;refine⟨v,rfl,wpAny_of_eq (a:=()) (by rfl) ⟨f i,H,I1,hP i v hv,⟨rfl,rfl⟩,st',λb hb=>(hf b hb).1⟩⟩
 done:=by
  intro X hP' hw hK hc i pins s σ H E I hf st hg;subst hP' hw hK;obtain⟨f0,f1,f2,f3,f4,f5⟩:=hf it (by simp);have e:i=n:=hg;subst e;exact(W X.A (I.ok.hd hc)).done s _ _ st λh' tk kk=>⟨rfl,I.turned (λb o hb e=>kk b o (by simpa using hb) e) f0 f1 f3 f4 f5⟩
 self:=λA i s Q E st h=>hself A i s Q E st h
def eQ (z:Str) (i:Nat):V:=.str ⟨#[z.cps.getD i 0]⟩
theorem i9 {v:Value} (h:SignAt z i v):aR (eQ z i) v:=by
 obtain⟨c,u,h1,h2⟩:=h;subst h2;refine⟨u,?_⟩;have:z.cps.getD i 0=c:=by rw[Q9,h1];rfl
 rw[this]
theorem sX {K:PySem.W.Frag} {px:Pos} {t:Tok} {ty:String} (hty:ty = "str_ascii_iterator" \/ ty = "str_iterator") :
  Turn P w K (.Name x px) (Itf z.cps.size (eQ z)) [it] it (λi h=>h.IsStrIter it ty z t i):=by
 rcases hty with e|e
 ·subst e
  exact iS (λA hA=>Walks.strAscii hA it z t) (λi v h=>i9 h) (λi h st=>let ⟨o,e,_,d⟩:=st;⟨o,e,λv q=>by rw[d]at q;cases q⟩)
   (λi h h' st k=>let ⟨o,e,r⟩:=st;⟨o,k o e,r⟩) λA i s Q E st q=>wpAny_pyIter_striter_ascii st q
 subst e
 exact iS (λA hA=>Walks.strWide hA it z t) (λi v h=>i9 h) (λi h st=>let ⟨o,e,_,d⟩:=st;⟨o,e,λv q=>by rw[d]at q;cases q⟩)
  (λi h h' st k=>let ⟨o,e,r⟩:=st;⟨o,k o e,r⟩) λA i s Q E st q=>wpAny_pyIter_striter_wide st q
section
variable {X:Cx} {x:Str} {px:Pos}
def BV (tl:TE):TI:=λσ H R=>tl σ H λv H1=>∃z:Str,v=.str z/\R (Itf z.cps.size (eQ z)) H1
theorem tU {l:Expr} {tl:TE} (hl:PE X l tl):PI X (.Name x px) l (BV tl):=by
 intro pins s σ H R I h;refine thn (hl pins s σ H _ I h) λv s1 ⟨y,H1,I1,r1,q1⟩=>?_;obtain⟨z,e,q⟩:=q1;subst e;obtain⟨t,e⟩:=r1;subst e
 have fin:∀ty:String,(ty = "str_ascii_iterator" \/ ty = "str_iterator")->PIE X pins σ (.Name x px) R (.ref s1.heap.objs.size) { s1 with heap:=s1.heap.push { cls:=.type ty,data:=.fields #[.str z t,.int 0 0] } }:=λty hty=>by
  refine⟨s1.heap.objs.size,[s1.heap.objs.size],_,_,H1,rfl,I1.kept (t':=s1.toks) λb o e=>Qd _ e,sX (t:=t) hty,⟨_,Qp _ rfl,rfl,rfl⟩,λb hb=>?_,q⟩;have e:b=s1.heap.objs.size:=by simpa using hb
  subst e;exact I1.fpOk (Qh _) (I1.hok.fresh (Qh _))
 cases ha:z.cps.all (·<128) with
 | false=>exact wpAny_pyIter_wide ha (fin _ (.inr rfl))
 | true=>exact wpAny_pyIter_ascii ha (fin _ (.inl rfl))
end
section
variable {X:Cx}
def yW:V->Option Int->Option Int->Hp->VK->Prop:=λx lo hi H Q=>∃z:Str,x=.str z/\z.length<=sizeLine/\Q (.str (Txt.slice z lo hi)) H
theorem o_:SlR X yW:=by
 intro pins s σ H x v vl vu lo hi sl Q I rx hs pl pu h;obtain⟨z,e,hz,q⟩:=h;subst e;obtain⟨t,e⟩:=rx;subst e;refine⟨"str", _,F.slot_str_getitem.lookup,typeIs_str _ _ _,?_⟩;have fin:∀(t':Tok) (k:Nat),EP X pins σ Q (.str (Txt.slice z lo hi) t') { s with toks:=k }:=λt' k=>⟨.str _,H,I.tok k,⟨t',rfl⟩,q⟩
 cases pl with
 | none =>
  cases pu with
  | none=>exact wpAny_getItem_str_slice (l:=none) (u:=none) (st:=none) hs rfl (post_val_or_str ⟨QP (Txt.slice_le z _ _) hz,fin⟩)
  | int j uj=>exact wpAny_getItem_str_slice (l:=none) (u:=some (j,uj)) (st:=none) hs rfl (post_val_or_str ⟨QP (Txt.slice_le z _ _) hz,fin⟩)
 | int i ui =>
 cases pu with
 | none=>exact wpAny_getItem_str_slice (l:=some (i,ui)) (u:=none) (st:=none) hs rfl (post_val_or_str ⟨QP (Txt.slice_le z _ _) hz,fin⟩)
 | int j uj=>exact wpAny_getItem_str_slice (l:=some (i,ui)) (u:=some (j,uj)) (st:=none) hs rfl (post_val_or_str ⟨QP (Txt.slice_le z _ _) hz,fin⟩)
theorem fP:∀{ys:List Str} {us:List Value},aY (ys.map V.str) us->StrsAre us ys
 | [],_,r=>by
  rw[List.map_nil]at r;cases r;exact .nil
 | y::ys,_,r=>by
  rw[QC]at r
  cases r with
  | cons r1 r2 =>
  obtain⟨t,e⟩:=r1;subst e;exact .cons y t (fP r2)
def yY (K:PySem.W.Frag):V->List V->Hp->VK->Prop:=λx vs H Q=>∃(z:Str) (l:Addr) (ys:List Str),x=.str z/\vs=[.ref l]/\SqL K H l (ys.map V.str)/\(ys.map (·.length)).sum+ys.length*z.length<=16777216/\Q (.str (Txt.join z ys)) H
theorem mC:MtR X "str.join" (yY X.K):=by
 intro pins s σ H x vs v us Q I rx rv h;obtain⟨z,l,ys,e1,e2,hl,hz,q⟩:=h;subst e1 e2;obtain⟨t,e⟩:=rx;subst e;obtain⟨u,e,ru⟩:=rv.one;subst e;cases ru;obtain⟨its,r,pl,_⟩:=I.list hl;exact join_list pl.isList (by simpa using fP r) hz λt' k=>⟨.str _,H,I.tok k,⟨t',rfl⟩,q⟩
theorem kU (ys:List Str):(Txt.join Str.empty ys).cps.toList=(ys.map (·.cps.toList)).flatten:=by
 unfold Txt.join;rw[PySem.StrLaws.glued_eq_join]
 induction ys with
 | nil=>rfl
 | cons y r ih =>
 cases r with
 | nil=>simp[Str.join]
 | cons y2 r2 =>
 show (y++Str.empty++Str.join Str.empty (y2::r2)).cps.toList=_;rw[QC,List.flatten_cons,<-ih];show (y.cps++Str.empty.cps++(Str.join Str.empty (y2::r2)).cps).toList=_;simp[Str.empty]
end
inductive EqD (K:PySem.W.Frag) (H:Hp):Nat->V->V->Bool->Prop
 | flat {n:Nat} {x y:V}:cL x=true->cL y=true->EqD K H n x y (eqV x y)
 | same {n:Nat} {a:Addr}:EqD K H n (.ref a) (.ref a) true
 | lists {n:Nat} {a b:Addr} {xs ys:List V} {e:Nat->Bool}:SqL K H a xs->SqL K H b ys->xs.length=ys.length->(∀(j:Nat) x y,xs[j]?=some x->ys[j]?=some y->EqD K H n x y (e j))->a≠b ->
   EqD K H (n+1) (.ref a) (.ref b) ((List.range xs.length).all e)
 | tups {n:Nat} {a b:Addr} {xs ys:List V} {e:Nat->Bool}:SqT K H a xs->SqT K H b ys->(∀(j:Nat) x y,xs[j]?=some x->ys[j]?=some y->EqD K H n x y (e j))->a≠b ->
   EqD K H (n+1) (.ref a) (.ref b) ((List.range (min xs.length ys.length)).all e&&xs.length==ys.length)
theorem EqD.at {X:Cx} {pins:List (Addr × Obj)} {σ:St} {H:Hp} {s:Shared} (I:Inv X pins σ H s) {n:Nat} {x y:V} {b:Bool} (h:EqD X.K H n x y b) :
  ∀{A:Around} {u v:Value},A.units+n<cLine->aR x u->aR y v->SeqAt.EqAt A s u v b:=by
 induction h with
 | flat fx fy=>intro A u v _ rx ry;exact uY rx ry fx fy
 | same =>
  intro A u v _ rx ry;cases rx;cases ry;exact SeqAt.EqAt.same _
 | @lists n a c xs ys e ha hb hl hi hne ih =>
  intro A u v hu rx ry;cases rx;cases ry;obtain⟨its,r1,p1,_⟩:=I.list ha;obtain⟨its2,r2,p2,_⟩:=I.list hb;have l1:=r1.length;have l2:=r2.length;refine SeqAt.EqAt.of_refs hne ?_
  have q:=SeqAt.RcAt.lists (A:=A) (e:=e) p1.isList p2.isList (by rw[Qk,Qk];exact om7 hl l1 l2) (by exact om8 hu) λj h1 h2=>by
   rw[Qk]at h1 h2;have e1:xs[j]?=some xs[j]:=Qb (by exact om9 hl l1 l2 h1);have e2:ys[j]?=some ys[j]:=Qb (by exact CZ hl l1 l2 h1);obtain⟨w1,g1,rr1⟩:=r1.get e1;obtain⟨w2,g2,rr2⟩:=r2.get e2
   have g1':its.toArray[j]=w1:=by
    have:=(Qe.mp g1).2;simpa using this
   have g2':its2.toArray[j]=w2:=by
    have:=(Qe.mp g2).2;simpa using this
   rw[g1',g2'];exact ih j _ _ e1 e2 (by show A.units+1+n<cLine;exact BH hu) rr1 rr2
  rw[Qk,<-l1]at q;exact q
 | @tups n a c xs ys e ha hb hi hne ih =>
 intro A u v hu rx ry;cases rx;cases ry;obtain⟨its,r1,p1,_⟩:=I.tuple ha;obtain⟨its2,r2,p2,_⟩:=I.tuple hb;have l1:=r1.length;have l2:=r2.length;refine SeqAt.EqAt.of_refs hne ?_
 have q:=SeqAt.RcAt.tuples (A:=A) (e:=e) (show s.heap.IsTuple a its.toArray from p1) (show s.heap.IsTuple c its2.toArray from p2) (by exact om8 hu) λj h1 h2=>by
  rw[Qk]at h1 h2;have e1:xs[j]?=some xs[j]:=Qb (by exact yn l1 h1);have e2:ys[j]?=some ys[j]:=Qb (by exact yn l2 h2);obtain⟨w1,g1,rr1⟩:=r1.get e1;obtain⟨w2,g2,rr2⟩:=r2.get e2
  have g1':its.toArray[j]=w1:=by
   have:=(Qe.mp g1).2;simpa using this
  have g2':its2.toArray[j]=w2:=by
   have:=(Qe.mp g2).2;simpa using this
  rw[g1',g2'];exact ih j _ _ e1 e2 (by show A.units+1+n<cLine;exact BH hu) rr1 rr2
 rw[Qk,Qk,<-l1,<-l2]at q;exact q
section
variable {X:Cx}
theorem EqD.items {pins:List (Addr × Obj)} {σ:St} {H:Hp} {s:Shared} (I:Inv X pins σ H s) {n:Nat} {A:Around} (hu:A.units+1+n<cLine) {xs ys:List V} {its its2:List Value} (r1:aY xs its) (r2:aY ys its2) {e:Nat->Bool}
  (h:∀(j:Nat) x y,xs[j]?=some x->ys[j]?=some y->EqD X.K H n x y (e j)) (j:Nat) (h1:j<its.toArray.size) (h2:j<its2.toArray.size):SeqAt.EqAt A.in1 s its.toArray[j] its2.toArray[j] (e j):=by
 have l1:=r1.length;have l2:=r2.length;rw[Qk]at h1 h2;have e1:xs[j]?=some xs[j]:=Qb (by exact Bs h1 l1);have e2:ys[j]?=some ys[j]:=Qb (by exact Bs h2 l2);obtain⟨w1,g1,rr1⟩:=r1.get e1;obtain⟨w2,g2,rr2⟩:=r2.get e2
 have g1':its.toArray[j]=w1:=by
  have:=(Qe.mp g1).2;simpa using this
 have g2':its2.toArray[j]=w2:=by
  have:=(Qe.mp g2).2;simpa using this
 rw[g1',g2'];exact EqD.at I (h j _ _ e1 e2) (by show A.units+1+n<cLine;exact hu) rr1 rr2
def xL (K:PySem.W.Frag) (neg:Bool):R2:=λx y H Q=>∃a b xs ys e,x=.ref a/\y=.ref b/\SqL K H a xs/\SqL K H b ys/\(∀(j:Nat) x y,xs[j]?=some x->ys[j]?=some y->EqD K H 8 x y (e j)) /\
 Q (.bl (if neg then !(xs.length==ys.length&&(List.range xs.length).all e) else (xs.length==ys.length&&(List.range xs.length).all e))) H
def xK (K:PySem.W.Frag) (neg:Bool):R2:=λx y H Q=>∃a b xs ys e,x=.ref a/\y=.ref b/\SqT K H a xs/\SqT K H b ys/\(∀(j:Nat) x y,xs[j]?=some x->ys[j]?=some y->EqD K H 8 x y (e j)) /\
 Q (.bl (if neg then !((List.range (min xs.length ys.length)).all e&&xs.length==ys.length) else ((List.range (min xs.length ys.length)).all e&&xs.length==ys.length))) H
theorem ya (hu:X.A.units+64<cLine):OpR X (compareOp .Eq) (xL X.K false):=by
 intro pins s σ H x y v u Q I rx ry h;obtain⟨a,b,xs,ys,e,e1,e2,ha,hb,hi,q⟩:=h;subst e1 e2;cases rx;cases ry;obtain⟨its,r1,p1,_⟩:=I.list ha;obtain⟨its2,r2,p2,_⟩:=I.list hb;have l1:=r1.length;have l2:=r2.length;by_cases hl:xs.length=ys.length
 ·refine SeqAt.eq_listAt (e:=e) p1.isList p2.isList (by rw[Qk,Qk];exact Bh l1 l2 hl) (by exact ue hu) (EqD.items I (by exact ym hu) r1 r2 hi) ⟨.bl _,H,I,rfl,?_⟩;rw[Qk,<-l1];have:(xs.length==ys.length)=true:=by simpa using hl
  rw[this]at q;exact q
 refine SeqAt.eq_list_lengthsAt p1.isList p2.isList (by rw[Qk,Qk,<-l1,<-l2];simpa using hl) (by exact ue hu) ⟨.bl _,H,I,rfl,?_⟩;have:(xs.length==ys.length)=false:=by simpa using hl
 rw[this]at q;exact q
theorem xZ (hu:X.A.units+64<cLine):OpR X (compareOp .NotEq) (xL X.K true):=by
 intro pins s σ H x y v u Q I rx ry h;obtain⟨a,b,xs,ys,e,e1,e2,ha,hb,hi,q⟩:=h;subst e1 e2;cases rx;cases ry;obtain⟨its,r1,p1,_⟩:=I.list ha;obtain⟨its2,r2,p2,_⟩:=I.list hb;have l1:=r1.length;have l2:=r2.length;by_cases hl:xs.length=ys.length
 ·refine SeqAt.RcNeAt.lists (e:=e) p1.isList p2.isList (by rw[Qk,Qk];exact Bh l1 l2 hl) (by exact ue hu) (EqD.items I (by exact ym hu) r1 r2 hi) _ _ _ _ ⟨.bl _,H,I,rfl,?_⟩;rw[Qk,<-l1];have:(xs.length==ys.length)=true:=by simpa using hl
  rw[this]at q;exact q
 refine SeqAt.RcNeAt.lists_lengths p1.isList p2.isList (by rw[Qk,Qk,<-l1,<-l2];simpa using hl) (by exact ue hu) _ _ _ _ ⟨.bl _,H,I,rfl,?_⟩;have:(xs.length==ys.length)=false:=by simpa using hl
 rw[this]at q;exact q
theorem t7 (hu:X.A.units+64<cLine):OpR X (compareOp .NotEq) (xK X.K true):=by
 intro pins s σ H x y v u Q I rx ry h;obtain⟨a,b,xs,ys,e,e1,e2,ha,hb,hi,q⟩:=h;subst e1 e2;cases rx;cases ry;obtain⟨its,r1,p1,_⟩:=I.tuple ha;obtain⟨its2,r2,p2,_⟩:=I.tuple hb;have l1:=r1.length;have l2:=r2.length;refine SeqAt.RcNeAt.tuples (e:=e) (show s.heap.IsTuple a its.toArray from p1) (show s.heap.IsTuple b its2.toArray from p2) (by exact ue hu) (EqD.items I (by exact ym hu) r1 r2 hi) _ _ _ _ ⟨.bl _,H,I,rfl,?_⟩;rw[Qk,Qk,<-l1,<-l2];exact q
end
section
variable {X:Cx}
theorem io:dN X (.builtin "isinstance") (λxs H Q=>∃x T ty b,xs=[x,.ty T]/\TyOf X.K H x ty/\PySem.W.kitOne X.K ty (.type T)=some b/\Q (.bl b) H):=by
 intro pins s σ H xs us Q I r h;obtain⟨x,T,ty,b,e,t,k,q⟩:=h;subst e;obtain⟨u1,u2,e,r1,r2⟩:=np r;subst e;cases r2;exact sn I r1 t k λtk=>⟨.bl b,H,I.tok tk,rfl,q⟩
theorem ot {K:PySem.W.Frag} (T:String):PySem.W.kitOne K (.type T) (.type T)=some true:=by
 unfold PySem.W.kitOne;rw[Qz (by simp)]
theorem sQ (bs:List Bool):(List.range bs.length).all (λi=>bs.getD i false)=bs.all id:=by
 rw[Bool.eq_iff_iff];simp only[QJ,Xk]
 constructor
 ·intro h x hx;obtain⟨i,hi,e⟩:=Qr.mp hx;have q:=h i hi;rw[Ql,Qb hi,Option.getD_some,e]at q;exact q
 intro h i hi;rw[Ql,Qb hi,Option.getD_some];exact h _ (Xj hi)
theorem gI (hc:X.calm=true):dN X (.builtin "all") (λxs H Q=>∃(l:Addr) (bs:List Bool),xs=[.ref l]/\SqL X.K H l (bs.map V.bl)/\Q (.bl (bs.all id)) H):=by
 intro pins s σ H xs us Q I r h;obtain⟨l,bs,e,hl,q⟩:=h;subst e;obtain⟨u,e,ru⟩:=dy r;subst e;cases ru;obtain⟨its,rv,pl,hz⟩:=I.list hl;have hlen:=rv.length;rw[Qc]at hlen
 have ne:l≠s.heap.objs.size:=by
  obtain⟨o,ho,_⟩:=pl.isList;exact QB (Qm ho)
 refine call_all_walk (wpAny_pyIter_list pl.isList ?_);refine⟨s.heap.objs.size,_,_,_,_,_,(λi=>bs.getD i false),rfl,Walks.list (show X.A.in1.handled=none from I.ok.hd hc) s.heap.objs.size l ne its.toArray,⟨⟨_,Qp _ rfl,rfl,rfl⟩,pl.isList.push _⟩,?_,λh' tk hk=>?_⟩
 ·intro i v s' Q' E' hP hQ;have hP':its[i]?=some v:=by simpa using hP
  have hi:i<bs.length:=by
   have:=(Qe.mp hP').1;exact yn hlen this
  have e1:(bs.map V.bl)[i]?=some (.bl (bs.getD i false)):=by
   rw[Qi,Qb hi,Ql,Qb hi];rfl
  obtain⟨u,hu,ru⟩:=rv.get e1;rw[hP']at hu;cases hu;cases ru;exact wpAny_truthy_bool hQ
 have hs:its.toArray.size=bs.length:=by rw[Qk];exact hlen.symm
 rw[hs,sQ]
 exact⟨.bl _,H,I.kept λb o e=>hk b o (by
  have:=Qm e;simp only[Q3]
  exact QB this) (Qd _ e),rfl,q⟩
abbrev qh (K:PySem.W.Frag) (T:Addr) (D:List (Str × KTD.Dat)):Prop:=KTD.tabLook (KTD.datLooks λa=>K.lookup a) (λa=>K.lookup a) T D=true
theorem rM {T:Addr} {D:List (Str × KTD.Dat)} (hT:qh X.K T D):OpR X (compareOp .In) (λx y H Q=>∃z,x=.str z/\y=.ref T/\Q (.bl (KTD.inKeys z D)) H):=by
 intro pins s σ H x y v u Q I rx ry h;obtain⟨z,e1,e2,q⟩:=h;subst e1 e2;obtain⟨t,e⟩:=rx;subst e;cases ry;exact KTD.in_text (h₀:=X.base) ⟨KTD.text_of_look (get:=λa=>X.K.lookup a) (λa o e=>I.mod.kin a o e) hT,I.bk⟩ ⟨.bl _,H,I.tok _,rfl,q⟩
theorem kz:dN X (.type "int") (λxs H Q=>∃z n,xs=[.str z]/\PySem.intText? z=some n/\z.length<=640/\Q (.int n) H):=by
 intro pins s σ H xs us Q I r h;obtain⟨z,n,e,h1,h2,q⟩:=h;subst e;obtain⟨u,e,ru⟩:=dy r;subst e;obtain⟨t,e⟩:=ru;subst e;exact PySem.W.KIN.call_text h1 h2 ⟨.int n,H,I.tok _,⟨_,rfl⟩,q⟩
end
theorem Inv.turned2 {X:Cx} {pins:List (Addr × Obj)} {σ:St} {H:Hp} {s:Shared} {h':Heap} {t':Nat} {o:HO} (I:Inv X pins σ H s) (k:∀b o,b≠e->b≠it->s.heap.get? b=some o->h'.get? b=some o)
  (f1:gc X pins H e) (f2:gc X pins H it) (hT:s.heap.objs.size<=T) (new:bj X.prog X.w (upd H T o) h' T o):Inv X pins σ (upd H T o) { s with heap:=h',toks:=t' }:=by
 have hn:H T=none:=I.hok.fresh hT;have nT:∀b u,s.heap.get? b=some u->b≠T:=λb u q=>QB (QE (Qm q) hT);have n1:∀b u,H b=some u->b≠e:=λb u q z=>by rw[z,f1.1]at q;cases q
 have n2:∀b u,H b=some u->b≠it:=λb u q z=>by rw[z,f2.1]at q;cases q
 have kk:∀b u,b∉[e,it]->s.heap.get? b=some u->h'.get? b=some u:=λb u hc q=>k b u (λz=>hc (by simp[z])) (λz=>hc (by simp[z])) q
 refine I.step (g':=s.gens) (d':=s.drawn) (ch:=[e,it]) (λb hb=>?_) (λb u _ _ hc q _=>kk b u hc q) (λb u _ _ hc q _=>⟨u.slots,kk b u hc q⟩) (λb u _ q n=>by rw[aq (nT b u q)];exact n)
  (λb u hc q=>⟨u,kk b u hc q⟩) (λb xs q=>by rw[aq (av q hn)];exact q) (λb u xs q=>by rw[aq (av q hn)];exact q) (λb ps q=>⟨#[],by rw[aq (av q hn),q];simp⟩) (λm hm=>?_) (λb u q=>?_) I.bare
 ·have z:b=e\/b=it:=by simpa using hb
  rcases z with z|z
  ·subst z;obtain⟨_,a2,_,a4,a5,a6⟩:=f1;exact⟨a4,a2,a5,a6⟩
  subst z;obtain⟨_,a2,_,a4,a5,a6⟩:=f2;exact⟨a4,a2,a5,a6⟩
 ·obtain⟨ob,es,ep,ho,r⟩:=hm;exact⟨ob,es,ep,k _ ob (XI f1.2.1) (XI f2.2.1) ho,r⟩
 by_cases hb:b=T
 ·subst hb;rw[ag]at q;cases q;exact new
 rw[aq hb]at q;refine(I.hok b u q).stay (λc v hc z=>k c v ?_ ?_ z) (λc z=>by rw[aq (av z hn)];exact z) λc xs z=>by rw[aq (av z hn)];exact z
 ·rcases hc with z|z
  ·rw[z];exact n1 b u q
  exact n1 c _ z
 rcases hc with z|z
 ·rw[z];exact n2 b u q
 exact n2 c _ z
section
variable {X:Cx} {elts:List Expr} {k:Nat} {tpos:Pos}
end
structure Fn (P:Program) (w:World) (K:PySem.W.Frag) (mg:Str->Option Value) (base:Heap) (x:Str) (ps:List Str) (k:Nat) (sp:Sp):Prop where
 ex:∃f fd,FnOk P w K mg base CX0 k f fd ps sp/\mg x=some (.ref f)/\PySem.W.keepIn K (.ref f)=true/\fM K fd ps []
section
variable {X:Cx}
theorem wJ {x:Str} {ps:List Str} {k:Nat} {sp:Sp} {e:Expr} {es:List Expr} {t:TA} {p pos:Pos} (F:Fn X.prog X.w X.K X.mg X.base x ps k sp) (hr:Room k X.A) (hg:Gl X x) (ha:PA X (e::es) t)
  (hdb:(x==("__debug__" : Str))=false:=by decide) (he:starEach (e::es) X.env=(false,eval e X.env)::starEach es X.env:=by rfl) (hpl:(backTo pos (starEach es X.env)).any (·.1)=false:=by rfl) :
  PE X (.Call (.Name x p) (e::es) [] pos) (kI sp [] E0 t):=by
 obtain⟨f,fd,G,hm,hk,hb⟩:=F.ex;exact vH G hr hg hm hk hb .nil wK ha hdb he hpl
theorem aF {x:Str} {ps:List Str} {k j:Nat} {sp:Sp} {e:Expr} {es:List Expr} {t:TA} {p pos:Pos} (F:Fn X.prog X.w X.K X.mg X.base x ps k sp) (hr:Room j X.A) (ha:PA X (e::es) t) (hk:k<=j:=by first|decide|omega) (hg:Gl X x:=by rfl) (hdb:(x==("__debug__" : Str))=false:=by decide) (he:starEach (e::es) X.env=(false,eval e X.env)::starEach es X.env:=by rfl) (hpl:(backTo pos (starEach es X.env)).any (·.1)=false:=by rfl):PE X (.Call (.Name x p) (e::es) [] pos) (kI sp [] E0 t):=wJ F (hr.mono hk) hg ha hdb he hpl
end
section
variable {σ:St} {H:Hp} {Q:VK} {K:PySem.W.Frag}
variable {v x y:V}
theorem ah {i:Nat} (h:σ[i]?=some (some v)) (q:Q v H):eN i σ H Q:=⟨v,h,q⟩
theorem i_c (q:Q v H):tC v σ H Q:=q
variable {ta tb te to ti tl:TE}
theorem a_ {r:R2} (q:ta σ H λx H1=>tb σ H1 λy H2=>r x y H2 Q):tOp r ta tb σ H Q:=q
variable {i j:Int}
theorem i_rI0 {g:Int->Int->V} (q:Q (g i j) H):rI0 g (.int i) (.int j) H Q:=⟨i,j,rfl,rfl,q⟩
theorem i_rI {C:Int->Int->Prop} {g:Int->Int->V} (c:C i j) (q:Q (g i j) H):rI C g (.int i) (.int j) H Q:=⟨i,j,rfl,rfl,c,q⟩
theorem i_eq (h:vv x y=true) (q:Q (.bl (decide (x=y))) H):rEq x y H Q:=⟨h,q⟩
theorem i_ne (h:vv x y=true) (q:Q (.bl (!decide (x=y))) H):rNe x y H Q:=⟨h,q⟩
variable {R:Bool->Hp->Prop}
theorem i_test {t:TE} (q:t σ H λx H'=>∃k,x=.bl k/\R k H'):wo t σ H R:=q
theorem i_tB {t:TE} (q:t σ H λx H'=>∃k,x=.bl k/\R k H'):tB t σ H R:=q
theorem i_and {t u:TT} (q:t σ H λc H1=>if c=true then u σ H1 R else R false H1):yU t u σ H R:=q
theorem i_or {t u:TT} (q:t σ H λc H1=>if c=true then R true H1 else u σ H1 R):tOr t u σ H R:=q
theorem i_not {t:TT} (q:t σ H λc H1=>R (!c) H1):yM t σ H R:=q
theorem i_andV (q:ta σ H λx H1=>∃c,x=.bl c/\if c=true then tb σ H1 Q else Q (.bl false) H1):wz ta tb σ H Q:=q
theorem i_orV (q:ta σ H λx H1=>∃c,x=.bl c/\if c=true then Q (.bl true) H1 else tb σ H1 Q):yL ta tb σ H Q:=q
theorem i_notV (q:ta σ H λx H1=>∃c,x=.bl c/\Q (.bl (!c)) H1):wt ta σ H Q:=q
theorem i_ifE {t:TT} (q:t σ H λc H1=>if c=true then ta σ H1 Q else tb σ H1 Q):tIf t ta tb σ H Q:=q
theorem aG {R:List V->Hp->Prop} (q:R [] H):lC σ H R:=q
theorem ao {tr:TA} {R:List V->Hp->Prop} (q:te σ H λx H1=>tr σ H1 λxs H2=>R (x::xs) H2):cE te tr σ H R:=q
theorem aW {sp:Sp} {E:XK} {t:TA} (q:t σ H λvs H1=>sp vs H1 Q E):kI sp [] E t σ H Q:=by
 show t σ H λvs H1=>sp (vs++[]) H1 Q E;simpa only[List.append_nil] using q
theorem i_cb {r:List V->Hp->VK->Prop} {t:TA} (q:t σ H λvs H1=>r vs H1 Q):tCB r t σ H Q:=q
theorem i_tup {t:TA} (q:t σ H λxs H1=>xs.length<=sizeLine/\∀p,H1 p=none->Q (.ref p) (upd H1 p (.tup xs))):xx t σ H Q:=q
theorem i_lst {t:TA} (q:t σ H λxs H1=>xs.length<=sizeLine/\∀p,H1 p=none->Q (.ref p) (upd H1 p (.lst xs))):xB t σ H Q:=q
theorem i_bm {T:String} {r:V->List V->Hp->VK->Prop} {t:TA} (q:to σ H λx H1=>tyV K T x H1/\t σ H1 λxs H2=>r x xs H2 Q):tBM K T r to t σ H Q:=q
theorem i_sl {r:V->Option Int->Option Int->Hp->VK->Prop} {tl th:TO} (q:te σ H λx H1=>tl σ H1 λl H2=>th σ H2 λu H3=>r x l u H3 Q):tSl r te tl th σ H Q:=q
theorem i_nopart {R:Option Int->Hp->Prop} (q:R none H):qi σ H R:=q
theorem i_part {t:TE} {R:Option Int->Hp->Prop} (q:t σ H λx H1=>∃i,x=.int i/\R (some i) H1):wq t σ H R:=q
variable {xs:List V}
theorem i_ixL {p:Addr} {v:V} (h:SqL K H p xs) (e:atI xs i=some v) (q:Q v H):vz K (.ref p) (.int i) H Q:=⟨p,xs,i,v,rfl,rfl,h,e,q⟩
theorem bA {p:Addr} (h:H p=some (.tup xs)) (e:atI xs i=some v) (q:Q v H):pj K (.ref p) (.int i) H Q:=⟨p,xs,i,v,rfl,rfl,SqT.of h,e,q⟩
theorem qN {z:Str} {c:Nat} (hz:z.length<=sizeLine) (e:atI z.cps.toList i=some c) (q:Q (.str ⟨#[c]⟩) H):xJ (.str z) (.int i) H Q:=⟨z,i,c,rfl,rfl,hz,e,q⟩
variable {D:Ends}
theorem s_seq {t u:TS} (q:t { D with nx:=u D } σ H):vp t u D σ H:=q
theorem bE {g:TG} (q:te σ H λx H1=>g x σ H1 D.nx):tj te g D σ H:=q
theorem ax {i:Nat} {R:St->Hp->Prop} (q:R (σ.set i (some v)) H):eJ i v σ H R:=q
theorem s_drop (q:te σ H λ_ H1=>D.nx σ H1):wx te D σ H:=q
theorem s_ret {te:TE} (q:te σ H D.rt):xy te D σ H:=q
theorem s_next (q:D.nx σ H):wu D σ H:=q
theorem s_if {c:TT} {t u:TS} (q:c σ H λb H1=>if b=true then t D σ H1 else u D σ H1):yO c t u D σ H:=q
theorem s_sub {t:we} {R:St->Hp->Prop} (q:to σ H λo H1=>ti σ H1 λi H2=>t o i v H2 λH3=>R σ H3):BX to ti t v σ H R:=q
theorem s_setL {p:Addr} {k:Int} {j:Nat} {R:Hp->Prop} (h:H p=some (.lst xs)) (e:ixN xs.length k=some j) (q:R (upd H p (.lst (xs.set j v)))):wF (.ref p) (.int k) v H R:=⟨p,xs,k,j,rfl,rfl,h,e,q⟩
theorem s_for {wi:TI} {g:TG} {tb:TS} (q:wi σ H λJ H1=>∃W:Nat->Nat->St->Hp->Prop,(∃m,W 0 m σ H1)/\∀i m σ H,W i m σ H ->
 (J.stop i H/\D.nx σ H)\/(J.go i H/\∃N:St->Hp->Prop,(∀σ' H',N σ' H'->∃m',m'<m/\W (i+1) m' σ' H')/\∀x H',J.yld i H x H'->g x σ H' λσ2 H2=>tb { D with nx:=N,ct:=N,bk:=D.nx } σ2 H2)):yQ wi g tb D σ H:=q
theorem s_rng1 {ta:TA} {R:It->Hp->Prop} (q:ta σ H λvs H1=>∃j:Int,vs=[.int j]/\-(2 ^ 62)<=j/\j<2 ^ 62/\R (Itr 0 j.toNat) H1):xn ta σ H R:=q
theorem s_list {R:It->Hp->Prop} (q:tl σ H λx H1=>∃a,x=.ref a/\(∃xs,SqL K H1 a xs)/\R (Itl K a) H1):qO K tl σ H R:=q
theorem s_str {R:It->Hp->Prop} (q:tl σ H λv H1=>∃z:Str,v=.str z/\R (Itf z.cps.size (eQ z)) H1):BV tl σ H R:=q
theorem i_comp {wi:TI} {g:TG} {tt:TT} {f:St->St} (q:wi σ H λJ H1=>∀D,H1 D=none->∃W:Nat->Nat->Hp->List V->Prop,(∃m,W 0 m (upd H1 D (.lst [])) []) /\
 ∀i m H ys,W i m H ys->H D=some (.lst ys)/\((J.stop i H/\Q (.ref D) H)\/(J.go i H/\∀x H',J.yld i H x H'->g x (f σ) H' λσ2 H2=>wk (f σ) σ2/\tt σ2 H2 λb H3 =>
  if b=true then te σ2 H3 λv H4=>H4 D=some (.lst ys)/\ys.length<sizeLine/\∃m',m'<m/\W (i+1) m' (upd H4 D (.lst (ys++[v]))) (ys++[v])
  else ∃m',m'<m/\W (i+1) m' H3 ys))):kH wi g tt te f σ H Q:=q
end
def bM (Pv:Nat->Hp->List V->Prop) (n:Nat) (D:Addr) (i:Nat) (ys:List V):VK:=λv H4=>H4 D=some (.lst ys)/\ys.length<sizeLine/\∃m',m'<n-i/\(m'=n-(i+1)/\i+1<=n/\Pv (i+1) (upd H4 D (.lst (ys++[v]))) (ys++[v]))
theorem bM.mk {Pv:Nat->Hp->List V->Prop} {ys:List V} {v:V} {H4:Hp} (hd:H4 D=some (.lst ys)) (hi:i<n) (hl:ys.length<sizeLine) (p:Pv (i+1) (upd H4 D (.lst (ys++[v]))) (ys++[v])):bM Pv n D i ys v H4 :=
 ⟨hd,hl,n-(i+1),by exact om6 hi,rfl,hi,p⟩
section
variable {K:PySem.W.Frag} {g:TG} {te:TE} {σ0:St} {QD:Hp->Prop} {H1:Hp} {D:Addr}
theorem jO {lo:Int} {n:Nat} (Pv:Nat->Hp->List V->Prop) (h0:Pv 0 (upd H1 D (.lst [])) []) (hD:∀i H ys,Pv i H ys->H D=some (.lst ys))
  (hs:∀i H ys,i<n->Pv i H ys->g (.int (lo+i)) σ0 H λσ2 H2=>wk σ0 σ2/\fF σ2 H2 λb H3=>if b=true then te σ2 H3 (bM Pv n D i ys) else ∃m',m'<n-i/\(m'=n-(i+1)/\i+1<=n/\Pv (i+1) H3 ys)) (hd:∀H ys,Pv n H ys->QD H) :
  ∃W:Nat->Nat->Hp->List V->Prop,(∃m,W 0 m (upd H1 D (.lst [])) [])/\∀i m H ys,W i m H ys->H D=some (.lst ys)/\(((Itr lo n).stop i H/\QD H)\/((Itr lo n).go i H/\∀x H',(Itr lo n).yld i H x H'->g x σ0 H' λσ2 H2=>wk σ0 σ2/\fF σ2 H2 λb H3 =>
   if b=true then te σ2 H3 λv H4=>H4 D=some (.lst ys)/\ys.length<sizeLine/\∃m',m'<m/\W (i+1) m' (upd H4 D (.lst (ys++[v]))) (ys++[v]) else ∃m',m'<m/\W (i+1) m' H3 ys)):=by
 refine⟨λi m H ys=>m=n-i/\i<=n/\Pv i H ys,⟨n,by simp,QM _,h0⟩,?_⟩;rintro i m H ys ⟨rfl,hi,p⟩;refine⟨hD i H ys p,?_⟩;by_cases hlt:i<n
 ·refine .inr ⟨hlt,λx H' y=>?_⟩;obtain⟨e,y⟩:=y;subst e y;exact hs i _ ys hlt p
 have e:i=n:=by exact om0 hi hlt
 subst e;exact .inl ⟨Qh _,hd H ys p⟩
theorem bD {a:Addr} {xs:List V} (Pv:Nat->Hp->List V->Prop) (h0:Pv 0 (upd H1 D (.lst [])) []) (hD:∀i H ys,Pv i H ys->H D=some (.lst ys)/\SqL K H a xs)
  (hs:∀i x H ys,xs[i]?=some x->Pv i H ys->g x σ0 H λσ2 H2=>wk σ0 σ2/\fF σ2 H2 λb H3=>if b=true then te σ2 H3 (bM Pv xs.length D i ys) else ∃m',m'<xs.length-i/\(m'=xs.length-(i+1)/\i+1<=xs.length/\Pv (i+1) H3 ys)) (hd:∀H ys,Pv xs.length H ys->QD H) :
  ∃W:Nat->Nat->Hp->List V->Prop,(∃m,W 0 m (upd H1 D (.lst [])) [])/\∀i m H ys,W i m H ys->H D=some (.lst ys)/\(((Itl K a).stop i H/\QD H)\/((Itl K a).go i H/\∀x H',(Itl K a).yld i H x H'->g x σ0 H' λσ2 H2=>wk σ0 σ2/\fF σ2 H2 λb H3 =>
   if b=true then te σ2 H3 λv H4=>H4 D=some (.lst ys)/\ys.length<sizeLine/\∃m',m'<m/\W (i+1) m' (upd H4 D (.lst (ys++[v]))) (ys++[v]) else ∃m',m'<m/\W (i+1) m' H3 ys)):=by
 refine⟨λi m H ys=>m=xs.length-i/\i<=xs.length/\Pv i H ys,⟨xs.length,by simp,QM _,h0⟩,?_⟩;rintro i m H ys ⟨rfl,hi,p⟩;obtain⟨d1,d2⟩:=hD i H ys p;refine⟨d1,?_⟩;by_cases hlt:i<xs.length
 ·refine .inr ⟨⟨xs,xs[i],d2,by simp[hlt]⟩,λx H' y=>?_⟩;obtain⟨e,y⟩:=y;subst e;exact hs i x _ ys (y xs d2) p
 have e:i=xs.length:=by exact om0 hi hlt
 subst e;exact .inl ⟨⟨xs,d2,Qh _⟩,hd H ys p⟩
theorem oF {n:Nat} {f:Nat->V} (Pv:Nat->Hp->List V->Prop) (h0:Pv 0 (upd H1 D (.lst [])) []) (hD:∀i H ys,Pv i H ys->H D=some (.lst ys))
  (hs:∀i H ys,i<n->Pv i H ys->g (f i) σ0 H λσ2 H2=>wk σ0 σ2/\fF σ2 H2 λb H3=>if b=true then te σ2 H3 (bM Pv n D i ys) else ∃m',m'<n-i/\(m'=n-(i+1)/\i+1<=n/\Pv (i+1) H3 ys)) (hd:∀H ys,Pv n H ys->QD H) :
  ∃W:Nat->Nat->Hp->List V->Prop,(∃m,W 0 m (upd H1 D (.lst [])) [])/\∀i m H ys,W i m H ys->H D=some (.lst ys)/\(((Itf n f).stop i H/\QD H)\/((Itf n f).go i H/\∀x H',(Itf n f).yld i H x H'->g x σ0 H' λσ2 H2=>wk σ0 σ2/\fF σ2 H2 λb H3 =>
   if b=true then te σ2 H3 λv H4=>H4 D=some (.lst ys)/\ys.length<sizeLine/\∃m',m'<m/\W (i+1) m' (upd H4 D (.lst (ys++[v]))) (ys++[v]) else ∃m',m'<m/\W (i+1) m' H3 ys)):=by
 refine⟨λi m H ys=>m=n-i/\i<=n/\Pv i H ys,⟨n,by simp,QM _,h0⟩,?_⟩;rintro i m H ys ⟨rfl,hi,p⟩;refine⟨hD i H ys p,?_⟩;by_cases hlt:i<n
 ·refine .inr ⟨hlt,λx H' y=>?_⟩;obtain⟨e,y⟩:=y;subst e y;exact hs i _ ys hlt p
 have e:i=n:=by exact om0 hi hlt
 subst e;exact .inl ⟨rfl,hd H ys p⟩
end
section
variable {H:Hp} {Q:VK} {K:PySem.W.Frag}
theorem uK {z:Str} {lo hi:Option Int} (h:z.length<=sizeLine) (q:Q (.str (Txt.slice z lo hi)) H):yW (.str z) lo hi H Q:=⟨z,rfl,h,q⟩
variable {xs zs:List V} {a l b p:Addr}
theorem xk {lo hi:Option Int} (h:SqL K H a xs) (q:∀p,H p=none->Q (.ref p) (upd H p (.lst (mN xs lo hi)))):yX K (.ref a) lo hi H Q:=⟨a,xs,rfl,h,q⟩
theorem xm (h1:H l=some (.lst xs)) (h2:H b=some (.lst zs)) (hz:xs.length+zs.length<=sizeLine) (q:∀p,H p=none->Q (.ref p) (upd H p (.lst (xs++zs)))):yZ (.ref l) (.ref b) H Q:=⟨l,b,xs,zs,rfl,rfl,h1,h2,hz,q⟩
theorem ou {xs:List V} {y:V} (h:H l=some (.lst xs)) (hz:xs.length<sizeLine) (q:Q .non (upd H l (.lst (xs++[y])))):qu (.ref l) [y] H Q:=⟨l,xs,y,rfl,rfl,h,hz,q⟩
theorem i_tyL (h:H p=some (.lst xs)):tyV K "list" (.ref p) H:=.inl ⟨rfl,xs,SqL.of h⟩
theorem xj {z:Str}:tyV K "str" (.str z) H:=rfl
end
theorem ap {H:Hp} {o:HO} (hp:H p=none):aw H (upd H p o):=λb u e=>by rw[aq (av e hp)];exact e
end L2
namespace L2
open PySem
section
variable {σ:St} {H:Hp} {D:Ends}
theorem s_seqT {t u:TS} (q:let D':Ends:={ D with nx:=u D };t D' σ H):vp t u D σ H:=q
theorem s_nameT {i:Nat} {v:V} {R:St->Hp->Prop} (q:let σ':St:=σ.set i (some v);R σ' H):eJ i v σ H R:=q
end
variable {H:Hp}
theorem i_yes {σ:St} {R:Bool->Hp->Prop} (q:R true H):fF σ H R:=q
theorem i_dget {td ty:TE} {σ:St} {Q:VK} (q:td σ H λx H1=>ty σ H1 λy H2=>∃a v,x=.ref a/\cC H2 a y (some v)/\Q v H2):wy td ty σ H Q:=q
theorem i_un {r:V->Hp->VK->Prop} {ta:TE} {σ:St} {Q:VK} (q:ta σ H λx H1=>r x H1 Q):tUn r ta σ H Q:=q
theorem i_rU {g:Int->V} {i:Int} {Q:VK} (q:Q (g i) H):rU g (.int i) H Q:=⟨i,rfl,q⟩
end L2
namespace L2
open PySem PySem.Spec PyProof.Rows
def cM (H:Hp) (c:Addr):Hp:=λb=>if b=c then none else H b
variable {c b f cell fa a T:Addr} {H:Hp}
theorem cA:cM H c c=none:=Qz rfl
theorem br (h:b≠c):cM H c b=H b:=QA h
theorem sG {o:HO} (h:cM H c b=some o):b≠c/\H b=some o:=by
 by_cases e:b=c
 ·subst e;rw[cA]at h;cases h
 rw[br e]at h;exact⟨e,h⟩
def dw (o:Obj):HO:=.frz o (.ext λ_=>True)
section
variable {P:Program} {w:World} {H H1:Hp} {h h1:Heap} {c:Addr} {o:Obj} {fs ex:List Addr}
theorem wb {H:Hp} (e:h.get? c=some o):bj P w H h c (dw o):=⟨e,trivial,⟨o,e⟩,λ_ _ _ _=>trivial⟩
theorem HOk.drop (x:HOk P w H h) (hc:H c=some (dw o)):HOk P w (cM H c) h:=λb u e=>by
 obtain⟨_,e⟩:=sG e;refine(x b u e).stay (λ_ _ _ q=>q) (λd q=>?_) λd xs q=>?_
 ·rw[br];exact q;intro z;subst z;rw[hc]at q;cases q
 rw[br];exact q;intro z;subst z;rw[hc]at q;cases q
theorem HOk.take (x:HOk P w H h) (hc:H c=none) (e:h.get? c=some o):HOk P w (upd H c (dw o)) h:=λb u q=>by
 by_cases hb:b=c
 ·subst hb;rw[ag]at q;cases q;exact wb e
 rw[aq hb]at q;refine(x b u q).stay (λ_ _ _ r=>r) (λd r=>?_) λd xs r=>?_
 ·rw[aq (av r hc)];exact r
 rw[aq (av r hc)];exact r
theorem Un.back (u:Un fs ex (cM H c) H1 h h1) (hc:H c=some (dw o)) (e:h.get? c=some o) (nf:c∉fs) (nx:c∉ex):Un fs ex H (upd H1 c (dw o)) h h1/\H1 c=none/\h1.get? c=some o:=by
 have h1c:=u.free c o e cA nx;have e1:=u.keep c o e cA nf nx;have ne:∀{b v},H b=some v->v≠dw o->b≠c:=λq n z=>by subst z;rw[hc]at q;cases q;exact n rfl
 have nn:∀{b},H b=none->b≠c:=λq z=>by subst z;rw[hc]at q;cases q
 refine⟨⟨λb ob q n hb hx=>?_,λb ob q n hb hx=>?_,λb ob q n hx=>?_,λb ob q hx=>u.there b ob q hx,λb xs q=>?_,λb ob v q=>?_,λb ps q=>?_⟩,h1c,e1⟩
 ·exact u.keep b ob q (by rw[br (nn n)];exact n) hb hx
 ·exact u.slot b ob q (by rw[br (nn n)];exact n) hb hx
 ·rw[aq (nn n)];exact u.free b ob q (by rw[br (nn n)];exact n) hx
 ·have nb:=ne q (λz=>by cases z);rw[aq nb];exact u.tups b xs (by rw[br nb];exact q)
 ·by_cases nb:b=c
  ·subst nb;rw[hc]at q;cases q;exact ag
  rw[aq nb];exact u.frzs b ob v (by rw[br nb];exact q)
 have nb:=ne q (λz=>by cases z);rw[aq nb];exact u.tbls b ps (by rw[br nb];exact q)
theorem Un.out (u:Un fs ex (upd H c (dw o)) H1 h h1) (k1:HOk P w H1 h1) (hc:H c=none) (e:h.get? c=some o) (nf:c∉fs):Un fs ex H (cM H1 c) h h1/\HOk P w (cM H1 c) h1/\H1 c=some (dw o):=by
 have h1c:=u.frzs c o _ ag;have e1:=(k1 c _ h1c).1;refine⟨⟨λb ob q n hb hx=>?_,λb ob q n hb hx=>?_,λb ob q n hx=>?_,λb ob q hx=>u.there b ob q hx,λb xs q=>?_,λb ob v q=>?_,λb ps q=>?_⟩,k1.drop h1c,h1c⟩
 ·by_cases nb:b=c
  ·subst nb;rw[e]at q;cases q;exact e1
  exact u.keep b ob q (by rw[aq nb];exact n) hb hx
 ·have nb:b≠c:=λz=>by subst z;exact nf hb
  exact u.slot b ob q (by rw[aq nb];exact n) hb hx
 ·by_cases nb:b=c
  ·subst nb;exact cA
  rw[br nb];exact u.free b ob q (by rw[aq nb];exact n) hx
 ·have nb:=av q hc;rw[br nb];exact u.tups b xs (by rw[aq nb];exact q)
 ·have nb:=av q hc;rw[br nb];exact u.frzs b ob v (by rw[aq nb];exact q)
 have nb:=av q hc;rw[br nb];exact u.tbls b ps (by rw[aq nb];exact q)
end
structure Lm where
 qual:Str
 params:Arguments
 body:Expr
 scope:Scope
 pos:Pos
def iq (c:Addr) (qual:Str):HO:=.ext λh=>h.CodeRec (.ref c) qual
def hZ (f:Addr) (l:Lm) (cl:List (Str × Addr)) (c:Addr):HO:=.ext λh=>∃pm ctv,h.get? f=some (PySem.W.kla_obj "<lambda>" l.qual l.params l.body l.scope cl pm c ctv)
variable {qual y z x n:Str} {w:World} {P p:Program}
theorem u6 {h:Heap} (r:h.CodeRec (.ref c) qual):bj P w H h c (iq c qual):=by
 obtain⟨d,oc,vs,t,e1,e2,r2⟩:=id r;cases e1;refine⟨r,⟨oc,e2⟩,λh1 h2 p k=>?_⟩;obtain⟨d,oc,vs,t,e1,e2,r2⟩:=p;cases e1;exact⟨_,oc,vs,t,rfl,k _ e2,r2⟩
variable {pm ctv u uy:Value} {cl:List (Str × Addr)}
theorem qL {h:Heap} {l:Lm} (e:h.get? f=some (PySem.W.kla_obj "<lambda>" l.qual l.params l.body l.scope cl pm c ctv)):bj P w H h f (hZ f l cl c) :=
 ⟨⟨pm,ctv,e⟩,⟨_,e⟩,λ_ _ ⟨pm,ctv,q⟩ k=>⟨pm,ctv,k _ q⟩⟩
def dJ (l:Lm) (c:Addr):Array Value:=#[rawInt l.pos.line,rawInt l.pos.col,.ref c]
def cS (T:Addr) (l:Lm) (H:Hp):Prop:=H T=some (.tbl #[])\/∃c,H T=some (.tbl (dJ l c))/\H c=some (iq c l.qual)
structure Made (T:Addr) (l:Lm) (cl:List (Str × Addr)) (H:Hp) (f c:Addr) (H':Hp):Prop where
 new:H f=none
 fn:H' f=some (hZ f l cl c)
 code:H' c=some (iq c l.qual)
 tab:H' T=some (.tbl (dJ l c))
 old:∀b o,H b=some o->b≠T->H' b=some o
def fN (base:Heap) (mg:Str->Option Value):Prop:=∃bm ob,mg "__builtins__" = some (.ref bm)/\bm≠builtinsNs/\bm≠mainGlobals/\base.get? bm=some ob/\ob.cls=.type "module" /\ ob.dict=some builtinsNs/\ob.data=.plain
def yN (T:Addr) (l:Lm) (cl:List (Str × Addr)):TE:=λ_ H Q=>cS T l H/\∀f c H',Made T l cl H f c H'->Q (.ref f) H'
section
variable {X:Cx}
theorem xR {params:Arguments} {body:Expr} {scope:Scope} {pos:Pos} {cc T:Addr} {cl:List (Str × Addr)} (hcode:X.env.code=.ref cc) (C:PySem.W.CodeHd X.base cc T) (B:fN X.base X.mg) (hcl:closureFor scope X.env=pure cl) (hdef:defaultsOf params X.env=([],[]):=by rfl) :
  PE X (.Lambda params body scope pos) (yN T ⟨X.env.qual ++ "<lambda>", params,body,scope,pos⟩ cl):=by
 intro pins s σ H Q I h;obtain⟨tb,q⟩:=h;refine PySem.W.kla_eval hdef ?_;have hg:s.heap.Ns mainGlobals X.mg:=I.mod.glob.keeps I.bk;have hT:∃ps,H T=some (.tbl ps):=by rcases tb with e|⟨c,e,_⟩ <;> exact⟨_,e⟩
 obtain⟨ps0,hps0⟩:=hT
 have bne:∀{b ob},X.base.get? b=some ob->b≠T:=λe z=>by
  subst z;rw[(I.bs _ _ e).2]at hps0;cases hps0
 have hgP:mainGlobals≠T:=by
  obtain⟨o,es,ep,e,_⟩:=I.mod.glob;exact bne e
 obtain⟨bm,ob,b1,b2,b3,b4,b5,b6,b7⟩:=B;have hB:s.heap.BuiltinsAt X.mg T:=⟨bm,ob,b1,b2,b3,bne b4,I.bk _ _ b4,b5,b6,b7⟩;have CH:=C.keeps I.bk;rcases tb with e|⟨c,e,hc⟩
 ·have hP:s.heap.get? T=some (PySem.W.tabObj #[]):=I.hok T _ e;refine PySem.W.kla_makeFunction (mg:=X.mg) hcl I.ok.glob hg hcode CH hP trivial rfl hgP hB λc' ctv h' tk hx hge hlt hrec htb=>?_;have hsz:s.heap.objs.size<=h'.objs.size:=XH (XO hge hlt);have nT:T<s.heap.objs.size:=Qm hP;let f:Addr:=h'.objs.size;have Hf:H f=none:=I.hok.fresh hsz;have Hc:H c'=none:=I.hok.fresh hge;have nfc:c'≠f:=QB hlt;have nTf:T≠f:=QB (QE nT hsz);have nTc:T≠c':=QB (QE nT hge);let H':Hp:=upd (upd (upd H T (.tbl (dJ ⟨X.env.qual ++ "<lambda>", params,body,scope,pos⟩ c'))) c' (iq c' (X.env.qual ++ "<lambda>"))) f (hZ f ⟨X.env.qual ++ "<lambda>", params,body,scope,pos⟩ cl c')
  have hH:∀b o,H b=some o->b≠T->H' b=some o:=λb o e n=>by
   show upd (upd (upd H T _) c' _) f _ b=_;rw[aq (av e Hf),aq (av e Hc),aq n];exact e
  have hHT:H' T=some (.tbl (dJ ⟨X.env.qual ++ "<lambda>", params,body,scope,pos⟩ c')):=by
   show upd (upd (upd H T _) c' _) f _ T=_;rw[aq nTf,aq nTc,ag]
  have hHc:H' c'=some (iq c' (X.env.qual ++ "<lambda>")):=by
   show upd (upd (upd H T _) c' _) f _ c'=_;rw[aq nfc,ag]
  have kx:∀b o,b≠T->s.heap.get? b=some o->(h'.push (PySem.W.kla_obj "<lambda>" (X.env.qual ++ "<lambda>") params body scope cl ((X.mg "__name__").getD .none) c' ctv)).get? b=some o:=λb o n e=>Qd _ (hx b o n e);have htb':h'.get? T=some (PySem.W.tabObj (dJ ⟨X.env.qual ++ "<lambda>", params,body,scope,pos⟩ c')):=by simpa[dJ] using htb
  have ntb:∀{b u},H b=some u->(∀ps,u≠.tbl ps)->b≠T:=λr n z=>by
   subst z;rw[e]at r;cases r;exact n _ rfl
  have un:Un X.fs [] H H' s.heap (h'.push (PySem.W.kla_obj "<lambda>" (X.env.qual ++ "<lambda>") params body scope cl ((X.mg "__name__").getD .none) c' ctv)):=by
   have nn:∀{b},H b=none->b≠T:=λn z=>by subst z;rw[e]at n;cases n
   refine⟨λb o r n _ _=>kx b o (nn n) r,λb o r n _ _=>⟨o.slots,kx b o (nn n) r⟩,λb o r n _=>?_,λb o r _=>?_,λb xs r=>hH b _ r (ntb r λ_ z=>nomatch z),λb o v r=>hH b _ r (ntb r λ_ z=>nomatch z),λb ps r=>?_⟩
   ·have lb:b<s.heap.objs.size:=Qm r;show upd (upd (upd H T _) c' _) f _ b=none;rw[aq (QB (QE lb hsz)),aq (QB (QE lb hge)),aq (nn n)];exact n
   ·by_cases z:b=T
    ·subst z;exact⟨_,Qd _ htb'⟩
    exact⟨o,kx b o z r⟩
   by_cases z:b=T
   ·subst z;rw[e]at r;cases r;exact⟨dJ ⟨X.env.qual ++ "<lambda>", params,body,scope,pos⟩ c',by rw[hHT,Array.empty_append]⟩
   exact⟨#[],by rw[hH b _ r z];simp⟩
  have hok:HOk X.prog X.w H' (h'.push (PySem.W.kla_obj "<lambda>" (X.env.qual ++ "<lambda>") params body scope cl ((X.mg "__name__").getD .none) c' ctv)):=λb u qb=>by
   have qb:upd (upd (upd H T (.tbl (dJ ⟨X.env.qual ++ "<lambda>", params,body,scope,pos⟩ c'))) c' (iq c' (X.env.qual ++ "<lambda>"))) f (hZ f ⟨X.env.qual ++ "<lambda>", params,body,scope,pos⟩ cl c') b=some u:=qb;by_cases z1:b=f
   ·subst z1;rw[ag]at qb;cases qb;exact qL (Qp _ rfl)
   rw[aq z1]at qb;by_cases z2:b=c'
   ·subst z2;rw[ag]at qb;cases qb;obtain⟨d,oc,vs,t,e1,e2,r2⟩:=hrec;exact u6 ⟨d,oc,vs,t,e1,Qd _ e2,r2⟩
   rw[aq z2]at qb;by_cases z3:b=T
   ·subst z3;rw[ag]at qb;cases qb;exact Qd _ htb'
   rw[aq z3]at qb;refine(I.hok b u qb).stay (λd v hd r=>kx d v ?_ r) (λd r=>hH d _ r (ntb r λ_ z=>nomatch z)) λd xs r=>hH d _ r (ntb r λ_ z=>nomatch z);rcases hd with z|z
   ·rw[z];exact z3
   intro y;subst y;rw[e]at z;cases z
  refine⟨.ref f,H',I.un (t':=tk) un hok,rfl,q f c' H' ⟨Hf,ag,hHc,hHT,hH⟩⟩
 have hP:s.heap.get? T=some (PySem.W.tabObj (dJ ⟨X.env.qual ++ "<lambda>", params,body,scope,pos⟩ c)):=I.hok T _ e;refine PySem.W.kla_makeFunctionHit (mg:=X.mg) (cv:=.ref c) hcl I.ok.glob hg hcode CH hP trivial (by simp[dJ,codeAmong,rawInt]) hB λctv h' tk hk hsz=>?_;let f:Addr:=h'.objs.size;have Hf:H f=none:=I.hok.fresh hsz;refine⟨.ref f,_,I.laid (t':=tk) (a:=f) (o:=hZ f ⟨X.env.qual ++ "<lambda>", params,body,scope,pos⟩ cl c) (λb o e=>Qd _ (hk b o e)) hsz (qL (Qp _ rfl)),rfl,q f c _ ⟨Hf,ag,?_,?_,λb o e _=>?_⟩⟩
 ·rw[aq (av hc Hf)];exact hc
 ·rw[aq (av e Hf)];exact e
 rw[aq (av e Hf)];exact e
end
structure LmScope (x y:Str) (sc:Scope):Prop where
 kind:sc.kind=.function
 co:sc.isCoroutine=false
 gen:sc.isGenerator=false
 par:sc.names.lookup x=some .local
 fre:sc.names.lookup y=some .free
 ne:x≠y
 nocell:∀z∈sc.names,z.2≠.cell
 only:∀z,sc.names.lookup z=some .free->z=y
noncomputable def qT (P:Program) (w:World) (K:PySem.W.Frag) (mg:Str->Option Value) (base:Heap) (x y:Str) (l:Lm) (f c cell:Addr) (A:Around) (outer:List Env) (s:Shared) (H:Hp) (E:XK):Cx where
 prog:=P
 w:=w
 K:=K
 mg:=mg
 base:=base
 A:=A.deeper (PySem.W.envX l.qual l.scope s.heap.objs.size f (.ref c) [(y,cell)])
 N:=[x,y]
 s₀:=s
 H₀:=H
 env:=PySem.W.envX l.qual l.scope s.heap.objs.size f (.ref c) [(y,cell)]
 outer:=outer
 stack:=PySem.W.envX l.qual l.scope s.heap.objs.size f (.ref c) [(y,cell)]::outer
 ex:=[]
 calm:=true
 fn:=λ_=>false
 pn:=[]
 xe:=λe s'=>wpAny (model P w) (A.deeper (PySem.W.envX l.qual l.scope s.heap.objs.size f (.ref c) [(y,cell)])) (leaving (PySem.W.envX l.qual l.scope s.heap.objs.size f (.ref c) [(y,cell)]) e) (λ_ s''=>CX0 outer H s E e s'') (λe' s''=>CX0 outer H s E e' s'') s'
theorem lk1 (h:[(y,cell)].lookup z=some c):z=y/\c=cell:=by
 rw[Q2]at h;by_cases e:(z==y)=true
 ·rw[e]at h;cases h;exact⟨eq_of_beq e,rfl⟩
 have e:(z==y)=false:=by simpa using e
 rw[e]at h;cases h
theorem oq:[(y,cell)].lookup y=some cell:=by
 rw[Q2,beq_self_eq_true]
variable {h1 base:Heap} {s s₁:Shared} {mg mb:Str->Option Value} {K:PySem.W.Frag}
theorem vW {l:Lm} {f c:Addr} {A:Around} {outer:List Env} {E:XK} {vx vy:V} {tk:Nat}
  (S:LmScope x y l.scope) (hd:A.handled=none) (e0:Env0 P w K mg base A outer s H) (rx:aR vx u) (ry:aR vy uy) (hc:s.heap.IsCell cell (some uy)) (hH:H cell=none)
  (hns:h1.Ns s.heap.objs.size (λz=>[(x,u)].reverse.lookup z)) (hk:∀b o,s.heap.get? b=some o->h1.get? b=some o) :
  Inv (qT P w K mg base x y l f c cell A outer s H E) [] [some vx,some vy] H { s with heap:=h1,toks:=tk }:=by
 have noA:∀b:Addr,b∉(qT P w K mg base x y l f c cell A outer s H E).ex:=λb z=>absurd (show b∈([]:List Addr) from z) (by simp);have hc1:h1.IsCell cell (some uy):=by obtain⟨o,e1,e2⟩:=hc;exact⟨o,hk _ _ e1,e2⟩
 refine⟨⟨e0.mod,S.kind,rfl,rfl,Qh _,λy' z c h1 h2=>(lk1 h1).1.trans (lk1 h2).1.symm,λz hz=>?_,(λy c h _=>nomatch h),λ_=>hd,Around.frames_deeper e0.frames,.inr ⟨rfl,rfl⟩,λb z=>absurd z (noA b),e0.bs,e0.bsz,λb _ _=>noA b,λb z=>absurd z (noA b),e0.funs,e0.frf⟩,
  rfl,e0.bare,Un.kept hk,⟨_,hns,λi z v h1 h2 h3=>?_⟩,λz c h=>?_,e0.hok.fresh (Qh _),λz c h=>?_,λp hp=>absurd (show p∈([]:List (Addr × Obj)) from hp) (by simp),e0.hok.kept hk,rfl⟩
 ·have hz:l.scope.names.lookup z=some .cell\/l.scope.names.lookup z=some .free:=hz;rcases hz with hz|hz
  ·exact absurd rfl (S.nocell _ (PySem.mem_of_lookup hz))
  rw[S.only z hz];exact⟨cell,oq⟩
 ·match i with
  | 0 =>
   cases h1;cases h2;refine⟨u,rx,.inl ⟨S.par,?_⟩⟩;show [(x,u)].reverse.lookup x=some u;simp[List.lookup]
  | 1 =>
   cases h1;cases h2;exact⟨uy,ry,.inr ⟨.inr S.fre,cell,oq,hc1⟩⟩
  | i+2 =>
   exact absurd h1 (by show ([x,y]:List Str)[i+2]?≠some z;simp)
 ·rw[(lk1 h).2];exact⟨_,hc1⟩
 rw[(lk1 h).2];exact hH
theorem vU {l:Lm} {A:Around} {outer:List Env} {Q:VK} {E:XK} {vx vy:V} {k:Nat} {t:TE} {args:Args}
  (S:LmScope x y l.scope) (hr:Room (k+1) A) (e0:Env0 P w K mg base A outer s H) (rx:aR vx u) (ry:aR vy uy) (hc:s.heap.IsCell cell (some uy)) (hH:H cell=none)
  (hf:s.heap.get? f=some (PySem.W.kla_obj "<lambda>" l.qual l.params l.body l.scope [(y,cell)] pm c ctv)) (hcd:s.heap.CodeRec (.ref c) l.qual) (hb:bindArgs (PySem.W.kla_fn "<lambda>" l.qual l.params l.body l.scope [(y,cell)] pm (.ref c) ctv) args=pure [(x,u)])
  (body:Room k (A.deeper (PySem.W.envX l.qual l.scope s.heap.objs.size f (.ref c) [(y,cell)]))->PE (qT P w K mg base x y l f c cell A outer s H E) l.body t) (q:t [some vx,some vy] H Q):codeAny (model P w) A (.call (.ref f) args) (CR CX0 outer P w H s Q E) s:=by
 have lim:s.heap.NoLimit:=e0.mod.nolimit.keeps λb o e=>(e0.bs b o e).1;refine PySem.W.kla_callFunE hr.depth hf rfl S.co S.gen rfl hcd ?_;rw[hb];refine Qf (wpAny_newFunctionEnv S.nocell (λz hz=>by rw[Q3.mp hz];exact S.par) (λh1 hns hsb=>?_) S.kind);have hk1:∀b o,s.heap.get? b=some o->h1.get? b=some o:=λb o e=>hsb.extBut b o (QB (Qm e)) (Qd _ e);refine⟨lim.keeps hk1,?_⟩;show codeAny _ _ (.expr l.body (PySem.W.envX l.qual l.scope s.heap.objs.size f (.ref c) [(y,cell)])) _ _;have I:=vW (f:=f) (c:=c) (E:=E) (tk:=s.toks+[(x,u)].length) S hr.hd e0 rx ry hc hH hns hk1;refine PySem.W.kla_codeExpr (Xn (body (hr.deeper _) [] _ _ H Q I q) (λv s' hs=>?_) λe s' hs=>hs);obtain⟨v',H',J,rv,qv⟩:=hs;exact⟨v',H',J.os,J.bare,J.base,J.hok,rv,qv⟩
def Calls (P:Program) (w:World) (K:PySem.W.Frag) (mg:Str->Option Value) (base:Heap) (k:Nat) (f:Addr) (r:V->Hp->VK->Prop):Prop :=
 ∀(X:Cx),X.prog=P->X.w=w->X.K=K->X.mg=mg->X.base=base->jX CX0 X E0->Room k X.A->∀pins s σ H vx u (Q:VK),Inv X pins σ H s->aR vx u->r vx H Q->wpAny (model X.prog X.w) X.A (call (.ref f) [u]) (EP X pins σ Q) X.xe s
def tf (P:Program) (w:World) (K:PySem.W.Frag) (mg:Str->Option Value) (base:Heap) (k i:Nat) (te:TE):TE:=λσ H Q=>∃f l cl c r,σ[i]?=some (some (.ref f))/\Calls P w K mg base k f r/\H f=some (hZ f l cl c)/\te σ H λv H1=>H1 f=some (hZ f l cl c)/\r v H1 Q
variable {pins:List (Addr × Obj)} {X:Cx}
theorem oB {σ:St} {l:Lm} (I:Inv X pins σ H s) (h:H f=some (hZ f l cl c)):PySem.W.FnAt f s.heap:=by
 obtain⟨pm,ctv,e⟩:=(I.hok f _ h).1;exact⟨_,_,_,_,e⟩
theorem tY {k i:Nat} {e:Expr} {te:TE} {p pos:Pos} (hr:Room k X.A) (hx:jX CX0 X E0) (hn:PE X (.Name n p) (eN i)) (he:PE X e te) (hs:starEach [e] X.env=[(false,eval e X.env)]:=by rfl) (hs0:starEach ([]:List Expr) X.env=[]:=by rfl) (hpl:(backTo pos (starEach [] X.env)).any (·.1)=false:=by rfl) :
  PE X (.Call (.Name n p) [e] [] pos) (tf X.prog X.w X.K X.mg X.base k i te):=by
 intro pins s σ H Q I h;obtain⟨f,l,cl,c,r,hi,C,hf,h⟩:=h;refine wpAny_Call_Name_kw (thn (hn pins s σ H (λv H1=>v=.ref f/\H1=H) I ⟨_,hi,rfl,rfl⟩) λu s1 ⟨v,H1,I1,ru,ev,eh⟩=>?_);subst ev eh;obtain rfl:u=Value.ref f:=ru;refine PySem.W.callWith_F (oB I1 hf) ?_ (by rw[hs,hs0]) hpl;rw[hs];refine XQ (thn (he pins s1 σ H1 _ I1 h) λiv s2 ⟨v,H2,I2,rv,hf2,q⟩=>?_);refine Calls.spliced_nil ⟨oB I2 hf2,?_⟩;exact C X rfl rfl rfl rfl rfl hx hr pins s2 σ H2 v iv Q I2 rv q
theorem Inv.cellAt {σ:St} {i:Nat} {vy:V} (I:Inv X pins σ H s) (hN:X.N[i]?=some y) (hi:σ[i]?=some (some vy)) (hk:X.env.kindOf y=some .cell) (hv:Vis X.env.scope y) (hl:X.env.cells.lookup y=some cell) :
  ∃o uy,s.heap.get? cell=some o/\o.data=.cell (some uy)/\aR vy uy/\H cell=none:=by
 obtain⟨m,_,loc⟩:=I.loc;obtain⟨u,ru,lk⟩:=loc i y vy hN hi hv;rcases lk with⟨k,_⟩|⟨_,c,e,o,e1,e2⟩
 ·rw[hk]at k;cases k
 rw[hl]at e;cases e;exact⟨o,u,e1,e2,ru,I.freeC y cell hl⟩
theorem Inv.cellOut {σ:St} (I:Inv X pins σ H s) (hf:X.fn y=true) (hl:X.env.cells.lookup y=some cell):cell∉frs X.stack:=λz=>by
 have ab:=I.ok.cab y cell hf hl
 have no:cell∉frs X.outer:=λz=>by
  obtain⟨_,o,ho,_⟩:=I.ok.funs.mem z;exact absurd (Qm ho) (Nat.not_lt.mpr ab)
 rcases I.ok.stk with e|⟨e,fr⟩
 ·rw[e]at z;exact no z
 rw[e]at z;unfold frs at z;rw[XC,fr]at z;rcases QQ.mp z with z|z
 ·exact I.cne y cell hl z
 exact no z
def xD (sp:Sp) (i:Nat) (cell:Addr) (t:TA):TE:=λσ H Q=>t σ H λvs H1=>∃vy,σ[i]?=some (some vy)/\∀o uy,o.data=.cell (some uy)->aR vy uy->H1 cell=none->sp vs (upd H1 cell (dw o)) (λv H2=>Q v (cM H2 cell)) E0
variable {ps loose:List Str}
theorem xT {k i:Nat} {sp:Sp} {e:Expr} {es:List Expr} {t:TA} {p pos:Pos} (F:Fn X.prog X.w X.K X.mg X.base x ps k sp) (hr:Room k X.A) (hg:Gl X x) (ha:PA X (e::es) t)
  (hN:X.N[i]?=some y) (hky:X.env.kindOf y=some .cell) (hv:Vis X.env.scope y) (hl:X.env.cells.lookup y=some cell) (hfn:X.fn y=true)
  (hdb:(x==("__debug__" : Str))=false:=by decide) (he:starEach (e::es) X.env=(false,eval e X.env)::starEach es X.env:=by rfl) (hpl:(backTo pos (starEach es X.env)).any (·.1)=false:=by rfl) :
  PE X (.Call (.Name x p) (e::es) [] pos) (xD sp i cell t):=by
 obtain⟨f,fd,G,hm,hk,hb⟩:=F.ex;intro pins s σ H Q I h;refine wpAny_Call_Name_kw (mE I hg hm ?_ hdb);refine PySem.W.callWith_K (h₀:=X.base) I.ok.mod.kin hk (thn (ha pos pins s σ H _ I h) λus s1 ⟨vs,H1,I1,r,q⟩=>⟨I1.kIn,?_⟩) he hpl;obtain⟨vy,hi,q⟩:=q;obtain⟨o,uy,e1,e2,ry,hn⟩:=I1.cellAt hN hi hky hv hl;have nf:=I1.cellOut hfn hl;have ab:=I1.ok.cab y cell hfn hl;have e0:=I1.env0
 have e0':Env0 X.prog X.w X.K X.mg X.base X.A X.stack s1 (upd H1 cell (dw o)):=⟨e0.frames,e0.mod,λb ob e=>⟨(e0.bs b ob e).1,by
  rw[aq]
  ·exact(e0.bs b ob e).2
  ·intro z;have:=Qm (I1.ok.bs b ob e).1;rw[z]at this
   exact absurd this (Nat.not_lt.mpr ab)⟩,e0.bsz,e0.funs,λb hb=>by
  rw[aq]
  ·exact e0.frf b hb
  intro z;rw[z]at hb;exact nf hb,e0.hok.take hn e1,e0.bare⟩
 have hl2:us.length=ps.length:=by rw[<-r.length];exact G.len _ _ _ _ (q o uy e2 ry hn)
 refine wpAny_call (codeAny_mono (G.run X.A X.stack s1 _ ⟨us,[]⟩ us vs _ E0 hr e0' (by have:=hb s1 us I1.kIn (by rw[List.append_nil];exact hl2);rwa [List.append_nil]at this) r (q o uy e2 ry hn)) λrr s' hq=>?_)
 cases rr with
 | error e=>exact False.elim hq
 | ok fl =>
 cases fl with
 | ret u =>
  obtain⟨v,H',os,bare,un,hok,rv,qv⟩:=hq;obtain⟨un',hok',_⟩:=un.out hok hn e1 nf;exact I1.after ⟨v,_,os,bare,un',hok',rv,qv⟩
 | next=>exact False.elim hq
 | brk=>exact False.elim hq
 | cont=>exact False.elim hq
structure FunC (K:PySem.W.Frag) (x qual:Str) (st:Stmt) (f:Addr) (fd:FuncData) (c:Addr):Prop where
 ex:∃oc od kV doc pm an ct osl,fd=PySem.W.fnOf x qual (cQ st) (bS st) (au st) .none kV doc pm an (.ref c) ct/\K.lookup f=some ⟨oc,od,.func (PySem.W.fnOf x qual (cQ st) (bS st) (au st) .none kV doc pm an (.ref c) ct),osl⟩/\PySem.W.codeIn K (.ref c) qual=true
section
variable {P:Program} {w:World} {K:PySem.W.Frag} {mg:Str->Option Value} {base:Heap}
theorem FunC.ok {x qual:Str} {st:Stmt} {f c:Addr} {fd:FuncData} {N ps:List Str} {k:Nat} {sp:Sp} (F:FunC K x qual st f fd c) (S:FnScope N ps (au st)) (len:∀vs H Q E,sp vs H Q E->vs.length=ps.length)
  (hbody:∀(A:Around) (outer:List Env) (s:Shared) (H:Hp) (vs:List V) (Q:VK) (E:XK),Room k (A.deeper (envOfC qual (au st) s.heap.objs.size f (.ref c)))->sp vs H Q E ->
   ∃t,PSs (cxOf CX0 P w K mg base N qual (au st) f (.ref c) A outer s H E).nox (bS st) t/\t { nx:=λ_ H'=>Q .non H',rt:=Q } (start N vs) H):FnOk P w K mg base CX0 (k+1) f fd ps sp:=by
 obtain⟨oc,od,kV,doc,pm,an,ct,osl,rfl,lk,hcd⟩:=F.ex;refine xo lk hcd S len λA outer s H vs Q E hr hsp=>?_;obtain⟨t,h,q⟩:=hbody A outer s H vs Q E hr hsp;exact⟨t,h.nox,q⟩
end
structure OnlyT (tabs:List (Addr × Addr)) (H:Hp):Prop where
 tab:∀q∈tabs,H q.2=some (.tbl #[])
 other:∀b,b∉tabs.map (·.2)->H b=none\/∃o xs,H b=some (.frz o (.lst xs))
theorem r_ {CX:CXT} {k:Nat} {fd:FuncData} {sp:Sp} {vs:List Value} {ns:List Int} {tabs:List (Addr × Addr)}
  (KX:K.In s₁.heap) (hns:s₁.heap.Ns mainGlobals mg) (hb:s₁.heap.Ns builtinsNs mb) (hbb:∀x:Str,x ≠ "__name__" -> mb x=bootBuiltins x) (hlim:s₁.heap.NoLimit) (hg:s₁.gens=#[])
  (hbm:fN s₁.heap mg) (hT:PySem.W.TabsAt tabs s₁.heap) (hTK:∀q∈tabs,K.lookup q.2=none)
  (ha:s₁.heap.get? a=some { cls:=.type "list", data:=.seq vs.toArray }) (hi:IntsAre vs ns) (hl:ns.length<=sizeLine) (hr:Room k callerA)
  (F:∀base:Heap,K.In base->base.Ns mainGlobals mg->fN base mg->FnOk P w K mg base CX k fa fd [x] sp) (hbind:∀(s:Shared) (u:Value),BindsTo s fd ⟨[u],[]⟩ [(x,u)])
  (hsp:∀H:Hp,OnlyT tabs H->SqL K H a (ns.map V.int)->sp [.ref a] H (λv _=>v=.bl true) λ_ _ _=>False)
  (hCX:∀H e s',CX [] H s₁ (λ_ _ _=>False) e s'->False) :
  codeAny (model P w) callerA (.call (.ref fa) ⟨[.ref a],[]⟩) (λr s'=>r=.ok (.ret (.bool true))/\OldK s₁.heap s'.heap/\s'.os=s₁.os/\AllBare s'.gens) s₁:=by
 have rv:=kD hi;have lenV:=hi.length
 have naT:a∉tabs.map (·.2):=λq=>by
  obtain⟨r,hr,e⟩:=Qo.mp q;have e2:=(hT r hr).2;rw[e,ha]at e2;cases e2
 have core:∀H:Hp,OnlyT tabs H->SqL K H a (ns.map V.int)->HOk P w H s₁.heap->(∀b,H b≠none->b=a\/b∈tabs.map (·.2))->(H a≠none->K.lookup a=none) ->
   codeAny (model P w) callerA (.call (.ref fa) ⟨[.ref a],[]⟩) (λr s'=>r=.ok (.ret (.bool true))/\OldK s₁.heap s'.heap/\s'.os=s₁.os/\AllBare s'.gens) s₁:=by
  intro H hO hS hok hA hK;have base_of:∀{b:Addr} {o:Obj},s₁.heap.get? b=some o->H b=none->(kj s₁.heap H).get? b=some o:=λe n=>uP e n
  have noA:∀{b:Addr} {o:Obj},s₁.heap.get? b=some o->(∀ps n,o.data≠.seq ps n)->(∀ps,o.data≠.fields ps)->H b=none:=λ{b o} e d1 d2=>by
   cases q:H b with
   | none=>rfl
   | some u =>
   rcases hA b (by rw[q];simp) with e'|e'
   ·subst e';rw[ha]at e;cases e;exact absurd rfl (d1 _ _)
   obtain⟨r,hr,er⟩:=Qo.mp e';have e2:=(hT r hr).2;rw[er,e]at e2;cases e2;exact absurd rfl (d2 _)
  have nsK:∀{b:Addr} {m:Str->Option Value},s₁.heap.Ns b m->(kj s₁.heap H).Ns b m:=λ{b m} ⟨o,es,ep,e,d,r⟩=>⟨o,es,ep,base_of e (noA e (λ_ _ z=>by rw[d]at z;cases z) (λ_ z=>by rw[d]at z;cases z)),d,r⟩
  have hKb:K.In (kj s₁.heap H):=λb o e=>base_of (KX b o e) (by
   cases q:H b with
   | none=>rfl
   | some u =>
   rcases hA b (by rw[q];simp) with e'|e'
   ·subst e';rw[hK (by rw[q];simp)]at e;cases e
   obtain⟨r,hr,er⟩:=Qo.mp e';have e2:=hTK r hr;rw[er,e]at e2
   cases e2)
  have hM:Mod K mg (kj s₁.heap H):=⟨hKb,nsK hns,⟨mb,nsK hb,hbb⟩,let ⟨mc,h1,h2⟩:=hlim;⟨mc,nsK h1,h2⟩⟩
  have hB:fN (kj s₁.heap H) mg:=by
   obtain⟨bm,ob,b1,b2,b3,b4,b5,b6,b7⟩:=hbm;exact⟨bm,ob,b1,b2,b3,base_of b4 (noA b4 (λ_ _ z=>by rw[b7]at z;cases z) (λ_ z=>by rw[b7]at z;cases z)),b5,b6,b7⟩
  have e0:Env0 P w K mg (kj s₁.heap H) callerA [] s₁ H:=⟨rfl,hM,λb o e=>vT e,Nat.le_of_eq (sC _ _),trivial,λb hb=>absurd (show b∈([]:List Addr) from hb) (by simp),hok,.of_eq hg⟩;refine codeAny_mono ((F _ hKb (nsK hns) hB).run callerA [] s₁ H ⟨[.ref a],[]⟩ [.ref a] [.ref a] _ _ hr e0 (hbind s₁ (.ref a)) (.cons rfl .nil) (hsp H hO hS)) λr s' h=>?_
  cases r with
  | error e=>exact(hCX H e s' h).elim
  | ok fl =>
  cases fl with
  | next=>exact False.elim h
  | brk=>exact False.elim h
  | cont=>exact False.elim h
  | ret u =>
  obtain⟨v,H',os,bare,un,hok',r',q⟩:=h;have q':v=.bl true:=q;subst q';obtain rfl:u=Value.bool true:=r';refine⟨rfl,⟨λb o e=>?_,λb o e=>un.there b o e (by simp)⟩,os,bare⟩
  cases q:H b with
  | none=>exact .inl (un.keep b o e q (by intro z;exact absurd (show b∈([]:List Addr) from z) (by simp)) (by simp))
  | some u =>
  by_cases hb:b∈tabs.map (·.2)
  ·obtain⟨r,hr,er⟩:=Qo.mp hb;have t1:=hO.tab r hr;have e2:=(hT r hr).2;have ict:=((hT r hr).1.tab (hT r hr).2).isCodeTable;rw[er]at t1 e2 ict;rw[e]at e2;cases e2;obtain⟨more,t2⟩:=un.tbls b _ t1;have t3:s'.heap.get? b=some { cls:=.none,data:=.fields (#[]++more) }:=hok' b _ t2;exact .inr (.inl ⟨ict,rfl,#[],more,rfl,t3⟩)
  rcases hO.other b hb with z|⟨ob,xs,z⟩
  ·rw[q]at z;cases z
  have z2:=un.frzs b ob _ z;obtain⟨e1,_⟩:=hok b _ z;obtain⟨e2,_⟩:=hok' b _ z2;rw[e]at e1;cases e1;exact .inl e2
 let HT:Hp:=λb=>if b∈tabs.map (·.2) then some (.tbl #[]) else none
 have htab:∀b,b∈tabs.map (·.2)->s₁.heap.get? b=some (PySem.W.tabObj #[]):=λb hb=>by
  obtain⟨r,hr,er⟩:=Qo.mp hb;rw[<-er];exact(hT r hr).2
 cases hk:K.lookup a with
 | some o =>
  have e:=KX a o hk;rw[ha]at e;cases e;refine core HT ⟨λq hq=>Qz (Qo.mpr ⟨q,hq,rfl⟩),λb hb=>.inl (QA hb)⟩ (.inr ⟨_,vs.toArray,_,hk,rfl,rfl,rfl,by rw[Qk,lenV];exact hl,by simpa using rv⟩) (λb u z=>?_) (λb z=>?_) λz=>absurd (QA naT) z
  ·by_cases hb:b∈tabs.map (·.2)
   ·have z':=(Qz hb).symm.trans z;cases z';exact htab b hb
   have z':=(QA hb).symm.trans z;cases z'
  by_cases hb:b∈tabs.map (·.2)
  ·exact .inr hb
  exact absurd (QA hb) z
 | none =>
 let HA:Hp:=λb=>if b=a then some (.frz { cls:=.type "list", data:=.seq vs.toArray } (.lst (ns.map V.int))) else HT b;have hA1:HA a=some (.frz { cls:=.type "list", data:=.seq vs.toArray } (.lst (ns.map V.int))):=Qz rfl;have hA2:∀b,b≠a->HA b=HT b:=λb h=>QA h;refine core HA ⟨λq hq=>?_,λb hb=>?_⟩ (.inl (.inr ⟨{ cls:=.type "list", data:=.seq vs.toArray },hA1⟩)) (λb u z=>?_) (λb z=>?_) λ_=>hk
 ·rw[hA2 _ λz=>naT (Qo.mpr ⟨q,hq,z⟩)];exact Qz (Qo.mpr ⟨q,hq,rfl⟩)
 ·by_cases hba:b=a
  ·subst hba;exact .inr ⟨_,_,hA1⟩
  rw[hA2 b hba];exact .inl (QA hb)
 ·by_cases hba:b=a
  ·subst hba;rw[hA1]at z;cases z;exact⟨ha,by rw[Qc];exact hl,vs,_,rv,ha⟩
  rw[hA2 b hba]at z;by_cases hb:b∈tabs.map (·.2)
  ·have z':=(Qz hb).symm.trans z;cases z';exact htab b hb
  have z':=(QA hb).symm.trans z;cases z'
 by_cases hba:b=a
 ·exact .inl hba
 rw[hA2 b hba]at z;by_cases hb:b∈tabs.map (·.2)
 ·exact .inr hb
 exact absurd (QA hb) z
theorem u_ {mean:ExcName->Option Value} {h:Heap} (T:Top p loose mean mg mb h):fN h mg:=by
 obtain⟨bm,ob,b1,b2,b3,b4,b5,b6⟩:=T.bmain;refine⟨bm,ob,b1,b2,λq=>?_,b3,b4,b5,b6⟩;obtain⟨o,es,ep,e,hd,_⟩:=T.g;rw[q,e]at b3;cases b3;rw[hd]at b6;cases b6
variable {XP:(Str->Option Value)->Heap->Prop} {l:PySem.W.OpenLaw}
theorem sU {n k:Nat} {q:Program} {YP:World->Heap->Prop} {d:DefRec} {K:Params->PySem.W.Frag} {CX:World->CXT} {sp:World->Sp} (tabs:World->List (Addr × Addr))
  (hn:l.most=some n) (hn2:n<=sizeLine) (hdf:d.params.defaults=[]) (hr:Room k callerA)
  (hY:∀(w:World) (h:Heap),YP w h->(K w.params).In h) (hY2:∀(w:World) (h:Heap),YP w h->PySem.W.TabsAt (tabs w) h) (hTK:∀(w:World),∀q∈tabs w,(K w.params).lookup q.2=none)
  (F:∀(w:World) (mg:Str->Option Value) (fa:Addr) (h:Heap),(K w.params).In h->h.Ns mainGlobals mg->mg d.name=some (.ref fa) ->
   ∃fd:FuncData,(∀(s:Shared) (u:Value),BindsTo s fd ⟨[u],[]⟩ [(x,u)]) /\
    ∀base:Heap,(K w.params).In base->base.Ns mainGlobals mg->fN base mg->FnOk l.prog w (K w.params) mg base (CX w) k fa fd [x] (sp w))
  (hsp:∀(w:World) (H:Hp) (a:Addr) (ns:List Int),ns.length<=n->OnlyT (tabs w) H->SqL (K w.params) H a (ns.map V.int)->sp w [.ref a] H (λv _=>v=.bl true) λ_ _ _=>False)
  (hCX:∀(w:World) (H:Hp) (s:Shared) (e:Value) (s':Shared),CX w [] H s (λ_ _ _=>False) e s'->False) :
  PySem.W.WalkO q loose XP YP l.row.toRowW d [] (λf vs=>PySem.call f vs):=by
 refine Att.oN hn hdf λw s₀ s₁ mg mb fa o pm cd doc a vs ns G Y ho hd hcd hmg hobj hints hlen hg=>?_;have KX:=hY w _ Y;obtain⟨fd,hb,hF⟩:=F w mg fa _ KX G.T.g hmg;exact r_ KX G.T.g G.T.b G.T.builtins G.T.nolimit hg (u_ G.T) (hY2 w _ Y) (hTK w) hobj hints (QP hlen hn2) hr hF hb (λH hO hS=>hsp w H a ns hlen hO hS) λH e s'=>hCX w H s₁ e s'
def pN (K:PySem.W.Frag) (ts:List Addr):List (Addr × Addr):=ts.flatMap λT=>(K.filter λp=>PySem.W.codeHdIn K p.1 T).map λp=>(p.1,T)
def gz (K:PySem.W.Frag) (ts:List Addr):Bool:=ts.all λT=>(K.any λp=>PySem.W.codeHdIn K p.1 T)&&(K.lookup T).isNone
variable {ts as:List Addr}
theorem jx {q:Addr × Addr} (h:q∈pN K ts):q.2∈ts/\PySem.W.codeHdIn K q.1 q.2=true:=by
 obtain⟨T,hT,h⟩:=List.mem_flatMap.mp h;obtain⟨p,hp,rfl⟩:=Qo.mp h;exact⟨hT,(List.mem_filter.mp hp).2⟩
theorem pM (ok:gz K ts=true) (hT:T∈ts):∃c,(c,T)∈pN K ts:=by
 have h:=QJ.mp ok T hT;rw[XA]at h;obtain⟨p,hp,e⟩:=List.any_eq_true.mp h.1;exact⟨p.1,List.mem_flatMap.mpr ⟨T,hT,Qo.mpr ⟨p,List.mem_filter.mpr ⟨hp,e⟩,rfl⟩⟩⟩
theorem pL (ok:gz K ts=true) (hT:T∈ts):K.lookup T=none:=by
 have h:=QJ.mp ok T hT;rw[XA]at h;exact Option.isNone_iff_eq_none.mp h.2
theorem sV {n k:Nat} {q:Program} {d:DefRec} {K:Params->PySem.W.Frag} {e:∀P,as=(K P).map (·.1)} {CX:World->CXT} {sp:World->Sp}
  (hn:l.most=some n) (hn2:n<=sizeLine) (hdf:d.params.defaults=[]) (hr:Room k callerA) (ok:∀w:World,gz (K w.params) ts=true)
  (F:∀(w:World) (mg:Str->Option Value) (fa:Addr) (h:Heap),(K w.params).In h->h.Ns mainGlobals mg->mg d.name=some (.ref fa) ->
   ∃fd:FuncData,(∀(s:Shared) (u:Value),BindsTo s fd ⟨[u],[]⟩ [(x,u)]) /\
    ∀base:Heap,(K w.params).In base->base.Ns mainGlobals mg->fN base mg->FnOk l.prog w (K w.params) mg base (CX w) k fa fd [x] (sp w))
  (hsp:∀(w:World) (H:Hp) (a:Addr) (ns:List Int),ns.length<=n->(∀T∈ts,H T=some (.tbl #[]))->SqL (K w.params) H a (ns.map V.int)->sp w [.ref a] H (λv _=>v=.bl true) λ_ _ _=>False)
  (hCX:∀(w:World) (H:Hp) (s:Shared) (e:Value) (s':Shared),CX w [] H s (λ_ _ _=>False) e s'->False) :
  PySem.W.WalkO q loose XP (PySem.W.kmHook K as e ts).says l.row.toRowW d [] (λf vs=>PySem.call f vs):=by
 refine sU (λw=>pN (K w.params) ts) hn hn2 hdf hr (λw h Y=>PySem.W.km_in_of Y) (λw h Y q hq=>?_) (λw q hq=>pL (ok w) (jx hq).1) F (λw H a ns h1 hO hS=>hsp w H a ns h1 (λT hT=>?_) hS) hCX
 ·obtain⟨h1,h2⟩:=jx hq;exact⟨PySem.W.codeHd_of_K (PySem.W.km_in_of Y) h2,PySem.W.km_tabs_of Y _ h1⟩
 obtain⟨c,hc⟩:=pM (ok w) hT;exact hO.tab _ hc
def wG (f:Addr) (l:Lm) (y:Str) (cell c:Addr) (t:TE):V->Hp->VK->Prop:=λvx H Q=>∃(o:Obj) (uy:Value) (vy:V),H f=some (hZ f l [(y,cell)] c)/\H c=some (iq c l.qual)/\H cell=some (dw o)/\o.data=.cell (some uy)/\aR vy uy /\
 t [some vx,some vy] (cM H cell) λv H'=>H' cell=none->Q v (upd H' cell (dw o))
theorem p8 {l:Lm} {k:Nat} {t:TE} (S:LmScope x y l.scope)
  (hb:∀(pm ctv u:Value),bindArgs (PySem.W.kla_fn "<lambda>" l.qual l.params l.body l.scope [(y,cell)] pm (.ref c) ctv) ⟨[u],[]⟩=pure [(x,u)])
  (body:∀(A:Around) (outer:List Env) (s:Shared) (H:Hp),Room k (A.deeper (PySem.W.envX l.qual l.scope s.heap.objs.size f (.ref c) [(y,cell)]))->PE (qT P w K mg base x y l f c cell A outer s H E0) l.body t) :
  Calls P w K mg base (k+1) f (wG f l y cell c t):=by
 intro X e1 e2 e3 e4 e5 hx hr pins s σ H vx u Q I rx h;subst e1 e2 e3 e4 e5;obtain⟨o,uy,vy,hf,hc,hcell,hd,ry,q⟩:=h;obtain⟨pm,ctv,ef⟩:=(I.hok f _ hf).1;have ec:s.heap.CodeRec (.ref c) l.qual:=(I.hok c _ hc).1;have eo:s.heap.get? cell=some o:=(I.hok cell _ hcell).1;have e0:=I.env0
 have nf:cell∉frs X.stack:=λz=>by
  have:=e0.frf cell z;rw[hcell]at this;cases this
 have e0':Env0 X.prog X.w X.K X.mg X.base X.A X.stack s (cM H cell):=⟨e0.frames,e0.mod,λb ob e=>⟨(e0.bs b ob e).1,by
  by_cases z:b=cell
  ·rw[z];exact cA
  ·rw[br z];exact(e0.bs b ob e).2⟩,e0.bsz,e0.funs,λb hb=>by
  by_cases z:b=cell
  ·rw[z];exact cA
  rw[br z];exact e0.frf b hb,e0.hok.drop hcell,e0.bare⟩
 refine wpAny_call (codeAny_mono (vU (E:=E0) S hr e0' rx ry ⟨o,eo,hd⟩ cA ef ec (hb pm ctv u) (body X.A X.stack s (cM H cell)) q) λr s' hq=>?_)
 cases r with
 | error e=>exact False.elim hq
 | ok fl =>
 cases fl with
 | ret u =>
  obtain⟨v,H',os,bare,un,hok,rv,qv⟩:=hq;obtain⟨un',n',e'⟩:=un.back hcell eo nf (by simp);exact I.after ⟨v,_,os,bare,un',hok.take n' e',rv,qv n'⟩
 | next=>exact False.elim hq
 | brk=>exact False.elim hq
 | cont=>exact False.elim hq
end L2
namespace LZ
open PySem
section
variable {prog:Program} {w:World} {A:Around} {E:Value->Shared->Prop} {s:Shared}
abbrev IsZ (h:Heap) (z TI TO:Addr) (f0:Value) (f1:Bool):Prop :=
 h.get? z=some { cls:=.type "zip", dict:=none,data:=.fields #[f0,.bool f1,.bool false,.ref TI,.ref TO],slots:=#[] }
structure Apart5 (z TI TO i1 i2 l:Addr):Prop where
 TIz:TI≠z
 TOz:TO≠z
 i1z:i1≠z
 i2z:i2≠z
 TITO:TI≠TO
 TIi1:TI≠i1
 TIi2:TI≠i2
 TOi1:TO≠i1
 TOi2:TO≠i2
 i12:i1≠i2
 lz:l≠z
 lTO:l≠TO
 li1:l≠i1
 li2:l≠i2
variable {x:Str} {it z i1 i2 l a:Addr} {ty:String}
theorem gR (hty:ty = "str_ascii_iterator" \/ ty = "str_iterator") {t:Tok} {i c:Nat} {Q:Value->Shared->Prop} (hit:s.heap.IsStrIter it ty x t i) (hx:x.cps[i]?=some c)
  (hQ:∀h',h'.IsStrIter it ty x t (i+1)->Heap.SameBut it s.heap h'->Q (.str ⟨#[c]⟩ s.toks) { s with heap:=h',toks:=s.toks+1 }) :
  wpAny (model prog w) A (Builtin.SmallTypes.nextOf (.ref it)) Q E s:=by
 rcases hty with e|e
 ·subst e;exact wpAny_nextOf_ascii_item hit hx hQ
 subst e;exact wpAny_nextOf_wide_item hit hx hQ
variable {Q:Option Value->Shared->Prop} {xs:Array Value}
theorem pI (hty:ty = "str_ascii_iterator" \/ ty = "str_iterator") {TI TO:Addr} {k c:Nat} {t:Tok} {v a b:Value} (D:Apart5 z TI TO i1 i2 l)
  (hz:IsZ s.heap z TI TO .none false) (hTI:IsPair s.heap TI (.ref i1) (.ref i2)) (hTO:IsPair s.heap TO a b) (h1:s.heap.IsListIter i1 l k) (h2:s.heap.IsStrIter i2 ty x t k) (hl:s.heap.IsList l xs) (hv:xs[k]?=some v) (hc:x.cps[k]?=some c)
  (hQ:∀h',IsZ h' z TI TO (rawInt s.heap.objs.size) false->(∃a b,IsPair h' TO a b)->h'.IsListIter i1 l (k+1)->h'.IsStrIter i2 ty x t (k+1)->IsPair h' s.heap.objs.size v (.str ⟨#[c]⟩ s.toks)->h'.objs.size=s.heap.objs.size+1 ->
   (∀c o,c≠z->c≠TO->c≠i1->c≠i2->s.heap.get? c=some o->h'.get? c=some o)->Q (some (.ref s.heap.objs.size)) { s with heap:=h',toks:=s.toks+1 }) :
  wpAny (model prog w) A (pyNext (.ref z)) Q E s:=by
 have hT:s.TypeIs (.ref z) "zip" := ⟨_,hz,rfl⟩;unfold pyNext
 refine Qa (wpAny_attempt (XW (name:=Str.ofString "__next__") hT F.slot_zip_next
  (XB F.slot_zip_next hT F.entry_zip_next ?_ (F.args_zip_next_1 _))))
 show wpAny _ _ (field (.ref z) 2 >>= _) _ _ _;refine Qa (Xo hz rfl (x:=.bool false) rfl ?_);show wpAny _ _ (field (.ref z) 3 >>= _) _ _ _;refine Qa (Xo hz rfl (x:=.ref TI) rfl ?_);refine Qa (XG hTI rfl ?_);show wpAny _ _ (Builtin.SmallTypes.ownedTupleIsFree (.ref z) >>= _) _ _ _;refine Qa ?_;unfold Builtin.SmallTypes.ownedTupleIsFree;refine Qa (Xo hz rfl (x:=.none) rfl (Qf ?_));simp only[if_true];refine Qa (XR ?_);refine Qa (Xo hz rfl (x:=.ref TO) rfl ?_);refine Qa (Xe hz (by simp) λh₁ hz₁ hs₁=>?_)
 replace hz₁:IsZ h₁ z TI TO .ellipsis false:=hz₁
 refine Qa ?_;simp only[List.zipIdx_cons,List.zipIdx_nil,List.forIn_cons,List.forIn_nil];refine Qa (Qa (wpAny_onRaise ?_));show wpAny _ _ (Builtin.SmallTypes.nextOf (.ref i1) >>= _) _ _ _;refine Qa (wpAny_nextOf_list_item (h1.extBut hs₁.extBut D.i1z) (hl.extBut hs₁.extBut D.lz) hv λh₂ h1₂ hs₂=>Qf ?_);have hTO₂:IsPair h₂ TO a b:=hs₂.extBut _ _ D.TOi1 (hs₁.extBut _ _ D.TOz hTO);refine Qa (XG hTO₂ rfl ?_);refine Qa (wpAny_updateSeq_pair hTO₂ λh₃ hTO₃ hs₃=>?_)
 replace hTO₃:IsPair h₃ TO v b:=hTO₃
 refine Qa (wpAny_letGo (Qf ?_));refine Qa (Qa (wpAny_onRaise ?_));show wpAny _ _ (Builtin.SmallTypes.nextOf (.ref i2) >>= _) _ _ _;have h2₃:h₃.IsStrIter i2 ty x t k:=((h2.extBut hs₁.extBut D.i2z).extBut hs₂.extBut D.i12.symm).extBut hs₃.extBut D.TOi2.symm;refine Qa (gR hty h2₃ hc λh₄ h2₄ hs₄=>Qf ?_);have hTO₄:IsPair h₄ TO v b:=hs₄.extBut _ _ D.TOi2 hTO₃;refine Qa (XG hTO₄ rfl ?_);refine Qa (wpAny_updateSeq_pair hTO₄ λh₅ hTO₅ hs₅=>?_)
 replace hTO₅:IsPair h₅ TO v (.str ⟨#[c]⟩ s.toks):=hTO₅
 refine Qa (wpAny_letGo (Qf (Qf ?_)));refine Qa (XG hTO₅ rfl ?_);refine Qa (wpAny_newTuple ?_);have hsz:h₅.objs.size=s.heap.objs.size:=by rw[hs₅.1,hs₄.1,hs₃.1,hs₂.1,hs₁.1]
 have hz₅:IsZ h₅ z TI TO .ellipsis false:=hs₅.extBut _ _ D.TOz.symm (hs₄.extBut _ _ D.i2z.symm (hs₃.extBut _ _ D.TOz.symm (hs₂.extBut _ _ D.i1z.symm hz₁)))
 have hk₅:∀c o,c≠z->c≠TO->c≠i1->c≠i2->s.heap.get? c=some o->h₅.get? c=some o:=λc o c1 c2 c3 c4 e =>
  hs₅.extBut _ _ c2 (hs₄.extBut _ _ c4 (hs₃.extBut _ _ c2 (hs₂.extBut _ _ c3 (hs₁.extBut _ _ c1 e))))
 have h1₅:h₅.IsListIter i1 l (k+1):=((h1₂.extBut hs₃.extBut D.TOi1.symm).extBut hs₄.extBut D.i12).extBut hs₅.extBut D.TOi1.symm;have h2₅:h₅.IsStrIter i2 ty x t (k+1):=h2₄.extBut hs₅.extBut D.TOi2.symm;have hzlt:z<h₅.objs.size:=Qm hz₅;show wpAny _ _ (Builtin.SmallTypes.ownedTupleHandOut (.ref z) (.ref h₅.objs.size) >>= _) _ _ _;refine Qa ?_;unfold Builtin.SmallTypes.ownedTupleHandOut;have hz₆:IsZ (h₅.push { cls:=.type "tuple", data:=.seq #[v,.str ⟨#[c]⟩ s.toks] }) z TI TO .ellipsis false:=Qd _ hz₅;refine Qa (Xe hz₆ (by simp) λh₇ hz₇ hs₇=>?_)
 replace hz₇:IsZ h₇ z TI TO (rawInt h₅.objs.size) false:=hz₇
 refine Xe hz₇ (by simp) λh₈ hz₈ hs₈=>?_
 replace hz₈:IsZ h₈ z TI TO (rawInt h₅.objs.size) false:=hz₈
 have up:∀c o,c≠z->h₅.get? c=some o->h₈.get? c=some o:=λc o c1 e=>hs₈.extBut _ _ c1 (hs₇.extBut _ _ c1 (Qd _ e));have hT₈:IsPair h₈ h₅.objs.size v (.str ⟨#[c]⟩ s.toks):=hs₈.extBut _ _ (Nat.ne_of_gt hzlt) (hs₇.extBut _ _ (Nat.ne_of_gt hzlt) (Qp _ rfl));have hz8:h₈.objs.size=h₅.objs.size+1:=by rw[hs₈.1,hs₇.1,Q5]
 rw[hsz]at hz₈ hT₈ hz8;refine Qf ⟨_,rfl,Qf ?_⟩;show Q (some (.ref h₅.objs.size)) _;rw[hsz];exact hQ h₈ hz₈ ⟨_,_,up _ _ D.TOz hTO₅⟩ (h1₅.at λo e=>up _ o D.i1z e) (let ⟨o,e,r⟩:=h2₅;⟨o,up _ o D.i2z e,r⟩) hT₈ hz8 λc o c1 c2 c3 c4 e=>up c o c1 (hk₅ c o c1 c2 c3 c4 e)
theorem xp {o:Obj} {Q:Option Obj->Shared->Prop} (ho:s.heap.get? a=some o) (h:Q (some o) s):wpAny (model prog w) A (loadIfAlive a) Q E s:=by
 have h':Q (s.heap.get? a) s:=by rw[ho];exact h
 exact λ_ _ _=>h'
theorem pH (hty:ty = "str_ascii_iterator" \/ ty = "str_iterator") {TI TO T:Addr} {f1:Bool} {oT:Obj} {k c:Nat} {t:Tok} {v:Value} (D:Apart5 z TI TO i1 i2 l)
  (hz:IsZ s.heap z TI TO (rawInt T) f1) (hT:s.heap.get? T=some oT) (hTI:IsPair s.heap TI (.ref i1) (.ref i2)) (h1:s.heap.IsListIter i1 l k) (h2:s.heap.IsStrIter i2 ty x t k) (hl:s.heap.IsList l xs) (hv:xs[k]?=some v) (hc:x.cps[k]?=some c)
  (hQ:∀h',IsZ h' z TI TO (rawInt T) true->h'.IsListIter i1 l (k+1)->h'.IsStrIter i2 ty x t (k+1)->IsPair h' s.heap.objs.size v (.str ⟨#[c]⟩ s.toks)->h'.objs.size=s.heap.objs.size+1 ->
   (∀c o,c≠z->c≠i1->c≠i2->s.heap.get? c=some o->h'.get? c=some o)->Q (some (.ref s.heap.objs.size)) { s with heap:=h',toks:=s.toks+1 }) :
  wpAny (model prog w) A (pyNext (.ref z)) Q E s:=by
 have hTy:s.TypeIs (.ref z) "zip" := ⟨_,hz,rfl⟩;unfold pyNext
 refine Qa (wpAny_attempt (XW (name:=Str.ofString "__next__") hTy F.slot_zip_next
  (XB F.slot_zip_next hTy F.entry_zip_next ?_ (F.args_zip_next_1 _))))
 show wpAny _ _ (field (.ref z) 2 >>= _) _ _ _;refine Qa (Xo hz rfl (x:=.bool false) rfl ?_);show wpAny _ _ (field (.ref z) 3 >>= _) _ _ _;refine Qa (Xo hz rfl (x:=.ref TI) rfl ?_);refine Qa (XG hTI rfl ?_);show wpAny _ _ (Builtin.SmallTypes.ownedTupleIsFree (.ref z) >>= _) _ _ _;refine Qa ?_;unfold Builtin.SmallTypes.ownedTupleIsFree;refine Qa (Xo hz rfl (x:=rawInt T) rfl ?_);show wpAny _ _ (loadIfAlive ((T:Int).toNat) >>= _) _ _ _;rw[Xu];refine Qa (xp hT ?_);simp only[Option.isNone_some,QK,XV];refine Qa (Xo hz rfl (x:=.bool f1) rfl ?_)
 cases f1 with
 | false =>
  simp only[show (Value.bool false != Value.bool true)=true from rfl,if_true];refine Qa (Xe hz (by simp) λh₁ hz₁ hs₁=>Qf ?_)
  replace hz₁:IsZ h₁ z TI TO (rawInt T) true:=hz₁
  simp only[QK,XV,List.forIn_toArray,List.forIn_cons,List.forIn_nil];refine Qa (Qa (Qa (QS ?_)));show wpAny _ _ (Builtin.SmallTypes.nextOf (.ref i1) >>= _) _ _ _;refine Qa (wpAny_nextOf_list_item (h1.extBut hs₁.extBut D.i1z) (hl.extBut hs₁.extBut D.lz) hv λh₂ h1₂ hs₂=>Qf ?_);refine Qf ?_;dsimp only;refine Qa (Qa (QS ?_));show wpAny _ _ (Builtin.SmallTypes.nextOf (.ref i2) >>= _) _ _ _;have h2₂:h₂.IsStrIter i2 ty x t k:=(h2.extBut hs₁.extBut D.i2z).extBut hs₂.extBut D.i12.symm;refine Qa (gR hty h2₂ hc λh₄ h2₄ hs₄=>Qf ?_);refine Qf (Qf ?_);dsimp only;show wpAny _ _ (newTuple [v,.str ⟨#[c]⟩ s.toks] >>= _) _ _ _;refine Qa (wpAny_newTuple ?_);have hsz:h₄.objs.size=s.heap.objs.size:=by rw[hs₄.1,hs₂.1,hs₁.1]
  have hz₄:IsZ h₄ z TI TO (rawInt T) true:=hs₄.extBut _ _ D.i2z.symm (hs₂.extBut _ _ D.i1z.symm hz₁);have hk₄:∀c o,c≠z->c≠i1->c≠i2->s.heap.get? c=some o->h₄.get? c=some o:=λc o c1 c3 c4 e=>hs₄.extBut _ _ c4 (hs₂.extBut _ _ c3 (hs₁.extBut _ _ c1 e));refine Qf ⟨_,rfl,Qf ?_⟩;show Q (some (.ref h₄.objs.size)) _;rw[hsz];exact hQ _ (Qd _ hz₄) ((h1₂.extBut hs₄.extBut D.i12).at λo e=>Qd _ e) (let ⟨o,e,r⟩:=h2₄;⟨o,Qd _ e,r⟩) (by rw[<-hsz];exact Qp _ rfl) (by rw[Q5,hsz]) λc o c1 c3 c4 e=>Qd _ (hk₄ c o c1 c3 c4 e)
 | true =>
 simp only[show (Value.bool true != Value.bool true)=false from rfl,QK,XV];refine Qf ?_;have hz₁:IsZ s.heap z TI TO (rawInt T) true:=hz;have hs₁:Heap.SameBut z s.heap s.heap:=.refl ..;simp only[QK,XV,List.forIn_toArray,List.forIn_cons,List.forIn_nil];refine Qa (Qa (Qa (QS ?_)));show wpAny _ _ (Builtin.SmallTypes.nextOf (.ref i1) >>= _) _ _ _;refine Qa (wpAny_nextOf_list_item (h1.extBut hs₁.extBut D.i1z) (hl.extBut hs₁.extBut D.lz) hv λh₂ h1₂ hs₂=>Qf ?_);refine Qf ?_;dsimp only;refine Qa (Qa (QS ?_));show wpAny _ _ (Builtin.SmallTypes.nextOf (.ref i2) >>= _) _ _ _;have h2₂:h₂.IsStrIter i2 ty x t k:=(h2.extBut hs₁.extBut D.i2z).extBut hs₂.extBut D.i12.symm;refine Qa (gR hty h2₂ hc λh₄ h2₄ hs₄=>Qf ?_);refine Qf (Qf ?_);dsimp only;show wpAny _ _ (newTuple [v,.str ⟨#[c]⟩ s.toks] >>= _) _ _ _;refine Qa (wpAny_newTuple ?_);have hsz:h₄.objs.size=s.heap.objs.size:=by rw[hs₄.1,hs₂.1,hs₁.1]
 have hz₄:IsZ h₄ z TI TO (rawInt T) true:=hs₄.extBut _ _ D.i2z.symm (hs₂.extBut _ _ D.i1z.symm hz₁);have hk₄:∀c o,c≠z->c≠i1->c≠i2->s.heap.get? c=some o->h₄.get? c=some o:=λc o c1 c3 c4 e=>hs₄.extBut _ _ c4 (hs₂.extBut _ _ c3 (hs₁.extBut _ _ c1 e));refine Qf ⟨_,rfl,Qf ?_⟩;show Q (some (.ref h₄.objs.size)) _;rw[hsz];exact hQ _ (Qd _ hz₄) ((h1₂.extBut hs₄.extBut D.i12).at λo e=>Qd _ e) (let ⟨o,e,r⟩:=h2₄;⟨o,Qd _ e,r⟩) (by rw[<-hsz];exact Qp _ rfl) (by rw[Q5,hsz]) λc o c1 c3 c4 e=>Qd _ (hk₄ c o c1 c3 c4 e)
theorem oh {TI TO:Addr} {f0:Value} {f1:Bool} {k:Nat} {a b:Value} (hh:A.handled=none) (D:Apart5 z TI TO i1 i2 l)
  (hz:IsZ s.heap z TI TO f0 f1) (hf:(f0=.none/\f1=false/\∃a b,IsPair s.heap TO a b)\/∃(T:Addr) (oT:Obj),f0=rawInt (T:Nat)/\s.heap.get? T=some oT) (hTI:IsPair s.heap TI (.ref i1) (.ref i2)) (h1:s.heap.IsListIter i1 l k) (hl:s.heap.IsList l xs) (hv:xs[k]?=none)
  (hQ:∀h',(∀c o,c≠z->c≠i1->s.heap.get? c=some o->h'.get? c=some o)->Q none { s with heap:=h' }):wpAny (model prog w) A (pyNext (.ref z)) Q E s:=by
 have hTy:s.TypeIs (.ref z) "zip" := ⟨_,hz,rfl⟩;unfold pyNext
 refine Qa (wpAny_attempt (XW (name:=Str.ofString "__next__") hTy F.slot_zip_next
  (XB F.slot_zip_next hTy F.entry_zip_next ?_ (F.args_zip_next_1 _))))
 show wpAny _ _ (field (.ref z) 2 >>= _) _ _ _;refine Qa (Xo hz rfl (x:=.bool false) rfl ?_);show wpAny _ _ (field (.ref z) 3 >>= _) _ _ _;refine Qa (Xo hz rfl (x:=.ref TI) rfl ?_);refine Qa (XG hTI rfl ?_);show wpAny _ _ (Builtin.SmallTypes.ownedTupleIsFree (.ref z) >>= _) _ _ _;refine Qa ?_;unfold Builtin.SmallTypes.ownedTupleIsFree;refine Qa (Xo hz rfl (x:=f0) rfl ?_)
 have fin:∀h' e,(∀c o,c≠z->c≠i1->s.heap.get? c=some o->h'.get? c=some o)->(∃o,h'.get? e=some o/\o.cls=.type "StopIteration") ->
   wpAny (model prog w) A (do if <-isInstance (.ref e) (.type "StopIteration") then pure none else throw (.ref e)) Q E { s with heap:=h' }:=λh' e hk ⟨o,ho,hc⟩ =>
  Qa (wpAny_isInstance (T := "StopIteration") (b:=true) ⟨o,ho,hc⟩ isSubtype_stop (Qf (hQ _ hk)))
 rcases hf with⟨e1,e2,a,b,hTO⟩|⟨T,oT,e1,hT⟩
 ·subst e1 e2;refine Qf ?_;simp only[if_true];refine Qa (XR ?_);refine Qa (Xo hz rfl (x:=.ref TO) rfl ?_);refine Qa (Xe hz (by simp) λh₁ hz₁ hs₁=>?_)
  replace hz₁:IsZ h₁ z TI TO .ellipsis false:=hz₁
  refine Qa ?_;simp only[List.zipIdx_cons,List.zipIdx_nil,List.forIn_cons,List.forIn_nil];refine Qa (Qa (wpAny_onRaise ?_));show wpAny _ _ (Builtin.SmallTypes.nextOf (.ref i1) >>= _) _ _ _;refine Qa (wpAny_nextOf_list_end hh (h1.extBut hs₁.extBut D.i1z) (hl.extBut hs₁.extBut D.lz) hv λh₂ e hs₂ he=>?_);obtain⟨oe,hoe,hce⟩:=he;have hz₂:IsZ h₂ z TI TO .ellipsis false:=hs₂ _ _ D.i1z.symm hz₁;have hez:e≠z:=λx=>by subst x;rw[hz₂]at hoe;cases hoe;simp at hce
  refine Xe hz₂ (by simp) λh₃ _ hs₃=>?_;exact fin h₃ e (λc o c1 c3 x=>hs₃.extBut _ _ c1 (hs₂ _ _ c3 (hs₁.extBut _ _ c1 x))) ⟨oe,hs₃.extBut _ _ hez hoe,hce⟩
 subst e1;show wpAny _ _ (loadIfAlive ((T:Int).toNat) >>= _) _ _ _;rw[Xu];refine Qa (xp hT ?_);simp only[Option.isNone_some,QK,XV];refine Qa (Xo hz rfl (x:=.bool f1) rfl ?_)
 cases f1 with
 | false =>
  simp only[show (Value.bool false != Value.bool true)=true from rfl,if_true];refine Qa (Xe hz (by simp) λh₁ hz₁ hs₁=>Qf ?_)
  replace hz₁:IsZ h₁ z TI TO (rawInt T) true:=hz₁
  simp only[QK,XV,List.forIn_toArray,List.forIn_cons,List.forIn_nil];refine Qa (Qa (Qa (QS ?_)));show wpAny _ _ (Builtin.SmallTypes.nextOf (.ref i1) >>= _) _ _ _;refine Qa (wpAny_nextOf_list_end hh (h1.extBut hs₁.extBut D.i1z) (hl.extBut hs₁.extBut D.lz) hv λh₂ e hs₂ he=>?_);exact fin h₂ e (λc o c1 c3 x=>hs₂ _ _ c3 (hs₁.extBut _ _ c1 x)) he
 | true =>
 simp only[show (Value.bool true != Value.bool true)=false from rfl,QK,XV];refine Qf ?_;simp only[QK,XV,List.forIn_toArray,List.forIn_cons,List.forIn_nil];refine Qa (Qa (Qa (QS ?_)));show wpAny _ _ (Builtin.SmallTypes.nextOf (.ref i1) >>= _) _ _ _;refine Qa (wpAny_nextOf_list_end hh h1 hl hv λh₂ e hs₂ he=>?_);exact fin h₂ e (λc o c1 c3 x=>hs₂ _ _ c3 x) he
abbrev zH1 (h:Heap) (l:Addr):Heap:=h.push { cls:=.type "list_iterator", data:=.fields #[.ref l,.int 0 0] }
abbrev zH2 (h:Heap) (l:Addr) (ty:String) (x:Str) (t:Tok):Heap:=(zH1 h l).push { cls:=.type ty,data:=.fields #[.str x t,.int 0 0] }
abbrev zH3 (h:Heap) (l:Addr) (ty:String) (x:Str) (t:Tok):Heap:=(zH2 h l ty x t).push { cls:=.type "tuple", data:=.seq #[.ref h.objs.size,.ref (zH1 h l).objs.size] }
abbrev zH4 (h:Heap) (l:Addr) (ty:String) (x:Str) (t:Tok):Heap:=(zH3 h l ty x t).push { cls:=.type "tuple", data:=.seq #[.none,.none] }
abbrev zH5 (h:Heap) (l:Addr) (ty:String) (x:Str) (t:Tok):Heap:=(zH4 h l ty x t).push { cls:=.type "zip", data:=.fields #[.none,.bool false,.bool false,.ref (zH2 h l ty x t).objs.size,.ref (zH3 h l ty x t).objs.size] }
def dA (x:Str):String:=if x.cps.all (·<128)=true then "str_ascii_iterator" else "str_iterator"
theorem sm {t:Tok} {Q:Value->Shared->Prop} (hQ:Q (.ref s.heap.objs.size) { s with heap:=s.heap.push { cls:=.type (dA x),data:=.fields #[.str x t,.int 0 0] } }):wpAny (model prog w) A (pyIter (.str x t)) Q E s:=by
 unfold dA at hQ
 cases ha:x.cps.all (·<128) with
 | true=>rw[ha,Qz rfl]at hQ;exact wpAny_pyIter_ascii ha hQ
 | false=>rw[ha,QA Qn]at hQ;exact wpAny_pyIter_wide ha hQ
theorem vk (x:Str):dA x = "str_ascii_iterator" \/ dA x = "str_iterator" := by
 unfold dA
 split
 ·exact .inl rfl
 exact .inr rfl
theorem rZ (l:Addr) (xs:Array Value) (x:Str) (t:Tok) :
  Meets (Builtin.«zip.__new__» ⟨[.type "zip", .ref l,.str x t],[]⟩) (λ_ R s=>s.heap.IsList l xs/\R (.ok (.ret (.ref (zH4 s.heap l (dA x) x t).objs.size))) { s with heap:=zH5 s.heap l (dA x) x t }) :=
 .of_wp λprog w A R s h=>by
  obtain⟨hp,g,d,tk,os⟩:=s;obtain⟨hl1,h⟩:=h;have hsub:=sub_zip;have hL1:Heap.IsList (Shared.heap ⟨hp,g,d,tk,os⟩) l xs:=hl1
  wp_walk using wpAny_pyIter_list hL1,sm
  exact⟨_,rfl,h⟩
theorem u9 {t:Tok} {Q:Value->Shared->Prop} (hl1:s.heap.IsList l xs)
  (h:∀h',IsZ h' (s.heap.objs.size+4) (s.heap.objs.size+2) (s.heap.objs.size+3) .none false->IsPair h' (s.heap.objs.size+2) (.ref s.heap.objs.size) (.ref (s.heap.objs.size+1)) ->
   IsPair h' (s.heap.objs.size+3) .none .none->h'.IsListIter s.heap.objs.size l 0->h'.IsStrIter (s.heap.objs.size+1) (dA x) x t 0->h'.objs.size=s.heap.objs.size+5 ->
   (∀c o,s.heap.get? c=some o->h'.get? c=some o)->Q (.ref (s.heap.objs.size+4)) { s with heap:=h' }) :
  wpAny (model prog w) A (call (.type "zip") [.ref l,.str x t]) Q E s:=by
 refine callType_new F.called_zip (by decide) (F.typeCall_zip_2 _ _) (F.newCall_zip_2 _ _) (λobj=>F.args_object_init_3 obj _ _) F.entry_zip_new (rZ l xs x t) ⟨hl1,?_⟩;have z1:(zH1 s.heap l).objs.size=s.heap.objs.size+1:=Q5 ..;have z2:(zH2 s.heap l (dA x) x t).objs.size=s.heap.objs.size+2:=by rw[Q5,z1]
 have z3:(zH3 s.heap l (dA x) x t).objs.size=s.heap.objs.size+3:=by rw[Q5,z2]
 have z4:(zH4 s.heap l (dA x) x t).objs.size=s.heap.objs.size+4:=by rw[Q5,z3]
 have z5:(zH5 s.heap l (dA x) x t).objs.size=s.heap.objs.size+5:=by rw[Q5,z4]
 have g5:(zH5 s.heap l (dA x) x t).get? (zH4 s.heap l (dA x) x t).objs.size=some _:=Qp _ rfl;have g4:(zH5 s.heap l (dA x) x t).get? (zH3 s.heap l (dA x) x t).objs.size=some _:=Qd _ (Qp _ rfl);have g3:(zH5 s.heap l (dA x) x t).get? (zH2 s.heap l (dA x) x t).objs.size=some _:=Qd _ (Qd _ (Qp _ rfl));have g2:(zH5 s.heap l (dA x) x t).get? (zH1 s.heap l).objs.size=some _:=Qd _ (Qd _ (Qd _ (Qp _ rfl)));have g1:(zH5 s.heap l (dA x) x t).get? s.heap.objs.size=some _:=Qd _ (Qd _ (Qd _ (Qd _ (Qp _ rfl))));show _/\_;rw[z2,z3,z4]at g5;rw[z1,z2]at g3;rw[z3]at g4;rw[z1]at g2;rw[z4]
 exact⟨⟨_,g5,rfl⟩,h _ g5 g3 g4 ⟨_,g1,rfl,rfl⟩ ⟨_,g2,rfl,rfl⟩ z5 λc o x =>
  Qd _ (Qd _ (Qd _ (Qd _ (Qd _ x))))⟩
theorem gM:typeLookup (.type "zip") "__getattr__" = pure none:=by rw[typeLookup_type,Xp];kernel_rfl
theorem jY:typeLookup (.type "zip") "keys" = pure none:=by rw[typeLookup_type,Xp];kernel_rfl
theorem d7:entryFor table "zip.__getattribute__" = some Builtin.«object.__getattribute__» :=
 entryFor_alias (id' := "object.__getattribute__") (by kernel_rfl) (by decide +kernel) (by decide +kernel) (by kernel_rfl)
theorem jw (a:Addr) (xs:Array Value) (sl:Array (Option Value)) (u:Tok) :
  Meets (Builtin.«object.__getattribute__» ⟨[.ref a,.str "keys" u],[]⟩) (λA R s=>s.heap.get? a=some { cls:=.type "zip", dict:=none,data:=.fields xs,slots:=sl }/\raisesAttr (.ref a) "keys" A R s) :=
 Meets.of_wp λprog w A R s hs=>by
  obtain⟨hp,g,d,tk,os⟩:=s;obtain⟨hx,hs⟩:=hs;have hT:(⟨hp,g,d,tk,os⟩:Shared).TypeIs (.ref a) "zip" := ⟨_,hx,rfl⟩;have hmiss:=jY;have hname:(["__module__", "__name__", "__qualname__", "__doc__", "__annotations__"]:List Str).contains "keys" = false:=by decide +kernel
  unfold Builtin.«object.__getattribute__»
  repeat (any_goals (first|assumption|wp_step))
  try simp only[hname,QK,XV]
  repeat (any_goals (first|assumption|wp_step))
  exact wpAny_raiseAttrError hs.1 hs.2 (attrMsg_fits (by decide +kernel) (by decide +kernel))
theorem se {sl:Array (Option Value)} (hx:s.heap.get? a=some { cls:=.type "zip", dict:=none,data:=.fields xs,slots:=sl }) (hA:A.handled=none)
  (h:∀h' tk,(∀c o,s.heap.get? c=some o->h'.get? c=some o)->Q none { s with heap:=h',toks:=tk }):wpAny (model prog w) A (getAttr? (.ref a) "keys") Q E s:=by
 obtain⟨hp,g,d,tk,os⟩:=s;have hT:∀tk',(⟨hp,g,d,tk',os⟩:Shared).TypeIs (.ref a) "zip" := λ_=>⟨_,hx,rfl⟩;have f1:=sub_AttributeError;have f3:=F.slot_zip_getattribute.lookup;have f4:=F.slot_zip_getattribute.bind (.ref a);have f5:=gM;unfold getAttr? getAttrBy? getAttrBy
 repeat (any_goals (first|assumption|exact hT _|((with_reducible show wpAny _ _ (call (Value.builtin "zip.__getattribute__") _ _) _ _ _);refine call_meets F.slot_zip_getattribute (hT _) d7 (F.args_zip_getattribute_2 _ _) (jw a xs sl _) ⟨hx,hA,λh' tk' e hx'=>?_⟩)|wp_step))
 obtain⟨t',u',he⟩:=hx'.there;show wpAny _ _ (getattributeRaised _ _ _ _ _ _ _) _ _ _;unfold getattributeRaised
 repeat (any_goals (first|assumption|wp_step))
 all_goals exact h _ _ hx'.keeps
end
theorem jt:mroOf (.type "dict")=pure [.type "dict", .type "object"]:=by rw[mroOf_type];kernel_rfl
theorem iz:typeLookup (.type "dict") "__new__" = pure (some (.builtin "dict.__new__")):=by rw[typeLookup_type,Xp];kernel_rfl
theorem im:TypeCalled "dict" "dict.__new__" "dict.__init__" :=
 ⟨by decide +kernel,by decide +kernel,⟨_,_,jt⟩,madeBy_type jt iz (by decide +kernel),by decide +kernel,by rw[isSubtype_type];kernel_rfl,F.slot_dict_init⟩
theorem eE (a:Value):checkTypeCall "dict" ⟨[a],[]⟩=pure ():=by kernel_rfl
theorem jr (a:Value):checkBuiltinCall "dict.__new__" ⟨[.type "dict", a],[]⟩=pure ():=by kernel_rfl
theorem jM:entryFor table "dict.__new__" = some Builtin.«dict.__new__»:=entryFor_of_tree (by kernel_rfl)
theorem jg:plainId "dict.__new__" = true:=by decide +kernel
theorem tm:isSubtype (.type "dict") (.type "dict")=pure true:=by rw[isSubtype_type];kernel_rfl
theorem fE:entryFor table "dict.update.loop" = some Builtin.«dict.update.loop»:=entryFor_of_tree (by kernel_rfl)
theorem bX:plainId "dict.update.loop" = true:=by decide +kernel
structure ApartD (z TI TO i1 i2 l d:Addr):Prop extends Apart5 z TI TO i1 i2 l where
 dz:d≠z
 dTI:d≠TI
 dTO:d≠TO
 di1:d≠i1
 di2:d≠i2
 dl:d≠l
structure ZS (h:Heap) (z TI TO i1 i2 l d:Addr) (ty:String) (x:Str) (t:Tok) (xs:Array Value) (k:Nat):Prop where
 zf:(IsZ h z TI TO .none false/\∃a b,IsPair h TO a b)\/∃(T:Addr) (f1:Bool) (oT:Obj),IsZ h z TI TO (rawInt (T:Nat)) f1/\h.get? T=some oT/\T≠z/\T≠i1/\T≠i2/\T≠d
 ti:IsPair h TI (.ref i1) (.ref i2)
 a1:h.IsListIter i1 l k
 a2:h.IsStrIter i2 ty x t k
 li:h.IsList l xs
section
variable {prog:Program} {w:World} {K:Type} [DecidableEq K] {knd:KeyKind prog w K} {A:Around} {R:Result->Shared->Prop}
variable {Q:Option Value->Shared->Prop} {xs:Array Value} {x:Str} {z i1 i2 l:Addr} {ty:String} {s:Shared} {E:Value->Shared->Prop}
theorem ve (hty:ty = "str_ascii_iterator" \/ ty = "str_iterator") {TI TO d:Addr} {t:Tok} {k c:Nat} {v:Value} {od:Obj} (D:ApartD z TI TO i1 i2 l d)
  (Z:ZS s.heap z TI TO i1 i2 l d ty x t xs k) (hod:s.heap.get? d=some od) (hv:xs[k]?=some v) (hc:x.cps[k]?=some c)
  (hQ:∀h' T u,ZS h' z TI TO i1 i2 l d ty x t xs (k+1)->IsPair h' T v (.str ⟨#[c]⟩ u)->T≠d->(∀c o,c≠z->c≠TO->c≠i1->c≠i2->s.heap.get? c=some o->h'.get? c=some o)->Q (some (.ref T)) { s with heap:=h',toks:=s.toks+1 }) :
  wpAny (model prog w) A (pyNext (.ref z)) Q E s:=by
 have lt:∀{c o},s.heap.get? c=some o->s.heap.objs.size≠c:=λe=>Nat.ne_of_gt (Qm e);have l1:s.heap.objs.size≠i1:=by obtain⟨_,e,_⟩:=Z.a1;exact lt e
 have l2:s.heap.objs.size≠i2:=by obtain⟨_,e,_⟩:=Z.a2;exact lt e
 rcases Z.zf with⟨hz,a,b,hTO⟩|⟨T,f1,oT,hz,hT,n1,n2,n3,n4⟩
 ·refine pI hty D.toApart5 hz Z.ti hTO Z.a1 Z.a2 Z.li hv hc λh' b1 b2 b3 b4 b5 b6 b7=>?_;exact hQ h' _ _ ⟨.inr ⟨_,_,_,b1,b5,lt hz,l1,l2,lt hod⟩,b7 _ _ D.TIz D.TITO D.TIi1 D.TIi2 Z.ti,b3,b4,Z.li.at λo e=>b7 _ o D.lz D.lTO D.li1 D.li2 e⟩ b5 (lt hod) b7
 refine pH hty D.toApart5 hz hT Z.ti Z.a1 Z.a2 Z.li hv hc λh' b1 b3 b4 b5 b6 b7=>?_;exact hQ h' _ _ ⟨.inr ⟨T,_,oT,b1,b7 _ _ n1 n2 n3 hT,n1,n2,n3,n4⟩,b7 _ _ D.TIz D.TIi1 D.TIi2 Z.ti,b3,b4,Z.li.at λo e=>b7 _ o D.lz D.li1 D.li2 e⟩ b5 (lt hod) λc o c1 _ c3 c4 e=>b7 c o c1 c3 c4 e
theorem xt {TI TO d:Addr} {t:Tok} {k:Nat} (hh:A.handled=none) (D:ApartD z TI TO i1 i2 l d)
  (Z:ZS s.heap z TI TO i1 i2 l d ty x t xs k) (hv:xs[k]?=none) (hQ:∀h',(∀c o,c≠z->c≠i1->s.heap.get? c=some o->h'.get? c=some o)->Q none { s with heap:=h' }):wpAny (model prog w) A (pyNext (.ref z)) Q E s:=by
 rcases Z.zf with⟨hz,a,b,hTO⟩|⟨T,f1,oT,hz,hT,n1,n2,n3,n4⟩
 ·exact oh (a:=a) (b:=b) hh D.toApart5 hz (.inl ⟨rfl,rfl,a,b,hTO⟩) Z.ti Z.a1 Z.li hv hQ
 exact oh (a:=.none) (b:=.none) hh D.toApart5 hz (.inr ⟨T,oT,rfl,hT⟩) Z.ti Z.a1 Z.li hv hQ
theorem ZS.dict {h h':Heap} {TI TO d:Addr} {t:Tok} {k:Nat} (D:ApartD z TI TO i1 i2 l d) (Z:ZS h z TI TO i1 i2 l d ty x t xs k) (hs:Heap.SameBut d h h'):ZS h' z TI TO i1 i2 l d ty x t xs k:=by
 refine⟨?_,hs.extBut _ _ D.dTI.symm Z.ti,Z.a1.extBut hs.extBut D.di1.symm,Z.a2.extBut hs.extBut D.di2.symm,Z.li.extBut hs.extBut D.dl.symm⟩;rcases Z.zf with⟨hz,a,b,hTO⟩|⟨T,f1,oT,hz,hT,n1,n2,n3,n4⟩
 ·exact .inl ⟨hs.extBut _ _ D.dz.symm hz,a,b,hs.extBut _ _ D.dTO.symm hTO⟩
 exact .inr ⟨T,f1,oT,hs.extBut _ _ D.dz.symm hz,hs.extBut _ _ n4 hT,n1,n2,n3,n4⟩
def cT (kvs:List (K × Value)) (ps:List (K × Value)):List (K × Value):=ps.foldl (λacc p=>stored acc p.1 p.2) kvs
theorem iT (kvs:List (K × Value)) (k:K) (v:Value):(stored kvs k v).length<=kvs.length+1:=by
 unfold stored
 split
 ·rw[Qc];exact zS
 rw[Qj];simp
theorem sH (hty:ty = "str_ascii_iterator" \/ ty = "str_iterator") {TI TO d:Addr} {t:Tok} (D:ApartD z TI TO i1 i2 l d) (hh:A.handled=none) (ks:Nat->K) (hk:∀k v,xs[k]?=some v->knd.is (ks k) v=true)
  (hlen:xs.size<=x.cps.size) (hsz:xs.size<=sizeLine):∀(m k:Nat) (i:Int) (s:Shared) (kvs:List (K × Value)),xs.size-k=m->k<=xs.size->ZS s.heap z TI TO i1 i2 l d ty x t xs k->s.heap.DictOf knd d kvs->kvs.length<=k ->
  (∀h' tk (ps:List (K × Value)),ps.length=xs.size-k->(∀(j:Nat) p,ps[j]?=some p->p.1=ks (k+j)/\∃c u,x.cps[k+j]?=some c/\p.2=.str ⟨#[c]⟩ u)->h'.DictOf knd d (cT kvs ps) ->
   (∀c o,c≠z->c≠TO->c≠i1->c≠i2->c≠d->s.heap.get? c=some o->h'.get? c=some o)->R (.ok (.ret .none)) { s with heap:=h',toks:=tk }) ->
  codeAny (model prog w) A (.builtin "dict.update.loop" ⟨[.ref d,.ref z,rawInt i,.none],[]⟩) R s:=by
 intro m
 induction m with
 | zero =>
  intro k i s kvs hm hkk Z hd hkl hR;have hin:k=xs.size:=by exact wQ hm hkk
  refine Xr fE ?_;rw[Xa bX _];show wpAny _ A.in1 (pyNext (.ref z) >>= _) _ _ s;refine Qa (xt (show A.in1.handled=none from hh) D Z (by rw[hin];simp) λh' hkeep=>?_);show wpAny _ _ (Builtin.Dict.addKeywords d [] >>= _) _ _ _;refine Qa (Qf (Qf ?_));have hdn:d≠z:=D.dz
  have hd':h'.DictOf knd d kvs:=by
   obtain⟨o,es,ep,e1,r⟩:=hd;exact⟨o,es,ep,hkeep d o D.dz D.di1 e1,r⟩
  exact hR h' s.toks [] (by simp;exact zR hm) (λj p e=>by simp at e) hd' λc o c1 _ c3 _ _ e=>hkeep c o c1 c3 e
 | succ m ih =>
 intro k i s kvs hm hkk Z hd hkl hR;have hlt:k<xs.size:=by exact wP hm hkk
 have hv:xs[k]?=some xs[k]:=by simp[hlt]
 have hltc:k<x.cps.size:=by exact wT hlen hlt
 have hc:x.cps[k]?=some x.cps[k]:=by simp[hltc]
 obtain⟨od,es0,ep0,hod,_⟩:=id hd;refine Xr fE ?_;rw[Xa bX _];show wpAny _ A.in1 (pyNext (.ref z) >>= _) _ _ s;refine Qa (ve hty D Z hod hv hc λh1 T u Z1 hT hTd hkeep=>?_)
 have hd1:h1.DictOf knd d kvs:=by
  obtain⟨o,es,ep,e1,r⟩:=hd;exact⟨o,es,ep,hkeep d o D.dz D.dTO D.di1 D.di2 e1,r⟩
 refine Qa (QS ?_);have hTy:(Shared.TypeIs { s with heap:=h1,toks:=s.toks+1 } (.ref T) "tuple"):=⟨_,hT,rfl⟩;refine Qa (wpAny_tryCatch ?_);unfold Builtin.Dict.pairItems;refine Qa (wpAny_typeOf hTy ?_);rw[Qz (by decide)];refine Qa (XG hT rfl (Qf ?_));show wpAny _ _ (holding [xs[k],_] (dictSet d xs[k] _)) _ _ _;refine QS (wpAny_dictSet_pairs (hk k _ hv) hd1 (λh2 hd2 hs2=>?_) (by exact wO hsz hkl hlt));refine Qf ⟨XX bX _,ih (k+1) (i+1) _ _ (by exact wN hm hlt) (by exact wM hlt) (ZS.dict D Z1 hs2) hd2 (QP (iT _ _ _) (by exact rO hkl)) λh3 tk ps hl hp hd3 hk3=>?_⟩;refine hR h3 tk ((ks k,.str ⟨#[x.cps[k]]⟩ u)::ps) (by rw[Q0,hl];exact zP hm hlt) (λj p e=>?_) hd3 λc o c1 c2 c3 c4 c5 e=>hk3 c o c1 c2 c3 c4 c5 (hs2.extBut c o c5 (hkeep c o c1 c2 c3 c4 e))
 cases j with
 | zero =>
  have e':(ks k,Value.str ⟨#[x.cps[k]]⟩ u)=p:=by simpa using e
  subst e';exact⟨rfl,x.cps[k],u,hc,rfl⟩
 | succ j =>
 have q:=hp j p (by simpa using e);rw[show k+(j+1)=k+1+j by exact zO];exact q
theorem fL (a:Value) {Q:Value->Shared->Prop} (h:Q (.ref s.heap.objs.size) { s with heap:=s.heap.push { cls:=.type "dict", data:=.dict #[] } }) :
  codeAny (model prog w) A (.call (.builtin "dict.__new__") ⟨[.type "dict", a],[]⟩) (wants Q E) s:=by
 refine codeAny_call_builtin jg jM (wpAny_of_eq (jr a) ?_);have hsub:=tm;have hmro:=jt;obtain⟨hp,g,d,tk,os⟩:=s;unfold Builtin.«dict.__new__»
 wp_walk
 exact h
theorem sN (hty:ty = "str_ascii_iterator" \/ ty = "str_iterator") {TI TO:Addr} {t:Tok} {Q:Value->Shared->Prop} (D:Apart5 z TI TO i1 i2 l) (hh:A.handled=none) (ks:Nat->K)
  (hk:∀k v,xs[k]?=some v->knd.is (ks k) v=true) (hlen:xs.size<=x.cps.size) (hsz:xs.size<=sizeLine) (hz:IsZ s.heap z TI TO .none false) (hTI:IsPair s.heap TI (.ref i1) (.ref i2)) (hTO:∃a b,IsPair s.heap TO a b)
  (h1:s.heap.IsListIter i1 l 0) (h2:s.heap.IsStrIter i2 ty x t 0) (hl:s.heap.IsList l xs)
  (h:∀h' tk (ps:List (K × Value)),ps.length=xs.size->(∀(j:Nat) p,ps[j]?=some p->p.1=ks j/\∃c u,x.cps[j]?=some c/\p.2=.str ⟨#[c]⟩ u)->h'.DictOf knd s.heap.objs.size (cT [] ps) ->
   (∀c o,c≠z->c≠TO->c≠i1->c≠i2->s.heap.get? c=some o->h'.get? c=some o)->Q (.ref s.heap.objs.size) { s with heap:=h',toks:=tk }) :
  wpAny (model prog w) A (call (.type "dict") [.ref z]) Q E s:=by
 refine callType_codes (Q₁:=λobj s1=>obj=.ref s.heap.objs.size/\s1={ s with heap:=s.heap.push { cls:=.type "dict", data:=.dict #[] } }) im (eE _) F.entry_dict_init (fL _ ⟨rfl,rfl⟩) ?_;rintro obj s1 ⟨rfl,rfl⟩;have up:∀c o,s.heap.get? c=some o->(s.heap.push { cls:=.type "dict", data:=.dict #[] }).get? c=some o:=λc o e=>Qd _ e;have hnew:(s.heap.push { cls:=.type "dict", data:=.dict #[] }).DictOf knd s.heap.objs.size []:=Heap.DictOf.new s.heap;have lt:∀{c o},s.heap.get? c=some o->s.heap.objs.size≠c:=λe=>Nat.ne_of_gt (Qm e);have l1:s.heap.objs.size≠i1:=by obtain⟨_,e,_⟩:=h1;exact lt e
 have l2:s.heap.objs.size≠i2:=by obtain⟨_,e,_⟩:=h2;exact lt e
 have ll:s.heap.objs.size≠l:=by obtain⟨_,e,_⟩:=hl;exact lt e
 obtain⟨a0,b0,hTO'⟩:=hTO;have DD:ApartD z TI TO i1 i2 l s.heap.objs.size:=⟨D,lt hz,lt hTI,lt hTO',l1,l2,ll⟩;refine⟨hnew.typeIs,F.args_dict_init_2 _ _,?_⟩;unfold Builtin.«dict.__init__»;refine Qa ?_;unfold Builtin.Dict.selfAndRest;refine Qa (wpAny_notOrdered_dict hnew.typeIs ?_);show wpAny _ _ (pure (s.heap.objs.size,[Value.ref z])) _ _ _;refine Qf ?_;show wpAny _ _ (Builtin.Dict.updateFrom "dict.__init__" s.heap.objs.size (.ref z) [] .none) _ _ _;unfold Builtin.Dict.updateFrom;have hzT:Shared.TypeIs { s with heap:=s.heap.push { cls:=.type "dict", data:=.dict #[] } } (.ref z) "zip" := ⟨_,up _ _ hz,rfl⟩;refine Qa (wpAny_typeOf hzT ?_);rw[Qz (by decide)];refine Qa (se (up _ _ hz) (show A.in1.in1.handled=none from hh) λh3 tk k3=>?_);simp only[Option.isNone_none,if_true];refine Qa (XR ?_);have hz3:IsZ h3 z TI TO .none false:=k3 _ _ (up _ _ hz);refine Qa (wpAny_pyIter_zip (z:=z) (TI:=TI) (TO:=TO) (f0:=.none) hz3 ?_);refine Qf ⟨XX bX _,?_⟩;have Z3:ZS h3 z TI TO i1 i2 l s.heap.objs.size ty x t xs 0:=⟨.inl ⟨hz3,a0,b0,k3 _ _ (up _ _ hTO')⟩,k3 _ _ (up _ _ hTI),h1.at λo e=>k3 _ o (up _ o e),(let ⟨o,e,r⟩:=h2;⟨o,k3 _ o (up _ o e),r⟩),hl.at λo e=>k3 _ o (up _ o e)⟩
 have hd3:h3.DictOf knd s.heap.objs.size []:=by
  obtain⟨o,es,ep,e1,r⟩:=hnew;exact⟨o,es,ep,k3 _ _ e1,r⟩
 refine sH hty DD (show A.in1.handled=none from hh) ks hk hlen hsz xs.size 0 0 _ [] (by simp) (QM _) Z3 hd3 (Qh _) λh4 tk4 ps hp1 hp2 hd4 hk4=>?_;refine⟨rfl,h h4 tk4 ps (by simpa using hp1) (λj p e=>by simpa using hp2 j p e) hd4 λc o c1 c2 c3 c4 e=>hk4 c o c1 c2 c3 c4 (lt e).symm (k3 _ _ (up _ _ e))⟩
end
end LZ
namespace L2
open PySem PySem.Spec PyProof.Rows
def bG (kvs:List (Key × V)):List (Key × V)->List (Key × V)
 | []=>kvs
 | p::r=>bG (bN kvs p.1 p.2) r
def cJ (ns:List Str) (z:Str):List (Key × V):=(ns.zipIdx).map λp=>(Sum.inr p.1,eQ z p.2)
theorem pQ:∀{qs:List (Key × V)} {ps:List (Key × Value)} {kvs:List (Key × V)} {vs:List (Key × Value)},KV qs ps->KV kvs vs->KV (bG kvs qs) (LZ.cT vs ps)
 | [],_,_,_,h,r=>by cases h;exact r
 | q::qs,p::ps,kvs,vs,h,r=>by
  cases h with
  | cons h1 h2 =>
  show KV (bG (bN kvs q.1 q.2) qs) (LZ.cT (stored vs p.1 p.2) ps);rw[<-h1.1];exact pQ h2 (r.put q.1 h1.2)
theorem paired_get {α β:Type} {F:α->β->Prop}:∀{xs:List α} {ys:List β},xs.length=ys.length->(∀(j:Nat) x y,xs[j]?=some x->ys[j]?=some y->F x y)->Paired F xs ys
 | [],[],_,_=>.nil
 | x::xs,y::ys,hl,h=>.cons (h 0 x y rfl rfl) (paired_get (by simpa using hl) λj a b e1 e2=>h (j+1) a b (by simpa using e1) (by simpa using e2))
theorem du:∀(qs kvs:List (Key × V)),(bG kvs qs).length<=kvs.length+qs.length
 | [],kvs=>Qh _
 | q::qs,kvs=>by
  have h1:=du qs (bN kvs q.1 q.2);have h2:=dh kvs q.1 q.2;show (bG (bN kvs q.1 q.2) qs).length<=_;rw[Q0];exact Ae h1 h2
section
variable {X:Cx} {a b:Expr} {ta:TA} {p1 p2 pos1 pos2:Pos}
def yR (K:PySem.W.Frag) (ta:TA):TE:=λσ H Q=>ta σ H λvs H1=>∃l ns z,vs=[.ref l,.str z]/\SqL K H1 l (ns.map V.str)/\ns.length<=z.cps.size/\ns.length<1000/\∀d,H1 d=none->Q (.ref d) (upd H1 d (.dK (bG [] (cJ ns z))))
theorem vF (hc:X.calm=true) (hg:Gl X "dict") (hm:X.mg "dict" = none) (hg2:Gl X "zip") (hm2:X.mg "zip" = none) (ha:PA X [a,b] ta)
  (hs:starEach [a,b] X.env=[(false,eval a X.env),(false,eval b X.env)]:=by rfl) (hs2:starEach [b] X.env=[(false,eval b X.env)]:=by rfl)
  (hs0:starEach [.Call (.Name "zip" p2) [a,b] [] pos2] X.env=[(false,eval (.Call (.Name "zip" p2) [a,b] [] pos2) X.env)]:=by rfl) :
  PE X (.Call (.Name "dict" p1) [.Call (.Name "zip" p2) [a,b] [] pos2] [] pos1) (yR X.K ta):=by
 intro pins s σ H Q I h;refine Call_ (ck I hg hm PyProof.Rows.boot_dict (QV ?_ hs0 rfl));rw[hs0];show wpAny _ _ (spliced [(false,eval (.Call (.Name "zip" p2) [a,b] [] pos2) X.env)]) _ _ s;refine XQ ?_;refine Call_ (ck I hg2 hm2 PyProof.Rows.boot_zip (QV (thn (ha pos2 pins s σ H _ I h) λus s1 ⟨vs,H1,I1,r1,q1⟩=>?_) (by rw[hs,hs2]) (by rw[hs2];rfl)));obtain⟨l,ns,z,e,hl,hlen,hsm,q⟩:=q1;subst e;obtain⟨u1,u2,e,ru1,ru2⟩:=np r1;subst e;cases ru1;obtain⟨t,e⟩:=ru2;subst e;obtain⟨its,rv,pl,_⟩:=I1.list hl;have hits:its.length=ns.length:=by have:=rv.length;rw[Qc]at this;exact this.symm
 refine LZ.u9 pl.isList λh2 b1 b2 b3 b4 b5 b6 b7=>?_;refine Calls.spliced_nil ?_;have I2:Inv X pins σ H1 { s1 with heap:=h2 }:=I1.kept (t':=s1.toks) b7;have ltl:@LT.lt Nat _ l s1.heap.objs.size:=by obtain⟨o,ho,_⟩:=pl.isList;exact Qm ho
 have big:1000<sizeLine:=by decide
 refine LZ.sN (knd:=bg X.prog X.w) (LZ.vk z) (i1:=s1.heap.objs.size) (i2:=s1.heap.objs.size+1) (l:=l) (xs:=its.toArray) ⟨(by show @Ne Nat _ _;exact Ad),(by show @Ne Nat _ _;exact Ac),(by show @Ne Nat _ _;exact Ab),(by show @Ne Nat _ _;exact Aa),(by show @Ne Nat _ _;exact z_),(by show @Ne Nat _ _;exact zZ),(by show @Ne Nat _ _;exact zY),(by show @Ne Nat _ _;exact zX),(by show @Ne Nat _ _;exact zW),(by show @Ne Nat _ _;exact zV),(by show @Ne Nat _ _;omega),(by show @Ne Nat _ _;omega),(by show @Ne Nat _ _;omega),(by show @Ne Nat _ _;omega)⟩ (I.ok.hd hc) (λk=>Sum.inr (ns.getD k Str.empty)) (λk v hv=>?_)
  (by rw[Qk,hits];exact hlen) (by rw[Qk,hits];omega) b1 b2 ⟨_,_,b3⟩ b4 b5 (pl.isList.at λo e=>b7 _ o e) λh3 tk ps hp1 hp2 hd3 hk3=>?_
 ·have hv':its[k]?=some v:=by simpa using hv
  have hk:k<ns.length:=by have:=(Qe.mp hv').1;exact yk hits this
  have e1:(ns.map V.str)[k]?=some (.str (ns.getD k Str.empty)):=by
   rw[Qi,Qb hk,Ql,Qb hk];rfl
  obtain⟨u,hu,ru⟩:=rv.get e1;rw[hv']at hu;cases hu;obtain⟨t',e⟩:=ru;subst e;exact eY _ _ _ _
 have hlenz:(cJ ns z).length=ns.length:=by unfold cJ;simp
 have kv:KV (cJ ns z) ps:=by
  refine paired_get (by rw[hlenz,hp1,Qk,hits]) λj x y e1 e2=>?_;obtain⟨f1,c,u,f2,f3⟩:=hp2 j y e2;unfold cJ at e1;rw[Qi,List.getElem?_zipIdx]at e1
  cases e:ns[j]? with
  | none=>rw[e]at e1;simp at e1
  | some n =>
  rw[e]at e1;simp at e1;subst e1;refine⟨?_,?_⟩
  ·rw[f1];show (Sum.inr n:Key)=Sum.inr (ns.getD j Str.empty);rw[Ql,e];rfl
  rw[f3];refine⟨u,?_⟩;show Value.str ⟨#[c]⟩ u=Value.str ⟨#[z.cps.getD j 0]⟩ u;rw[Q9,f2];rfl
 have hnew:H1 h2.objs.size=none:=I2.hok.fresh (Qh _)
 have kept:∀c o,s1.heap.get? c=some o->h3.get? c=some o:=λc o e=>by
  have:@LT.lt Nat _ c s1.heap.objs.size:=Qm e;exact hk3 c o (by show @Ne Nat _ _;omega) (by show @Ne Nat _ _;omega) (by show @Ne Nat _ _;omega) (by show @Ne Nat _ _;omega) (b7 c o e)
 have hle:s1.heap.objs.size<=h2.objs.size:=by exact zU b6
 have I3:Inv X pins σ (upd H1 h2.objs.size (.dK (bG [] (cJ ns z)))) { s1 with heap:=h3,toks:=tk }:=I1.laid kept hle ⟨by
   have:=du (cJ ns z) [];rw[hlenz]at this;simp only[Xq]at this
   omega,beq_eq_false_iff_ne.mpr (by
   have:@LT.lt Nat _ sysModules s1.heap.objs.size:=I1.big;intro e;have e':@Eq Nat h2.objs.size sysModules:=e
   omega),_,pQ kv .nil,hd3⟩
 exact⟨.ref h2.objs.size,_,I3,rfl,q _ hnew⟩
end
end L2
namespace LR
open PySem
theorem pO:typeLookup (.type "list_reverseiterator") "__len__" = pure none:=by rw[typeLookup_type,Xp];kernel_rfl
theorem uD:typeLookup (.type "list_reverseiterator") "__length_hint__" = pure (some (.builtin "list_reverseiterator.__length_hint__")):=by rw[typeLookup_type,Xp];kernel_rfl
section
variable {prog:Program} {w:World} {A:Around} {E:Value->Shared->Prop} {s:Shared}
theorem iR {I:Addr} {Q:Bool->Shared->Prop} (hT:s.TypeIs (.ref I) "list_reverseiterator") (h:Q false s):wpAny (model prog w) A (Builtin.List.listLengthHint (.ref I)) Q E s:=by
 unfold Builtin.List.listLengthHint;refine Qa (wpAny_specialOf hT pO ?_);show wpAny _ A (specialOf (Value.ref I) (Str.ofString "__length_hint__") >>= _) _ _ _;refine Qa (wpAny_specialOf hT uD ?_);generalize hid:("list_reverseiterator.__length_hint__" : String)=id0
 wp_delta
 rw[show splitId id0=some ("list_reverseiterator", "__length_hint__") from by subst hid;decide +kernel];subst hid;refine Qa (wpAny_isInstance (T := "list_reverseiterator") (b:=true) hT (by rw[isSubtype_type];kernel_rfl) ?_);refine wpAny_ite_split (λhab=>absurd hab (by decide)) (λ_=>?_);refine wpAny_ite_split (λ_=>?_) (λhab=>absurd (by decide +kernel) hab);refine wpAny_ite_split (λhab=>absurd hab (by decide +kernel)) (λ_=>Qf h)
theorem call_list_rev {l:Addr} {items:Array Value} {Q:Value->Shared->Prop} (hh:A.handled=none) {I:Addr} (hit:s.heap.IsRevIter I l ((items.size:Int)-1)) (hl:s.heap.IsList l items) (hne:l≠I) (hn:items.size<=sizeLine)
  (hQ:∀h' tk acc' c',(∀b o,b≠I->s.heap.get? b=some o->h'.get? b=some o)->h'.get? s.heap.objs.size=some { cls:=.type "list", dict:=none,data:=.seq acc' c',slots:=#[] }->ItemsOf (λi v=>items[items.size-1-i]?=some v) acc' items.size->Q (.ref s.heap.objs.size) { s with heap:=h',toks:=tk }) :
  wpAny (model prog w) A (call (.type "list") [.ref I]) Q E s:=by
 have W:=(Walks.listRev (prog:=prog) (w:=w) (A:=A.in1.in1) hh I l hne items).toS;have hIlt:I<s.heap.objs.size:=by obtain⟨o,ho,_⟩:=hit;exact Qm ho
 have hllt:l<s.heap.objs.size:=by obtain⟨o,ho,_⟩:=hl;exact Qm ho
 have hst:s.heap.IsRevIter I l ((items.size:Int)-1-((0:Nat):Int)):=by simpa using hit
 have hSf:s.heap.objs.size∉[I,l]:=λhm=>by
  rcases QQ.mp hm with e|hm
  ·exact absurd hIlt (by rw[<-e];exact XF _)
  exact absurd hllt (by rw[<-Q3.mp hm];exact XF _)
 have hSI:s.heap.objs.size≠I:=λe=>hSf (by rw[e];simp)
 refine callType_codes (Q₁:=λobj s₁=>obj=.ref s.heap.objs.size/\s₁={ s with heap:=s.heap.push { cls:=.type "list", data:=.seq #[] } }) F.called_list (F.typeCall_list_1 _) F.entry_list_init
  (code_list_new _ ⟨rfl,rfl⟩) λobj s₁ h₁=>?_
 obtain⟨rfl,rfl⟩:=h₁;have hS:(s.heap.push { cls:=.type "list", data:=.seq #[] }).get? s.heap.objs.size=some { cls:=.type "list", data:=.seq #[] }:=Qp _ rfl;refine⟨⟨_,hS,rfl⟩,F.args_list_init_2 _ _,?_⟩;generalize hS0:s.heap.objs.size=S at *;show wpAny _ A.in1.in1 (do let old <-Builtin.List.listItems (.ref S);Builtin.List.listUpdate (.ref S) (λ_=>#[]);letGo old.toList.reverse;Builtin.List.listExtendWith (.ref S) (.ref I) .none) _ _ _;refine Qa ?_;unfold Builtin.List.listItems;refine Qa (XG hS rfl (Qf ?_));show wpAny _ _ (updateSeq S (λ_=>#[]) >>= λ_=>letGo (#[]:Array Value).toList.reverse >>= λ_=>Builtin.List.listExtendWith (.ref S) (.ref I) .none) _ _ _;refine Qa (wpAny_updateSeq hS rfl ?_);have hS₂:=Xw (Obj.mapSeq (λ_=>(#[]:Array Value))) hS rfl
 have oth:∀b o,b≠S->s.heap.get? b=some o->((s.heap.push { cls:=.type "list", data:=.seq #[] }).update S (Obj.mapSeq (λ_=>(#[]:Array Value)))).get? b=some o :=
  λb o hb e=>(Q4 _ _ (XI hb)).trans (Qd _ e)
 refine Qa (wpAny_letGo ?_);have hit₂:((s.heap.push { cls:=.type "list", data:=.seq #[] }).update S (Obj.mapSeq (λ_=>(#[]:Array Value)))).IsRevIter I l ((items.size:Int)-1-((0:Nat):Int)):=hst.at λo e=>oth I o (XI hSI) e;have hl₂:((s.heap.push { cls:=.type "list", data:=.seq #[] }).update S (Obj.mapSeq (λ_=>(#[]:Array Value)))).IsList l items:=hl.at λo e=>oth l o (λz=>hSf (by rw[<-z];simp)) e;have hT:Shared.TypeIs { s with heap:=(s.heap.push { cls:=.type "list", data:=.seq #[] }).update S (Obj.mapSeq (λ_=>(#[]:Array Value))) } (.ref I) "list_reverseiterator" := hit₂.typeIs;unfold Builtin.List.listExtendWith;refine Qa (wpAny_typeOf hT ?_);have h1:Builtin.List.listSameRef (.ref S) (.ref I)=false:=by simp[Builtin.List.listSameRef,hSI]
 have h2:(Value.type "list_reverseiterator" == Value.type "list")=false:=by decide
 have h3:(Value.type "list_reverseiterator" == Value.type "tuple")=false:=by decide
 simp only[h1,h2,h3,Bool.or_false,QK,XV];refine Qa (wpAny_pyIter_revIter hit₂ ?_);refine Qa (QS (iR hT ?_));refine wpAny_ite_split (λhab=>absurd hab (by decide)) (λ_=>?_);refine Qf ⟨XX F.plain_extend_loop _,codeAny_extend_loopS W hn S hSf .none items.size 0 _ #[] _ rfl (QM _) ⟨QM _,hit₂,hl₂⟩ hS₂ (ItemsOf.nil _) λs' acc' c' hm hS' hacc=>?_⟩;rw[Moved.eq_with hm];refine⟨rfl,hQ s'.heap s'.toks acc' c' (λb o hb e=>hm.heap b o (λhmem=>?_) (oth b o (λz=>?_) e)) hS' hacc⟩
 ·rcases QQ.mp hmem with e'|hmem
  ·rw[e',<-hS0]at e;exact absurd (Qm e) (XF _)
  exact hb (Q3.mp hmem)
 rw[z,<-hS0]at e;exact absurd (Qm e) (XF _)
end
end LR
namespace L2
open PySem PySem.Spec PyProof.Rows
section
variable {X:Cx}
def wv (K:PySem.W.Frag) (ta:TA):TE:=λσ H Q=>ta σ H λvs H1=>∃l xs,vs=[.ref l]/\SqL K H1 l xs/\∀p,H1 p=none->Q (.ref p) (upd H1 p (.lst xs.reverse))
theorem vE {a:Expr} {ta:TA} {p1 p2 pos1 pos2:Pos} (hc:X.calm=true) (hg:Gl X "list") (hm:X.mg "list" = none) (hg2:Gl X "reversed") (hm2:X.mg "reversed" = none) (ha:PA X [a] ta)
  (hs:starEach [a] X.env=[(false,eval a X.env)]:=by rfl)
  (hs0:starEach [.Call (.Name "reversed" p2) [a] [] pos2] X.env=[(false,eval (.Call (.Name "reversed" p2) [a] [] pos2) X.env)]:=by rfl) :
  PE X (.Call (.Name "list" p1) [.Call (.Name "reversed" p2) [a] [] pos2] [] pos1) (wv X.K ta):=by
 intro pins s σ H Q I h;refine Call_ (ck I hg hm PyProof.Rows.boot_list (QV ?_ hs0 rfl));rw[hs0];show wpAny _ _ (spliced [(false,eval (.Call (.Name "reversed" p2) [a] [] pos2) X.env)]) _ _ s;refine XQ ?_;refine Call_ (ck I hg2 hm2 PyProof.Rows.boot_reversed (QV (thn (ha pos2 pins s σ H _ I h) λws s1 ⟨vs,H1,I1,r1,q1⟩=>?_) hs rfl));obtain⟨l,xs,e,hq,q⟩:=q1;subst e;obtain⟨u,e,ru⟩:=dy r1;subst e;cases (show u=Value.ref l from ru);obtain⟨its,rv,pl,hz⟩:=I1.list hq;have ll:l<s1.heap.objs.size:=by obtain⟨o,ho,_⟩:=pl.isList;exact Qm ho
 refine call_reversed_list pl.isList ?_;refine Calls.spliced_nil ?_;have I2:Inv X pins σ H1 { s1 with heap:=s1.heap.push (revObj l ((its.toArray.size:Int)-1)) }:=I1.kept (t':=s1.toks) λb o e=>Qd _ e;have hit:(s1.heap.push (revObj l ((its.toArray.size:Int)-1))).IsRevIter s1.heap.objs.size l ((its.toArray.size:Int)-1):=⟨_,Qp _ rfl,rfl,rfl⟩;refine LR.call_list_rev (A:=X.A) (items:=its.toArray) (I2.ok.hd hc) hit (pl.isList.at λo e=>Qd _ e) (QB ll) (by rw[Qk,<-rv.length];exact hz) λh' tk acc' c' hk hS' hacc=>?_
 have r:aY xs.reverse acc'.toList:=by
  refine paired_get (by rw[List.length_reverse,show acc'.toList.length=acc'.size from Qu,hacc.1];exact rv.length) λj x y e1 e2=>?_;have e3:=hacc.2 j y (by simpa using e2);have hj:j<xs.length:=by have:=(Qe.mp e1).1;rwa [List.length_reverse]at this
  rw[List.getElem?_reverse hj]at e1;obtain⟨u,hu,ru⟩:=rv.get e1;rw[Qk,<-rv.length]at e3;have e3':its[xs.length-1-j]?=some y:=by simpa using e3
  rw[hu]at e3';cases e3';exact ru
 have kp:∀b o,s1.heap.get? b=some o->h'.get? b=some o:=λb o e=>hk b o (QB (Qm e)) (Qd _ e);have hle:s1.heap.objs.size<=(s1.heap.push (revObj l ((its.toArray.size:Int)-1))).objs.size:=by rw[Q5];exact Nat.le_succ _
 exact⟨.ref _,_,I1.laid (t':=tk) kp hle (show bj X.prog X.w _ h' _ (.lst _) from⟨by rw[List.length_reverse];exact hz,acc'.toList,c',r,by simpa using hS'⟩),rfl,q _ (I1.hok.fresh hle)⟩
end
def Fz:HO->Prop
 | .dK _=>True
 | .dT _=>True
 | .lst _=>True
 | _=>False
def back (H:Hp) (a:Addr) (H':Hp):Hp:=λb=>if b=a then H a else H' b
variable {a b:Addr} {H H':Hp}
theorem dL:back H a H' a=H a:=Qz rfl
theorem bu (h:b≠a):back H a H' b=H' b:=QA h
section
variable {X:Cx} {pins:List (Addr × Obj)} {σ σ':St} {H H':Hp} {s s':Shared} {a:Addr} {u:HO} {o:Obj}
theorem iL (r:Rd H a u):∃v,H a=some v:=by
 rcases r with r|⟨o,r⟩ <;> exact⟨_,r⟩
theorem wE (r:Rd H a u) (f:Fz u):(∀xs,H a≠some (.tup xs))/\(∀ps,H a≠some (.tbl ps))/\(∀x,H a≠some (.own x))/\∀ob v,H a=some (.frz ob v)->v=u:=by
 rcases r with r|⟨o,r⟩
 ·refine⟨λxs z=>?_,λps z=>?_,λx z=>?_,λob v z=>?_⟩ <;> (rw[r]at z;cases z;exact f.elim)
 refine⟨λxs z=>?_,λps z=>?_,λx z=>?_,λob v z=>?_⟩ <;> (rw[r]at z;cases z);rfl
theorem Inv.freeze (I:Inv X pins σ H s) (r:Rd H a u) (f:Fz u) (e:s.heap.get? a=some o):Inv X pins σ (upd H a (.frz o u)) s:=by
 obtain⟨v,hv⟩:=iL r;obtain⟨n1,n2,n3,n4⟩:=wE r f;have ne:∀{b},H b=none->b≠a:=λh z=>by rw[z,hv]at h;cases h
 have ok:=r.ok I.hok;refine⟨I.ok,I.os,I.bare,⟨I.base.keep,I.base.slot,λb ob q n hx=>?_,I.base.there,λb xs q=>?_,λb ob w q=>?_,λb ps q=>?_⟩,I.loc,I.cell,?_,λx c h=>?_,λp hp=>?_,λb w q=>?_,I.len⟩
 ·have:=I.base.free b ob q n hx;rw[aq (ne this)];exact this
 ·have:=I.base.tups b xs q;rw[aq (λz=>n1 xs (by rw[<-z];exact this))];exact this
 ·have z:=I.base.frzs b ob w q;by_cases hb:b=a
  ·subst hb;have ew:=n4 ob w z;subst ew;obtain⟨e1,_⟩:=I.hok b _ z;rw[e]at e1;cases e1;exact ag
  rw[aq hb];exact z
 ·obtain⟨more,z⟩:=I.base.tbls b ps q;exact⟨more,by rw[aq (λy=>n2 _ (by rw[<-y];exact z))];exact z⟩
 ·rw[aq (ne I.free)];exact I.free
 ·rw[aq (ne (I.freeC x c h))];exact I.freeC x c h
 ·obtain⟨p1,p2,p3,p4,p5⟩:=I.pin p hp;exact⟨p1,by rw[aq (ne p2)];exact p2,p3,p4,p5⟩
 have st:∀{b w},bj X.prog X.w H s.heap b w->bj X.prog X.w (upd H a (.frz o u)) s.heap b w:=λh=>h.stay (λ_ _ _ q=>q) (λd q=>by rw[aq (λz=>n3 _ (by rw[<-z];exact q))];exact q) λd xs q=>by rw[aq (λz=>n1 _ (by rw[<-z];exact q))];exact q
 by_cases hb:b=a
 ·subst hb;rw[ag]at q;cases q;exact⟨e,st ok⟩
 rw[aq hb]at q;exact st (I.hok b w q)
theorem Inv.thaw (I:Inv X pins σ H s) (r:Rd H a u) (f:Fz u) (e:s.heap.get? a=some o) (J:Inv X pins σ' H' s') (h':H' a=some (.frz o u)):Inv X pins σ' (back H a H') s':=by
 obtain⟨v,hv⟩:=iL r;obtain⟨n1,n2,n3,n4⟩:=wE r f;have ne:∀{b},H' b=none->b≠a:=λh z=>by rw[z,h']at h;cases h
 have ok:=J.hok a _ h';refine⟨J.ok,J.os,J.bare,⟨J.base.keep,J.base.slot,λb ob q n hx=>?_,J.base.there,λb xs q=>?_,λb ob w q=>?_,λb ps q=>?_⟩,J.loc,J.cell,?_,λx c h=>?_,λp hp=>?_,λb w q=>?_,J.len⟩
 ·have:=J.base.free b ob q n hx;rw[bu (ne this)];exact this
 ·have:=J.base.tups b xs q;rw[bu (λz=>by rw[z,h']at this;cases this)];exact this
 ·by_cases hb:b=a
  ·subst hb;rw[dL];exact I.base.frzs b ob w q
  rw[bu hb];exact J.base.frzs b ob w q
 ·obtain⟨more,z⟩:=J.base.tbls b ps q;exact⟨more,by rw[bu (λy=>by rw[y,h']at z;cases z)];exact z⟩
 ·rw[bu (ne J.free)];exact J.free
 ·rw[bu (ne (J.freeC x c h))];exact J.freeC x c h
 ·obtain⟨p1,p2,p3,p4,p5⟩:=J.pin p hp;exact⟨p1,by rw[bu (ne p2)];exact p2,p3,p4,p5⟩
 have st:∀{b w},bj X.prog X.w H' s'.heap b w->bj X.prog X.w (back H a H') s'.heap b w:=λh=>h.stay (λ_ _ _ q=>q) (λd q=>by rw[bu (λz=>by rw[z,h']at q;cases q)];exact q) λd xs q=>by rw[bu (λz=>by rw[z,h']at q;cases q)];exact q
 by_cases hb:b=a
 ·subst hb;rw[dL]at q;rcases r with r|⟨o2,r⟩
  ·rw[r]at q;cases q;exact st ok.2
  obtain⟨e2,_⟩:=I.hok b _ r;rw[e]at e2;cases e2;rw[r]at q;cases q;exact⟨ok.1,st ok.2⟩
 rw[bu hb]at q;exact st (J.hok b w q)
noncomputable def wn (D:Ends) (H:Hp) (a:Addr) (o:Obj) (u:HO):Ends where
 nx:=λσ' H'=>H' a=some (.frz o u)/\D.nx σ' (back H a H')
 bk:=λσ' H'=>H' a=some (.frz o u)/\D.bk σ' (back H a H')
 ct:=λσ' H'=>H' a=some (.frz o u)/\D.ct σ' (back H a H')
 rt:=λv H'=>H' a=some (.frz o u)/\D.rt v (back H a H')
def yP (t:TS):TS:=λD σ H=>∃a u,Rd H a u/\Fz u/\∀o,t (wn D H a o u) σ (upd H a (.frz o u))
theorem pp {st:Stmt} {t:TS} (h:PS X st t):PS X st (yP t):=by
 intro pins s σ H D I q;obtain⟨a,u,r,f,q⟩:=q;obtain⟨v,hv⟩:=iL r
 obtain⟨o,e⟩:∃o,s.heap.get? a=some o:=by
  rcases r with r|⟨o,r⟩
  ·have:=(I.hok a _ r)
   cases u with
   | lst xs=>obtain⟨_,_,_,_,e⟩:=this;exact⟨_,e⟩
   | dK kvs=>obtain⟨_,_,_,_,o,_,_,e,_⟩:=this;exact⟨_,e⟩
   | dT kvs=>obtain⟨_,_,_,_,o,_,_,e,_⟩:=this;exact⟨_,e⟩
   | _=>exact f.elim
  exact⟨o,(I.hok a _ r).1⟩
 refine Xn (h pins s σ _ _ (I.freeze r f e) (q o)) (λfl s' z=>?_) λ_ _ z=>z
 cases fl with
 | next=>obtain⟨σ',H',J,h1,h2⟩:=z;exact⟨σ',_,I.thaw r f e J h1,h2⟩
 | brk=>obtain⟨σ',H',J,h1,h2⟩:=z;exact⟨σ',_,I.thaw r f e J h1,h2⟩
 | cont=>obtain⟨σ',H',J,h1,h2⟩:=z;exact⟨σ',_,I.thaw r f e J h1,h2⟩
 | ret w=>obtain⟨v,σ',H',J,rv,h1,h2⟩:=z;exact⟨v,σ',_,I.thaw r f e J h1,rv,h2⟩
def ww (t:TE):TE:=λσ H Q=>∃a u,Rd H a u/\Fz u/\∀o,t σ (upd H a (.frz o u)) λv H'=>H' a=some (.frz o u)/\Q v (back H a H')
theorem xS {ex:Expr} {t:TE} (h:PE X ex t):PE X ex (ww t):=by
 intro pins s σ H Q I q;obtain⟨a,u,r,f,q⟩:=q
 obtain⟨o,e⟩:∃o,s.heap.get? a=some o:=by
  rcases r with r|⟨o,r⟩
  ·have:=(I.hok a _ r)
   cases u with
   | lst xs=>obtain⟨_,_,_,_,e⟩:=this;exact⟨_,e⟩
   | dK kvs=>obtain⟨_,_,_,_,o,_,_,e,_⟩:=this;exact⟨_,e⟩
   | dT kvs=>obtain⟨_,_,_,_,o,_,_,e,_⟩:=this;exact⟨_,e⟩
   | _=>exact f.elim
  exact⟨o,(I.hok a _ r).1⟩
 refine Xn (h pins s σ _ _ (I.freeze r f e) (q o)) (λv s' z=>?_) λ_ _ z=>z;obtain⟨v',H',J,rv,h1,h2⟩:=z;exact⟨v',_,I.thaw r f e J h1,rv,h2⟩
end
def Itd (a:Addr) (o:Obj) (kvs:List (Key × V)):It :=
 ⟨λi H=>H a=some (.frz o (.dK kvs))/\i<kvs.length,λi H x H'=>H'=H/\∃k v,kvs[i]?=some (k,v)/\x=kV k,λi H=>H a=some (.frz o (.dK kvs))/\kvs.length<=i⟩
theorem xi {P:Program} {w:World} {k:Key} {u:Value} (h:(bg P w).is k u=true):aR (kV k) u:=by
 rcases bt (show jE k u=true from h) with⟨i,t,rfl,rfl⟩|⟨x,t,rfl,rfl⟩
 ·exact⟨t,rfl⟩
 exact⟨t,rfl⟩
theorem KV.len {κ:Type} {xs:List (κ × V)} {ys:List (κ × Value)} (r:KV xs ys):xs.length=ys.length:=Paired.length r
theorem KV.get {κ:Type}:∀{xs:List (κ × V)} {ys:List (κ × Value)} {i:Nat} {k:κ} {v:V},KV xs ys->xs[i]?=some (k,v)->∃u,ys[i]?=some (k,u)/\aR v u
 | _,_,_,_,_,.nil,e=>by simp at e
 | _,(k',u)::_,0,k,v,.cons r _,e=>by
  simp at e;subst e;obtain⟨r1,r2⟩:=r;have r1:k=k':=r1;subst r1;exact⟨u,rfl,r2⟩
 | _,_,i+1,k,v,.cons _ t,e=>by
  obtain⟨u,h1,h2⟩:=KV.get (i:=i) t (by simpa using e);exact⟨u,by simpa using h1,h2⟩
variable {kvs:List (Key × V)}
theorem fW {X:Cx} {pins:List (Addr × Obj)} {σ:St} {s:Shared} {o:Obj} {es:Array DictEntry} {ep:Nat} (I:Inv X pins σ H s) (h:H a=some (.frz o (.dK kvs))) (hd:o.data=.dict es ep) :
  ∃vs,KV kvs vs/\s.heap.DictAt (bg X.prog X.w) a vs ep/\(a==sysModules)=false:=by
 obtain⟨e1,z,y,vs,rel,ob,es',ep',e2,c,d,r⟩:=I.hok a _ h;rw[e1]at e2;cases e2;rw[hd]at d;cases d;exact⟨vs,rel,⟨o,es,e1,c,hd,r⟩,y⟩
theorem rl {P:Program} {w:World} {K:PySem.W.Frag} {tg:Expr} (a it:Addr) (o:Obj) (kvs:List (Key × V)) (es:Array DictEntry) (ep:Nat) (hd:o.data=.dict es ep):Turn P w K tg (Itd a o kvs) [it] it (λi h=>h.IsKeyIter it a i kvs.length ep) where
 mem:=by simp
 obj:=λi h st b hb=>by
  have e:b=it:=by simpa using hb
  subst e;obtain⟨ob,e,c,d⟩:=st;exact⟨ob,e,λv z=>by rw[d]at z;cases z⟩
 keep:=λi h h' st k=>st.at λo e=>k it (by simp) o e
 item:=by
  intro X hP hw hK hc i pins s σ H E I hf st hg;subst hP hw hK;obtain⟨hz,hi⟩:=hg;obtain⟨vs,rel,da,_⟩:=fW I hz hd;obtain⟨⟨k,v⟩,hx⟩:∃p,kvs[i]?=some p:=⟨kvs[i],by simp[hi]⟩;obtain⟨u,hu,ru⟩:=rel.get hx;obtain⟨f0,f1,f2,f3,f4,f5⟩:=hf it (by simp);have st0:=st;rw[rel.len]at st;refine wpAny_pyNext_dict_item st da hu λkey h' hkey st' sb=>?_;have I1:Inv X pins σ H { s with heap:=h' }:=I.turned (t':=s.toks) (λb o hb e=>(sb.2 b hb).trans e) f0 f1 f3 f4 f5;rw[<-rel.len]at st';obtain⟨ob,e,c,d⟩:=id st';exact⟨key,rfl,uQ (s:={ s with heap:=h' }) e c d (by decide) ⟨kV k,H,I1,xi hkey,⟨rfl,k,v,hx,rfl⟩,st',λb hb=>(hf b hb).1⟩⟩
 done:=by
  intro X hP hw hK hc i pins s σ H E I hf st hg;subst hP hw hK;obtain⟨hz,hi⟩:=hg;obtain⟨vs,rel,da,_⟩:=fW I hz hd;obtain⟨f0,f1,f2,f3,f4,f5⟩:=hf it (by simp);rw[rel.len]at st;exact wpAny_pyNext_dict_end (I.ok.hd hc) st da (QY (by rw[<-rel.len];exact hi)) λh' eb=>⟨rfl,I.turned (t':=s.toks) (λb o hb e=>eb b o hb e) f0 f1 f3 f4 f5⟩
 self:=λ_ _ _ _ _ st h=>wpAny_pyIter_keyiter st h
def uN (tl:TE):TI:=λσ H R=>tl σ H λx H1=>∃a o kvs,x=.ref a/\H1 a=some (.frz o (.dK kvs))/\R (Itd a o kvs) H1
section
variable {X:Cx} {tg:Expr}
theorem gx {l:Expr} {tl:TE} (hl:PE X l tl):PI X tg l (uN tl):=by
 intro pins s σ H R I h;refine thn (hl pins s σ H _ I h) λv s1 ⟨x,H1,I1,r1,q1⟩=>?_;obtain⟨a,o,kvs,e,hz,q⟩:=q1;subst e;cases r1;obtain⟨e1,_,_,vs,rel,ob,es,ep,e2,c,d,r⟩:=I1.hok a _ hz;rw[e1]at e2;cases e2;obtain⟨vs,rel,da,hm⟩:=fW I1 hz d;refine wpAny_pyIter_dict hm da ?_;refine⟨s1.heap.objs.size,[s1.heap.objs.size],_,_,H1,rfl,I1.kept (t':=s1.toks) λb o e=>Qd _ e,rl a _ o kvs es ep d,⟨_,Qp _ rfl,rfl,by rw[rel.len];rfl⟩,λb hb=>?_,q⟩;have e:b=s1.heap.objs.size:=by simpa using hb
 subst e;exact I1.fpOk (Qh _) (I1.hok.fresh (Qh _))
end
theorem jI {o:Obj} {g:TG} {tb:TS} {D:Ends} {σ:St} (Pv:Nat->St->Hp->Prop) (h0:Pv 0 σ H) (hl:∀i σ H,i<=kvs.length->Pv i σ H->H a=some (.frz o (.dK kvs)))
  (hs:∀i k v σ H,kvs[i]?=some (k,v)->Pv i σ H->g (kV k) σ H λσ2 H2=>tb { D with nx:=Pv (i+1),ct:=Pv (i+1),bk:=D.nx } σ2 H2) (hd:∀σ H,Pv kvs.length σ H->D.nx σ H) :
  ∃W:Nat->Nat->St->Hp->Prop,(∃m,W 0 m σ H)/\∀i m σ H,W i m σ H ->
   ((Itd a o kvs).stop i H/\D.nx σ H)\/((Itd a o kvs).go i H/\∃N:St->Hp->Prop,(∀σ' H',N σ' H'->∃m',m'<m/\W (i+1) m' σ' H')/\∀x H',(Itd a o kvs).yld i H x H'->g x σ H' λσ2 H2=>tb { D with nx:=N,ct:=N,bk:=D.nx } σ2 H2):=by
 refine⟨λi m σ H=>m=kvs.length-i/\i<=kvs.length/\Pv i σ H,⟨kvs.length,by simp,QM _,h0⟩,?_⟩;rintro i m σ H ⟨rfl,hi,p⟩;have q:=hl i σ H hi p;by_cases hlt:i<kvs.length
 ·refine .inr ⟨⟨q,hlt⟩,Pv (i+1),λσ' H' p'=>⟨kvs.length-(i+1),by exact om6 hlt,rfl,hlt,p'⟩,λx H' y=>?_⟩;obtain⟨e,k,v,hk,ex⟩:=y;subst e ex;exact hs i k v σ _ hk p
 have e:i=kvs.length:=by exact om0 hi hlt
 subst e;exact .inl ⟨⟨q,Qh _⟩,hd σ H p⟩
def s_ (td ty tx:TE):TE:=λσ H Q=>td σ H λx H1=>∃a,x=.ref a/\IsD H1 a/\ty σ H1 λy H2=>tx σ H2 λz H3=>∃kvs k,H3 a=some (.dK kvs)/\y=kV k /\
 (∀v,bn kvs k=some v->Q v H3)/\(bn kvs k=none->kvs.length<sizeLine/\Q z (upd H3 a (.dK (bN kvs k z))))
section
variable {X:Cx} {o e f:Expr} {apos cpos:Pos} {td ty tx:TE}
theorem tX (ho:PE X o td) (he:PE X e ty) (hf:PE X f tx) (m:M2 X o "setdefault" apos e f cpos):PE X (.Call (.Attribute o "setdefault" apos) [e,f] [] cpos) (s_ td ty tx):=by
 intro pins s σ H Q I h;refine wpAny_Call_method m.base m.few m.line PySem.F.plainAttrs_dict PySem.F.slot_dict_setdefault PySem.F.type_dict_setdefault (thn (ho pins s σ H _ I h) λu s1 ⟨x,H1,I1,rx,a,ex,d,q1⟩=>?_);subst ex;obtain rfl:u=Value.ref a:=rx;obtain⟨t1,t2,_⟩:=yx I1 d;refine⟨t1,t2,?_⟩;rw[m.trees]
 refine Calls.callWith_builtin rfl (Calls.evalArgs_plain (XQ (thn (he pins s1 σ H1 _ I1 q1) λiv s2 ⟨y,H2,I2,ry,q2⟩ =>
  XQ (thn (hf pins s2 σ H2 _ I2 q2) λfv s3 ⟨z,H3,I3,rz,kvs,k,ea,ey,q3,q4⟩=>Calls.spliced_nil ?_))))
 subst ey;obtain⟨zl,hd,vs,rel,dd⟩:=uZ I3.hok ea
 refine call_meetsIn PySem.F.slot_dict_setdefault dd.typeIs PySem.F.entry_dict_setdefault (PySem.F.args_dict_setdefault_3 _ _ _) (kt_meets_setdefault (bg X.prog X.w) a (jF ry) hd fv)
  ⟨vs,dd,by rw[<-rel.length];exact zl,λv' hv'=>?_,λhn h' dd' hs=>?_⟩
 ·have r:=rel.val k;rw[hv']at r
  cases l:bn kvs k with
  | none=>rw[l]at r;exact r.elim
  | some v=>rw[l]at r;exact⟨v,H3,I3.tok _,r,q3 v l⟩
 have r:=rel.val k;rw[hn]at r
 cases l:bn kvs k with
 | some v=>rw[l]at r;exact r.elim
 | none =>
 obtain⟨zl',q5⟩:=q4 l;have he:∃q,h'.get? a=some q:=let ⟨q,_,_,hq,_⟩:=dd';⟨q,hq⟩
 have hl:(bN kvs k z).length<=sizeLine:=by
  rw[dE z l,Qj];exact zl'
 exact⟨z,_,iO I3 (by rw[ea];exact True.intro) hs he (pW hl hd (rel.put k rz) dd'),rz,q5⟩
end
section
variable {X:Cx} {elts:List Expr} {k:Nat} {tpos:Pos}
end
section
variable {X:Cx}
end
section
variable {X:Cx} {elts:List Expr} {k:Nat} {tpos:Pos}
end
end L2
namespace Bf
section
variable {κ:Type} [DecidableEq κ]
def aV (w:List κ):List κ->List κ
 | []=>w
 | k::ks=>aV (if k∈w then w else w++[k]) ks
def bfs (nx:κ->List κ) (s:κ):Nat->List κ
 | 0=>[s]
 | n+1=>match (bfs nx s n)[n]? with
  | some h=>aV (bfs nx s n) (nx h)
  | none=>bfs nx s n
inductive Reach (nx:κ->List κ) (s:κ):κ->Prop
 | start:Reach nx s s
 | step {a b:κ}:Reach nx s a->b∈nx a->Reach nx s b
theorem cB:∀(ks w:List κ),w <+: aV w ks
 | [],w=>List.prefix_refl w
 | k::ks,w=>by
  unfold aV;refine List.IsPrefix.trans ?_ (cB ks _)
  split
  ·exact List.prefix_refl w
  exact List.prefix_append w [k]
theorem eB:∀(ks w:List κ) (x:κ),x∈aV w ks↔x∈w\/x∈ks
 | [],w,x=>by simp[aV]
 | k::ks,w,x=>by
  unfold aV;rw[eB ks]
  split
  ·rename_i h
   constructor
   ·rintro(q|q)
    ·exact .inl q
    exact .inr (Qq _ q)
   rintro(q|q)
   ·exact .inl q
   rcases QQ.mp q with e|q
   ·subst e;exact .inl h
   exact .inr q
  rw[QH,Q3,QQ,or_assoc]
theorem eA:∀(ks w:List κ),w.Nodup->(aV w ks).Nodup
 | [],w,h=>h
 | k::ks,w,h=>by
  unfold aV;refine eA ks _ ?_
  split
  ·exact h
  rename_i hk
  rw[List.nodup_append];refine⟨h,by simp,λa ha b hb=>?_⟩;rw[Q3]at hb;subst hb;intro e;subst e;exact hk ha
theorem kA (w ks ls:List κ):aV w (ks++ls)=aV (aV w ks) ls:=by
 induction ks generalizing w with
 | nil=>rfl
 | cons k ks ih=>exact ih _
variable {w xs ys:List κ}
theorem qc {k:κ} (h:k∈w):aV w [k]=w:=by simp[aV,h]
theorem qa {k:κ} (h:k∉w):aV w [k]=w++[k]:=by simp[aV,h]
variable {nx:κ->List κ} {s:κ}
variable {n i m:Nat}
theorem cI {h:κ} (e:(bfs nx s n)[n]?=some h):bfs nx s (n+1)=aV (bfs nx s n) (nx h):=by
 show (match (bfs nx s n)[n]? with|some h=>aV (bfs nx s n) (nx h)|none=>bfs nx s n)=_;rw[e]
theorem c9 (e:(bfs nx s n)[n]?=none):bfs nx s (n+1)=bfs nx s n:=by
 show (match (bfs nx s n)[n]? with|some h=>aV (bfs nx s n) (nx h)|none=>bfs nx s n)=_;rw[e]
theorem oM (n:Nat):bfs nx s n <+: bfs nx s (n+1):=by
 cases e:(bfs nx s n)[n]? with
 | none=>rw[c9 e];exact List.prefix_refl _
 | some h=>rw[cI e];exact cB _ _
theorem gK (n:Nat):∀m,bfs nx s n <+: bfs nx s (n+m)
 | 0=>List.prefix_refl _
 | m+1=>(gK n m).trans (oM (n+m))
theorem fz (h:xs <+: ys) {x:κ} (e:xs[i]?=some x):ys[i]?=some x:=by
 obtain⟨t,rfl⟩:=h;rw[QT (Qe.mp e).1];exact e
theorem eT (h:xs <+: ys) {x:κ} (hi:i<xs.length) (e:ys[i]?=some x):xs[i]?=some x:=by
 obtain⟨t,rfl⟩:=h;rw[QT hi]at e;exact e
theorem bx:∀n,(bfs nx s n).Nodup
 | 0=>by simp[bfs]
 | n+1=>by
  cases e:(bfs nx s n)[n]? with
  | none=>rw[c9 e];exact bx n
  | some h=>rw[cI e];exact eA _ _ (bx n)
theorem bw:∀n x,x∈bfs nx s n->Reach nx s x
 | 0,x,h=>by
  have:x=s:=by simpa[bfs] using h
  subst this;exact .start
 | n+1,x,hx=>by
  cases e:(bfs nx s n)[n]? with
  | none=>rw[c9 e]at hx;exact bw n x hx
  | some h =>
  rw[cI e]at hx;rcases(eB _ _ _).mp hx with q|q
  ·exact bw n x q
  exact .step (bw n h (Qg e)) q
theorem oK (n:Nat):(bfs nx s n)[0]?=some s:=fz (by have:=gK (nx:=nx) (s:=s) 0 n;rwa [Nat.zero_add]at this) rfl
theorem sO (n:Nat):s∈bfs nx s n:=Qg (oK n)
theorem f9 {n i:Nat} {h:κ} (hi:i<n) (e:(bfs nx s n)[i]?=some h):∀k∈nx h,k∈bfs nx s n:=by
 have h1:bfs nx s i <+: bfs nx s n:=by
  have:=gK (nx:=nx) (s:=s) i (n-i);rwa [Nat.add_sub_cancel' (XH hi)]at this
 have h2:bfs nx s (i+1) <+: bfs nx s n:=by
  have:=gK (nx:=nx) (s:=s) (i+1) (n-(i+1));rwa [Nat.add_sub_cancel' hi]at this
 intro k hk
 cases q:(bfs nx s i)[i]? with
 | some h' =>
  have:some h'=some h:=(fz h1 q).symm.trans e;cases this;refine h2.subset ?_;rw[cI q];exact(eB _ _ _).mpr (.inr hk)
 | none =>
 -- then nothing is added any more
 exfalso
 have stay:∀m,bfs nx s (i+m)=bfs nx s i:=by
  intro m
  induction m with
  | zero=>rfl
  | succ m ih =>
  have:(bfs nx s (i+m))[i+m]?=none:=by
   rw[ih];exact QY (QP (List.getElem?_eq_none_iff.mp q) (Nat.le_add_right i m))
  exact(c9 this).trans ih
 have:=stay (n-i);rw[Nat.add_sub_cancel' (XH hi)]at this;rw[this,q]at e;cases e
theorem mR (hn:(bfs nx s n).length<=n) (x:κ):x∈bfs nx s n↔Reach nx s x:=by
 refine⟨bw n x,λr=>?_⟩
 induction r with
 | start=>exact sO n
 | step r hb ih =>
 obtain⟨i,hi,e⟩:=Qr.mp ih;exact f9 (i:=i) (by omega) (by rw[Qb hi,e]) _ hb
theorem ga:∀(ks w:List κ) (j:Nat) (x:κ),w.length<=j->(aV w ks)[j]?=some x->x∈ks
 | [],w,j,x,hj,e=>by
  have:w[j]?=some x:=e;rw[QY hj]at this;cases this
 | k::ks,w,j,x,hj,e=>by
  unfold aV at e
  split at e
  ·exact Qq _ (ga ks w j x hj e)
  by_cases c:j=w.length
  ·subst c;have:=eT (cB ks (w++[k])) (i:=w.length) (by simp) e;rw[QN (Qh _)]at this;simp at this;exact this▸Xd
  exact Qq _ (ga ks (w++[k]) j x (by simp;omega) e)
theorem gJ:∀(n j:Nat) (x:κ),0<j->(bfs nx s n)[j]?=some x->∃i h,i<j/\i<n/\(bfs nx s n)[i]?=some h/\x∈nx h
 | 0,j,x,hj,e=>by
  have:([s]:List κ)[j]?=some x:=e;rw[QY (by simp;omega)]at this;cases this
 | n+1,j,x,hj,e=>by
  cases q:(bfs nx s n)[n]? with
  | none =>
   rw[c9 q]at e ⊢;obtain⟨i,h,h1,h2,h3,h4⟩:=gJ n j x hj e;exact⟨i,h,h1,by omega,h3,h4⟩
  | some h =>
  rw[cI q]at e ⊢;by_cases c:j<(bfs nx s n).length
  ·have e':=eT (cB (nx h) (bfs nx s n)) c e;obtain⟨i,h',h1,h2,h3,h4⟩:=gJ n j x hj e';exact⟨i,h',h1,by omega,fz (cB _ _) h3,h4⟩
  have hn:n<(bfs nx s n).length:=(Qe.mp q).1;exact⟨n,h,by omega,by omega,fz (cB _ _) q,ga _ _ j x (by omega) e⟩
theorem v9 (hn:(bfs nx s n).length=n) (hm:(bfs nx s m).length=m):n=m:=by
 have a:∀x,x∈bfs nx s n↔x∈bfs nx s m:=λx=>(mR (Nat.le_of_eq hn) x).trans (mR (Nat.le_of_eq hm) x).symm;have:=(List.perm_ext_iff_of_nodup (bx n) (bx m)).mpr a;have:=this.length_eq;omega
theorem tS:∀(xs ys:List κ),xs.Nodup->(∀x∈xs,x∈ys)->xs.length<=ys.length
 | [],_,_,_=>QM _
 | x::xs,ys,nd,h=>by
  rw[Xi]at nd;have hx:x∈ys:=h x Xd;have:=tS xs (ys.erase x) nd.2 λy hy=>(List.mem_erase_of_ne (λz:y=x=>nd.1 (by rw[<-z];exact hy))).mpr (h y (Qq _ hy));rw[List.length_erase_of_mem hx]at this;have:0<ys.length:=List.length_pos_of_mem hx;simp only[Q0];omega
end
section
theorem gb {κ:Type} [DecidableEq κ] {f:κ->κ}:∀(ks w:List κ),(∀a∈w,∀k∈ks,f k=f a->k=a)->(∀a∈ks,∀k∈ks,f k=f a->k=a)->aV (w.map f) (ks.map f)=(aV w ks).map f
 | [],w,_,_=>rfl
 | k::ks,w,h,h2=>by
  unfold aV;rw[QC];show aV (if f k∈w.map f then w.map f else w.map f++[f k]) (ks.map f)=_
  have e:(f k∈w.map f)↔k∈w:=by
   constructor
   ·intro q;obtain⟨a,ha,ea⟩:=Qo.mp q;rw[h a ha k (by simp) ea.symm];exact ha
   intro q;exact Qo.mpr ⟨k,q,rfl⟩
  by_cases c:k∈w
  ·rw[Qz (e.mpr c),Qz c];exact gb ks w (λa ha k' hk'=>h a ha k' (Qq _ hk')) λa ha k' hk'=>h2 a (Qq _ ha) k' (Qq _ hk')
  rw[QA (λq=>c (e.mp q)),QA c,show w.map f++[f k]=(w++[k]).map f by simp];refine gb ks (w++[k]) (λa ha k' hk'=>?_) λa ha k' hk'=>h2 a (Qq _ ha) k' (Qq _ hk');rcases QH.mp ha with q|q
  ·exact h a q k' (Qq _ hk')
  rw[Q3]at q;subst q;exact h2 a (by simp) k' (Qq _ hk')
theorem qV {κ:Type} [DecidableEq κ] {f:κ->κ} {nx nx':κ->List κ} {s:κ} (hn:∀x,Reach nx s x->nx' (f x)=(nx x).map f) (inj:∀x y,Reach nx s x->Reach nx s y->f x=f y->x=y):∀n,bfs nx' (f s) n=(bfs nx s n).map f
 | 0=>rfl
 | n+1=>by
  have ih:=qV hn inj n
  cases e:(bfs nx s n)[n]? with
  | none=>rw[c9 e,c9 (by rw[ih,Qi,e];rfl),ih]
  | some h =>
  have rh:=bw n h (Qg e);rw[cI e,cI (h:=f h) (by rw[ih,Qi,e];rfl),ih,hn h rh];exact gb _ _ (λa ha k hk q=>inj _ _ (.step rh hk) (bw n a ha) q) λa ha k hk q=>inj _ _ (.step rh hk) (.step rh ha) q
end
section
variable {κ:Type} [DecidableEq κ] {nx:κ->List κ} {s:κ}
theorem sP {n a i i':Nat} {h x x':κ} (ha:(bfs nx s n)[a]?=some h) (an:a<n) (hx:x∈nx h) (hi:(bfs nx s n)[i]?=some x) (hi':(bfs nx s n)[i']?=some x') (pos:0<i') (no:∀c g,c<=a->(bfs nx s n)[c]?=some g->x'∉nx g):i<i':=by
 have pre:bfs nx s (a+1) <+: bfs nx s n:=by
  have:=gK (nx:=nx) (s:=s) (a+1) (n-(a+1));rwa [Nat.add_sub_cancel' (by omega)]at this
 have mx:x∈bfs nx s (a+1):=by
  by_cases l:a<(bfs nx s (a+1)).length
  ·exact f9 (Nat.lt_succ_self a) (eT pre l ha) x hx
  exact(mR (by omega) x).mpr (bw n x (Qg hi))
 obtain⟨j,hj,ej⟩:=Qr.mp mx;have e1:(bfs nx s n)[j]?=some x:=fz pre (by rw[Qb hj,ej]);have ij:i=j:=(List.getElem?_inj (Qe.mp hi).1 (bx n)).mp (by rw[hi,e1])
 have ge:(bfs nx s (a+1)).length<=i':=Nat.le_of_not_lt λl=>by
  obtain⟨c,g,_,h2,h3,h4⟩:=gJ (a+1) i' x' pos (eT pre l hi');exact no c g (by omega) (fz pre h3) h4
 omega
end
end Bf
namespace L2
open PySem PySem.Spec PyProof.Rows
section
variable {X:Cx}
end
section
variable {X:Cx}
theorem xV {K:PySem.W.Frag} {o e:Expr} {es:List Expr} {to:TE} {t:TA} {name:Str} {apos cpos:Pos} {T id:String} {r:V->List V->Hp->VK->Prop} (hK:X.K=K) (pa:PlainAttrs T) (slot:Slot T name id) (hty:typeOf (.builtin id)=pure (.type "method_descriptor")) (hm:MtR X id r) (ho:PE X o to) (ha:PA X (e::es) t)
  (hbase:attributeBase o name X.env (eval o X.env)=eval o X.env:=by rfl)
  (hfew:((backTo cpos (starEach (e::es) X.env)).all (fun x=>!x.1)&&(backToKw cpos (keywordEach [] X.env)).all (fun x=>x.1.isSome)
   && decide ((e::es).length+([]:List Keyword).length+(if ([]:List Keyword).isEmpty then 0 else 1)<30))=true:=by rfl)
  (hline:(apos.endLine==cpos.line)=true:=by rfl) (hs:starEach (e::es) X.env=(false,eval e X.env)::starEach es X.env:=by rfl) (hplain:(backTo cpos (starEach es X.env)).any (·.1)=false:=by rfl) :
  PE X (.Call (.Attribute o name apos) (e::es) [] cpos) (tBM K T r to t):=by
 subst hK;exact eV pa slot hty hm ho ha hbase hfew hline hs hplain
end
section
variable {X:Cx}
def qt (T:Addr):R2:=λx y H Q=>x=.ref T/\((y=.str "0" /\ Q (.str "1") H)\/(y=.str "1" /\ Q (.str "0") H))
theorem vV {T:Addr} (hT:qh X.K T [("0", .flat (.str "1")),("1", .flat (.str "0"))]):IxR X (qt T):=by
 intro value slice pins s σ H x y v u Q I rx ry h hs;obtain⟨e1,h⟩:=h;subst e1;cases rx;have here:KTD.Here X.base s.heap T [("0", .flat (.str "1")),("1", .flat (.str "0"))]:=⟨KTD.text_of_look (get:=λa=>X.K.lookup a) (λa o e=>I.mod.kin a o e) hT,I.bk⟩;rcases h with⟨e,q⟩|⟨e,q⟩
 ·subst e;obtain⟨t,e⟩:=ry;subst e;refine KTD.item_textA here (by rfl) (by decide +kernel) ?_ hs;have e:decide (("0" : Str) = "0")=true:=by decide +kernel
  simp only[KTD.EachL,e,if_true];exact λt=>⟨.str "1", H,I.tok _,⟨_,rfl⟩,q⟩
 subst e;obtain⟨t,e⟩:=ry;subst e;refine KTD.item_textA here (by rfl) (by decide +kernel) ?_ hs;have e:decide (("1" : Str) = "0")=false:=by decide +kernel
 simp only[KTD.EachL,e,QK,XV];exact λ_ t=>⟨.str "0", H,I.tok _,⟨_,rfl⟩,q⟩
end
section
variable {X:Cx} {scope:Scope} {tgs:List Str} {cap:List (Str × Nat)}
theorem y_ {j:Nat} {x:Str} {pos' spos:Pos} {elt tg iter:Expr} {ifs:List Expr} {pos:Pos} {wi:TI} {g:TG} {tt:TT} {te:TE} (hN:X.N.Nodup) (hj:X.N[j]?=some x) (hx:Loc X.env.scope x) (hc:X.calm=true) (B:BlockOk X scope tgs cap) (hi:PI X tg iter wi)
  (hg:∀C s H fp,PG (X.block (tgs++cap.map (·.1)) scope C s H fp) tg g) (ht:∀C s H fp,wj (X.block (tgs++cap.map (·.1)) scope C s H fp) ifs tt) (he:∀C s H fp,PE (X.block (tgs++cap.map (·.1)) scope C s H fp) elt te)
  (hs:∀x,foldedSetIterable iter X.env x=pure x:=by intro _;rfl) (hsw:swapsWith (.ListComp elt [⟨tg,iter,ifs,0⟩] scope pos) (some (.Name x pos')) spos.line X.env=pure true:=by rfl)
  (hf:X.fn x=true\/X.env.scope.names.lookup x=some .local:=by walk_at "z"):PS X (.Assign [.Name x pos'] (.ListComp elt [⟨tg,iter,ifs,0⟩] scope pos) spos) (tj (kH wi g tt te (bH tgs cap)) (eJ j)):=by
 intro pins s σ H D I h;rw[exec_Assign_Name_used _ _ _ _ hsw];refine Qa (wpAny_standAt (Qa ?_));show wpAny _ _ (comprehension _ _ _ _ _ _ _ _ >>= _) _ _ _;refine Qa (thn (Q:=λ_ s'=>SP X pins D .next s') ?_ λ_ s' q=>Qf (Qf q));refine wpAny_comprehension_free (use:=some (assign (.Name x pos') X.env)) rfl hs (jR (B.cellAt I.ok)) B.kind B.locs (thn (hi pins s σ H _ I h) λv s1 h1=>thn h1 λitv s2 h2=>?_);obtain⟨it,fp,tn,J,H2,e,I2,T,st2,f2,q⟩:=h2;subst e;have lt2:∀b∈fp,b<s2.heap.objs.size:=λb hb=>let ⟨o,e,_⟩:=T.obj _ _ st2 b hb;Qm e;have hD:H2 s2.heap.objs.size=none:=I2.hok.fresh (Qh _);obtain⟨W,⟨m0,w0⟩,turn⟩:=q s2.heap.objs.size hD;refine wpAny_newObj_type ?_;have I3:Inv X pins σ (upd H2 s2.heap.objs.size (.lst [])) { s2 with heap:=s2.heap.push { cls:=.type "list", dict:=none,data:=.seq ([]:List Value).toArray } }:=I2.lnew (t':=s2.toks) (ys:=[]) (its:=[]) .nil (QM _);have st3:tn 0 (s2.heap.push { cls:=.type "list", dict:=none,data:=.seq ([]:List Value).toArray }):=T.keep _ _ _ st2 λb _ o e=>Qd _ e;have nD:∀b∈fp,b≠s2.heap.objs.size:=λb hb=>QB (lt2 b hb);have f3:∀b∈fp,gc X pins (upd H2 s2.heap.objs.size (.lst [])) b:=λb hb=>⟨by rw[aq (nD b hb)];exact(f2 b hb).1,(f2 b hb).2⟩;generalize hs3:({ s2 with heap:=s2.heap.push { cls:=.type "list", dict:=none,data:=.seq ([]:List Value).toArray } }:Shared)=s3 at I3 st3 ⊢;have st3':tn 0 s3.heap:=by rw[<-hs3];exact st3
 have lt3:∀b∈fp,b<s3.heap.objs.size:=λb hb=>let ⟨o,e,_⟩:=T.obj _ _ st3' b hb;Qm e;generalize hH3:upd H2 s2.heap.objs.size (.lst [])=H3 at I3 f3 w0;generalize s2.heap.objs.size=DD at *;refine wpAny_newFunctionEnv B.noc (by intro y hy;simp at hy) (λh1 hns hsb=>?_) B.kind;have old:∀b o,s3.heap.get? b=some o->h1.get? b=some o:=λb o e=>hsb.extBut b o (QB (Qm e)) (Qd _ e);have I4:=Inv.enter (tk:=s3.toks+([]:List (Str × Value)).length) (h1:=h1) B I3 f3 lt3 hns old;have st4:tn 0 h1:=T.keep _ _ _ st3' λb _ o e=>old b o e
 have fpB:∀{H':Hp},(∀b∈fp,H' b=none)->∀b∈fp,gc (X.block (tgs++cap.map (·.1)) scope s3.heap.objs.size s3 H3 fp) [] H' b:=λ{H'} hn b hb =>
  ⟨hn b hb,QB (lt3 b hb),I4.ok.exfs b hb,.inl hb,λx c e=>(I4.ok.exf b hb).2 x c e,λp hp=>absurd (show p∈([]:List (Addr × Obj)) from hp) (by simp)⟩
 have loop:codeAny (model X.prog X.w) X.A (.compLoop (.ListComp elt [⟨tg,iter,ifs,0⟩] scope pos) 0 (.ref it) (.ref DD) (compEnvC scope (cq X.env scope.names []) s3.heap.objs.size X.env))
   (compPost (model X.prog X.w) X.A X.xe (some (assign (.Name x pos') X.env)) (λ_ s'=>SP X pins D .next s') (.ref DD) s3.heap.objs.size) { s3 with heap:=h1,toks:=s3.toks+([]:List (Str × Value)).length }:=by
  refine gH (λn s'=>∃i H' ys,Inv (X.block (tgs++cap.map (·.1)) scope s3.heap.objs.size s3 H3 fp) [] (bH tgs cap σ) H' s'/\tn i s'.heap/\(∀b∈fp,H' b=none)/\W i n H' ys) ?_ m0 ⟨0,H3,[],I4,st4,λb hb=>(f3 b hb).1,w0⟩;rintro n s5 ⟨i,H5,ys,I5,st5,fr5,w5⟩;obtain⟨hl,ht5⟩:=turn i n H5 ys w5;rcases ht5 with⟨stop,qd⟩|⟨go,step⟩
  ·refine thn (T.done (X.block (tgs++cap.map (·.1)) scope s3.heap.objs.size s3 H3 fp) rfl rfl rfl hc i [] s5 _ H5 _ I5 (fpB fr5) st5 stop) λr s6 ⟨hr,I6⟩=>?_;subst hr;obtain⟨m6,n6,_⟩:=I6.loc;have IO:Inv X pins σ H5 s6:=Inv.leave (h2:=s6.heap) I3 f3 I6 ⟨rfl,λ_ _=>rfl⟩;have fC:gc X pins H5 s3.heap.objs.size:=⟨I6.free,(I3.fpOk (Qh _) (I3.hok.fresh (Qh _))).2⟩;obtain⟨f0,f1,f2',f3',f4,f5⟩:=fC;refine wpAny_assign_Name (kJ IO hN hj hx (show aR (.ref DD) (.ref DD) from rfl) (λs7 I7 ⟨a,sb,ha⟩=>?_) hf)
   have na:s3.heap.objs.size≠a:=by
    rcases ha with z|z
    ·rw[z];exact f1
    exact λy=>f4 x a z y.symm
   obtain⟨o6,es6,ep6,ho6,r6⟩:=n6;refine⟨m6,⟨o6,es6,ep6,(sb.2 _ na).trans ho6,r6⟩,λh' hs'=>⟨_,H5,I7.turned (t':=s7.toks) (λb o hb q=>(hs'.2 b hb).trans q) f0 f1 f3' f4 f5,qd⟩⟩
  refine thn (T.item (X.block (tgs++cap.map (·.1)) scope s3.heap.objs.size s3 H3 fp) rfl rfl rfl hc i [] s5 _ H5 _ I5 (fpB fr5) st5 go) λr s6 ⟨u,hr,h6⟩=>?_;subst hr;refine thn h6 λ_ s7 ⟨x,H7,I7,r7,y7,st7,fr7⟩=>?_;have I7':=I7.pinned (fpB fr7) (T.obj _ _ st7)
  have again:∀{σ8:St} {H8:Hp} {s8:Shared} {ys8:List V},Inv (X.block (tgs++cap.map (·.1)) scope s3.heap.objs.size s3 H3 fp) ([]++gZ fp s7.heap) σ8 H8 s8->wk (bH tgs cap σ) σ8->(∃m',m'<n/\W (i+1) m' H8 ys8) ->
    ∃m,m<n/\∃i H' ys,Inv (X.block (tgs++cap.map (·.1)) scope s3.heap.objs.size s3 H3 fp) [] (bH tgs cap σ) H' s8/\tn i s8.heap/\(∀b∈fp,H' b=none)/\W i m H' ys:=λ{σ8 H8 s8 ys8} I8 k8 ⟨m',hm,w8⟩=>by
   refine⟨m',hm,i+1,H8,ys8,I8.unpinned.weak (lA k8) (lB k8),T.keep _ _ _ st7 λb hb o e=>(I8.pin (b,o) (QL _ (QL _ (cx hb e)))).1,λb hb=>?_,w8⟩;obtain⟨o,e,d⟩:=T.obj _ _ st7 b hb;exact(I8.pin (b,o) (QL _ (QL _ (cx hb e)))).2.1
  refine thn (hg _ _ _ _ _ s7 _ H7 x u _ I7' r7 (step x H7 y7)) λ_ s8 ⟨σ8,H8,I8,k8,q8⟩=>?_;refine thn (ht _ _ _ _ _ s8 σ8 H8 _ I8 q8) λok s9 ⟨H9,I9,q9⟩=>?_
  cases ok with
  | false =>
   rw[QA Qn]at q9 ⊢;exact again I9 k8 q9
  | true =>
  rw[Qz rfl]at q9 ⊢;refine thn (he _ _ _ _ _ s9 σ8 H9 _ I9 q9) λy sA ⟨yv,HA,IA,rA,hA,zA,qA⟩=>?_;exact thn (cw _ sA σ8 HA (.ref DD) [yv] (.ref DD) [y] (λv H'=>v=.non/\∃m',m'<n/\W (i+1) m' H' (ys++[yv])) IA rfl (.cons rA .nil) ⟨DD,ys,yv,rfl,rfl,hA,zA,rfl,qA⟩) λ_ sB ⟨_,HB,IB,_,_,qB⟩=>again IB k8 qB
 exact codeAny_compStart_list loop (T.self _ 0 _ _ _ st4 loop)
end
end L2
namespace L2
open PySem PySem.Spec PyProof.Rows
open AutoSeq1 (wpAny_loadPart')
section
variable {P:Program} {w:World} {A:Around} {E:Value->Shared->Prop} {s:Shared}
theorem sF (l:Addr) (c:Int) (tc:Tok) (hc:Builtin.SmallTypes.fitsIndex c=true) (its:Array Value) (m:Nat) (dd:Option Addr) (ss:Array (Option Value)) :
  Meets (Builtin.«enumerate.__new__» ⟨[.type "enumerate", .ref l],[("start", .int c tc)]⟩) (λ_ R t=>t.heap.get? l=some { cls:=.type "list", dict:=dd,data:=.seq its m,slots:=ss } /\
   R (.ok (.ret (.ref (t.heap.push { cls:=.type "list_iterator", data:=.fields #[.ref l,.int 0 0] }).objs.size)))
    { t with heap:=(t.heap.push { cls:=.type "list_iterator", data:=.fields #[.ref l,.int 0 0] }).push { cls:=.type "enumerate", data:=.fields #[.none,.bool false,.ref t.heap.objs.size,rawInt c,.none,.none] } }):=by
 refine .of_wp λP w A R t ht=>?_;obtain⟨hp,g,d,tk,os⟩:=t;obtain⟨hl,h⟩:=ht;have sub:=sub_enumerate;have hL:Heap.IsList (Shared.heap ⟨hp,g,d,tk,os⟩) l its:=⟨_,hl,rfl,m,rfl⟩
 wp_walk using wpAny_loadPart' hl
 refine wpAny_stack_any λst=>Qf ?_;have nf:(!Builtin.SmallTypes.fitsIndex c)=false:=by rw[hc];rfl
 split
 rotate_left
 ·(wp_walk using wpAny_loadPart' hl,wpAny_pyIter_list hL);exact⟨_,rfl,h⟩
 rename_i k _ _ _ _ _
 cases (k==Value.type "enumerate") <;> ((wp_walk using wpAny_loadPart' hl,wpAny_pyIter_list hL);exact⟨_,rfl,h⟩)
theorem rj (a b:Value):checkTypeCall "enumerate" ⟨[a],[("start", b)]⟩=pure ():=by kernel_rfl
theorem uB (a b:Value):checkBuiltinCall "enumerate.__new__" ⟨[.type "enumerate", a],[("start", b)]⟩=pure ():=by kernel_rfl
theorem B1 (a b c:Value):argsOk "object.__init__" ⟨[a,b],[("start", c)]⟩:=by
 show Bind.checkArgs _ _ _=_
 kernel_rfl
theorem uA {T nid:String} {o a b:Value} (hl:typeLookup (.type T) "__init__" = pure (some (.builtin "object.__init__"))) (hm:Bind.madeBy (.type T)=pure (some nid)) (ne:(some nid != some "object.__new__")=true) :
  Meets (Builtin.«object.__init__» ⟨[o,a],[("start", b)]⟩) (λ_ R t=>t.TypeIs o T/\R (.ok (.ret .none)) t):=by
 refine .of_wp λP w A R t ⟨hT,hq⟩=>?_
 repeat (any_goals (first|assumption|wp_step))
 exact⟨_,rfl,hq⟩
end
end L2
namespace L2
open PySem PySem.Spec PyProof.Rows
variable {P:Program} {w:World} {A:Around} {E:Value->Shared->Prop} {s:Shared}
section
theorem p9 {l:Addr} {c:Int} {tc:Tok} {its:Array Value} {Q:Value->Shared->Prop} (hc:Builtin.SmallTypes.fitsIndex c=true) (hL:s.heap.IsList l its)
  (h:∀h',IsEnum h' (s.heap.objs.size+1) s.heap.objs.size c .none->h'.IsListIter s.heap.objs.size l 0->(∀b o,s.heap.get? b=some o->h'.get? b=some o)->Q (.ref (s.heap.objs.size+1)) { s with heap:=h' }) :
  wpAny (model P w) A (call (.type "enumerate") [.ref l] [("start", .int c tc)]) Q E s:=by
 obtain⟨⟨k,dd,dt,ss⟩,hl,hk,m,hd⟩:=hL;have hk:k=.type "list" := hk;have hd:dt=.seq its m:=hd;subst hk hd;have ft:=F.called_enumerate;obtain⟨c0,tl,hmro⟩:=ft.mro;have hmade:=ft.made;have hsub:=ft.sub;have h1:=ft.notType;have h2:=ft.canCreate;have hct:=rj (.ref l) (.int c tc);refine wpAny_call (codeAny_of_tree ?_);show wpAny _ _ (callAny (.type "enumerate") _) _ _ _;refine Qf ⟨Code.quiet_builtin _ (by decide +kernel),Xr F.entry_type_call ?_⟩;rw[Around.under_plain (weight_type_call_type "enumerate" [.ref l] [("start", .int c tc)]) (units_type_call_type "enumerate" [.ref l] [("start", .int c tc)])]
 repeat (any_goals (first|assumption|wp_step))
 have hcn:=uB (.ref l) (.int c tc);refine codeAny_mono (codeAny_call_builtin ft.plain F.entry_enumerate_new (wpAny_of_eq hcn ((sF l c tc hc its m dd ss) P w A.in1 (wants (λobj s₁=>s₁.TypeIs obj "enumerate" /\ Q obj s₁) E) s ⟨hl,?_⟩))) λr s₁ hr=>?_
 ·have hz:(s.heap.push { cls:=.type "list_iterator", data:=.fields #[.ref l,.int 0 0] }).objs.size=s.heap.objs.size+1:=Q5 ..;show _/\_;rw[hz];have he:=Qp (s.heap.push { cls:=.type "list_iterator", data:=.fields #[.ref l,.int 0 0] }) (o:={ cls:=.type "enumerate", data:=.fields #[.none,.bool false,.ref s.heap.objs.size,rawInt c,.none,.none] }) rfl;rw[hz]at he;exact⟨⟨_,he,rfl⟩,h _ he ⟨_,Qd _ (Qp _ rfl),rfl,rfl⟩ λb o x=>Qd _ (Qd _ x)⟩
 cases r with
 | error e=>exact hr
 | ok fl =>
 cases fl with
 | ret obj =>
  obtain⟨hT,hq⟩:=hr;have hli:=ft.init.lookup;have hbi:=ft.init.bind obj
  repeat (any_goals (first|assumption|wp_step))
  refine codeAny_mono (codeAny_call_builtin ft.init.plain F.entry_object_init (ft.init.check _ _ _ _ _ _ _ _ hT (B1 obj _ _) ((uA ft.init.lookup ft.made (by decide)) P w A.in1 (wants (λr s₂=>r=.none/\Q obj s₂) E) s₁ ⟨hT,rfl,hq⟩))) λr₂ s₂ hr₂=>?_
  cases r₂ with
  | error e=>exact hr₂
  | ok fl₂ =>
  cases fl₂ with
  | ret r=>obtain⟨rfl,hq⟩:=hr₂;repeat (any_goals (first|assumption|wp_step))
  | _=>exact hr₂.elim
 | _=>exact hr.elim
end
section
variable {x old:Value} {its:Array Value} {e it l:Addr}
theorem pT {i:Nat} {c:Int} {Q:Value->Shared->Prop} (he:IsEnum s.heap e it c old) (hit:s.heap.IsListIter it l i) (hl:s.heap.IsList l its) (hx:its[i]?=some x) (hne:e≠it)
  (hQ:∀h',IsEnumOut h' e it (c+1) x s.heap.objs.size->h'.IsListIter it l (i+1)->h'.get? s.heap.objs.size=some { cls:=.type "tuple", data:=.seq #[.int c s.toks,x] } ->
   (∀b o,b≠e->b≠it->s.heap.get? b=some o->h'.get? b=some o)->Q (.ref s.heap.objs.size) { s with heap:=h',toks:=s.toks+1 }) :
  wpAny (model P w) A (Builtin.«enumerate.__next__» ⟨[.ref e],[]⟩) (λfin s'=>∃v,fin=.done (.ret v)/\Q v s') E s:=by
 obtain⟨hp,g,d,tk,os⟩:=s;show wpAny _ _ (field (.ref e) 2 >>= _) _ _ _;refine Qa (Xo he rfl (x:=.ref it) rfl (Qa (wpAny_nextOf_list_item hit hl hx λk1 i1 s1=>?_)));have s1:Heap.SameBut it hp k1:=s1;have e1:IsEnum k1 e it c old:=(s1.2 e hne).trans he;show wpAny _ _ (field (.ref e) 3 >>= _) _ _ ⟨k1,g,d,tk,os⟩;refine Qa (Xo e1 rfl (x:=rawInt c) rfl ?_);show wpAny _ _ (field (.ref e) 4 >>= _) _ _ ⟨k1,g,d,tk,os⟩;refine Qa (Xo e1 rfl (x:=.none) rfl ?_);show wpAny _ _ (mkInt c >>= _) _ _ ⟨k1,g,d,tk,os⟩;refine Qa (wpAny_mkInt ?_);show wpAny _ _ (setField (.ref e) 3 (rawInt (c+1)) >>= _) _ _ ⟨k1,g,d,tk+1,os⟩;refine Qa (Xe e1 (by simp) λk2 e2 s2=>?_);have s2:Heap.SameBut e k1 k2:=s2;have e2:IsEnum k2 e it (c+1) old:=e2;show wpAny _ _ (setField (.ref e) 4 .none >>= _) _ _ ⟨k2,g,d,tk+1,os⟩;refine Qa (Xe e2 (by simp) λk3 e3 s3=>?_);have s3:Heap.SameBut e k2 k3:=s3;have e3:IsEnum k3 e it (c+1) old:=e3;show wpAny _ _ (newTuple [.int c tk,x] >>= _) _ _ ⟨k3,g,d,tk+1,os⟩;refine Qa (wpAny_newTuple ?_);have e4:IsEnum (k3.push { cls:=.type "tuple", data:=.seq #[.int c tk,x] }) e it (c+1) old:=Qd _ e3;generalize hh:k3.push { cls:=.type "tuple", data:=.seq #[.int c tk,x] }=k4 at e4;have sz:k3.objs.size=hp.objs.size:=by rw[s3.1,s2.1,s1.1]
 have el:e<hp.objs.size:=Qm he;have t4:k4.get? hp.objs.size=some { cls:=.type "tuple", data:=.seq #[.int c tk,x] }:=by rw[<-hh,<-sz];exact Qp _ rfl
 have kp:∀b o,b≠e->b≠it->hp.get? b=some o->k4.get? b=some o:=λb o n1 n2 q=>by rw[<-hh];exact Qd _ (s3.extBut b o n1 (s2.extBut b o n1 (s1.extBut b o n2 q)))
 have i4:k4.IsListIter it l (i+1):=by
  obtain⟨o,ho,r⟩:=(i1.extBut s2.extBut (XI hne)).extBut s3.extBut (XI hne);exact⟨o,by rw[<-hh];exact Qd _ ho,r⟩
 show wpAny _ _ (Builtin.SmallTypes.ownedTupleIsFree (.ref e) >>= _) _ _ ⟨k4,g,d,tk+1,os⟩;rw[sz];refine Qa ?_;unfold Builtin.SmallTypes.ownedTupleIsFree;refine Qa (Xo e4 rfl (x:=.none) rfl (Qf ?_));simp only[if_true];refine Qa (XR (Qa (Xo e4 rfl (x:=old) rfl (Qa (Xe e4 (by simp) λk5 e5 s5=>?_)))));have s5:Heap.SameBut e k4 k5:=s5;have e5:IsEnum k5 e it (c+1) x:=e5;show wpAny _ _ (Builtin.SmallTypes.ownedTupleHandOut (.ref e) (.ref hp.objs.size) >>= _) _ _ ⟨k5,g,d,tk+1,os⟩;refine Qa ?_;unfold Builtin.SmallTypes.ownedTupleHandOut;refine Qa (Xe e5 (by simp) λk6 e6 s6=>?_);have s6:Heap.SameBut e k5 k6:=s6;have e6:IsEnumOut k6 e it (c+1) x hp.objs.size:=e6;refine Xe e6 (by simp) λk7 e7 s7=>?_;have s7:Heap.SameBut e k6 k7:=s7;have e7:IsEnumOut k7 e it (c+1) x hp.objs.size:=e7;have far:∀b o,b≠e->k4.get? b=some o->k7.get? b=some o:=λb o n q=>s7.extBut b o n (s6.extBut b o n (s5.extBut b o n q));exact Qa (wpAny_letGo (Qf ⟨_,rfl,hQ k7 e7 (((i4.extBut s5.extBut (XI hne)).extBut s6.extBut (XI hne)).extBut s7.extBut (XI hne)) (far _ _ (Nat.ne_of_gt el) t4) λb o n1 n2 q=>far b o n1 (kp b o n1 n2 q)⟩))
variable {Q:Option Value->Shared->Prop}
theorem l9 {i:Nat} {c:Int} (he:IsEnum s.heap e it c old) (hit:s.heap.IsListIter it l i) (hl:s.heap.IsList l its) (hx:its[i]?=some x) (hne:e≠it)
  (hQ:∀h',IsEnumOut h' e it (c+1) x s.heap.objs.size->h'.IsListIter it l (i+1)->h'.get? s.heap.objs.size=some { cls:=.type "tuple", data:=.seq #[.int c s.toks,x] } ->
   (∀b o,b≠e->b≠it->s.heap.get? b=some o->h'.get? b=some o)->Q (some (.ref s.heap.objs.size)) { s with heap:=h',toks:=s.toks+1 }):wpAny (model P w) A (pyNext (.ref e)) Q E s:=by
 have ty:s.TypeIs (.ref e) "enumerate" := ⟨_,he,rfl⟩;unfold pyNext;refine Qa (wpAny_attempt (XW (name:=Str.ofString "__next__") ty F.slot_enumerate_next (XB F.slot_enumerate_next ty F.entry_enumerate_next (pT he hit hl hx hne λh' a b c k=>?_) (F.args_enumerate_next_1 _))));exact Qf (hQ h' a b c k)
theorem gY {i:Nat} {c:Int} (hh:A.handled=none) (he:IsEnum s.heap e it c old) (hit:s.heap.IsListIter it l i) (hl:s.heap.IsList l its) (hx:its[i]?=none)
  (hQ:∀h',Heap.ExtBut it s.heap h'->Q none { s with heap:=h' }):wpAny (model P w) A (pyNext (.ref e)) Q E s:=by
 have ty:s.TypeIs (.ref e) "enumerate" := ⟨_,he,rfl⟩;unfold pyNext;refine Qa (wpAny_attempt (XW (name:=Str.ofString "__next__") ty F.slot_enumerate_next (XB F.slot_enumerate_next ty F.entry_enumerate_next ?_ (F.args_enumerate_next_1 _))));show wpAny _ _ (field (.ref e) 2 >>= _) _ _ _;refine Qa (Xo he rfl (x:=.ref it) rfl (Qa (wpAny_nextOf_list_end hh hit hl hx λh' y hx' ⟨o,ho,ko⟩=>?_)));exact Qa (wpAny_isInstance (T := "StopIteration") (b:=true) ⟨o,ho,ko⟩ isSubtype_stop (Qf (hQ _ hx')))
end
noncomputable def vd (K:PySem.W.Frag) (a:Addr) (n:Int):It :=
 ⟨λi H=>∃xs x,SqL K H a xs/\xs[i]?=some x,λi H x H'=>∃T v,H T=none/\x=.ref T/\H'=upd H T (.tup [.int (n+(i:Nat)),v])/\∀xs,SqL K H a xs->xs[i]?=some v,λi H=>∃xs,SqL K H a xs/\xs.length<=i⟩
variable {K:PySem.W.Frag}
theorem oY {P:Program} {w:World} {elts:List Expr} {k:Nat} {pos:Pos} (a e it:Addr) (n:Int) (hne:e≠it) :
  Turn P w K (.Tuple elts k pos) (vd K a n) [e,it] e (λi h=>(∃old,IsEnum h e it (n+(i:Nat)) old)/\h.IsListIter it a i) where
 mem:=by simp
 obj:=λi h st b hb=>by
  obtain⟨⟨old,he⟩,o,ho,hc,hd⟩:=st;have z:b=e\/b=it:=by simpa using hb
  rcases z with z|z
  ·subst z
   exact⟨_,he,λv q=>by
    have q':Data.fields _=Data.cell v:=q
    cases q'⟩
  subst z;exact⟨o,ho,λv q=>by rw[hd]at q;cases q⟩
 keep:=λi h h' st kk=>by
  obtain⟨⟨old,he⟩,hl⟩:=st;exact⟨⟨old,kk e (by simp) _ he⟩,hl.at λo q=>kk it (by simp) o q⟩
 item:=by
  intro X hP hw hK hc i pins s σ H E I hf st hg;subst hP hw hK;obtain⟨xs,x,hq,hx⟩:=hg;obtain⟨its,rv,p,hz⟩:=I.list hq;obtain⟨u,hu,ru⟩:=rv.get hx;obtain⟨⟨old,he⟩,hl⟩:=st;have f1:=hf e (by simp);have f2:=hf it (by simp);refine l9 he hl p.isList (x:=u) (by simpa using hu) hne λh1 a1 a2 a3 a5=>⟨_,rfl,?_⟩;refine wpAny_letOwnedTupleGo_enum a1 λh2 b1 b2=>?_
  have nTe:s.heap.objs.size≠e:=λz=>by
   have q:=Qm (show s.heap.get? e=some _ from he);rw[<-z]at q;exact XF _ q
  have keep2:∀b o,b≠e->b≠it->s.heap.get? b=some o->h2.get? b=some o:=λb o n1 n2 q=>b2.extBut b o n1 (a5 b o n1 n2 q);have tup2:h2.get? s.heap.objs.size=some { cls:=.type "tuple", data:=.seq #[.int (n+(i:Nat)) s.toks,u] }:=b2.extBut _ _ nTe a3
  have I2:Inv X pins σ (upd H s.heap.objs.size (.tup [.int (n+(i:Nat)),x])) { s with heap:=h2,toks:=s.toks+1 } :=
   I.turned2 keep2 f1 f2 (Qh _) ⟨(by show 2<=sizeLine;decide),[.int (n+(i:Nat)) s.toks,u],.cons ⟨_,rfl⟩ (.cons ru .nil),⟨_,tup2,rfl,_,rfl⟩⟩
  refine⟨.ref s.heap.objs.size,_,I2,rfl,⟨s.heap.objs.size,x,I.hok.fresh (Qh _),rfl,rfl,λys hy=>by rw[I.list_inj hy hq];exact hx⟩,⟨⟨u,?_⟩,(a2.extBut b2.extBut (XI hne))⟩,λb hb=>?_⟩
  ·have q:IsEnum h2 e it (n+(i:Nat)+1) u:=b1;have c:n+(((i+1:Nat):Nat):Int)=n+(i:Nat)+1:=by omega
   rw[c];exact q
  have z:b=e\/b=it:=by simpa using hb
  have nT:b≠s.heap.objs.size:=by
   rcases z with z|z
   ·rw[z];exact XI nTe
   rw[z];obtain⟨o,ho,_⟩:=hl;exact QB (Qm ho)
  rw[aq nT];exact(hf b hb).1
 done:=by
  intro X hP hw hK hc i pins s σ H E I hf st hg;subst hP hw hK;obtain⟨xs,hq,hx⟩:=hg;obtain⟨its,rv,p,hz⟩:=I.list hq;obtain⟨⟨old,he⟩,hl⟩:=st;obtain⟨f0,f1,f2,f3,f4,f5⟩:=hf it (by simp);have hlen:=rv.length;exact gY (I.ok.hd hc) he hl p.isList (by simp;exact om4 hx hlen) λh' eb=>⟨rfl,I.turned (t':=s.toks) (λb o hb q=>eb b o hb q) f0 f1 f3 f4 f5⟩
 self:=λ_ _ _ _ _ st h=>by
  obtain⟨⟨old,he⟩,_⟩:=st;exact wpAny_pyIter_enum he h
section
variable {X:Cx} {elts:List Expr} {k:Nat} {tpos:Pos}
def yC (K:PySem.W.Frag) (ta tk:TA):TI:=λσ H R=>ta σ H λvs H1=>tk σ H1 λzs H2=>∃a n,vs=[.ref a]/\zs=[.int n]/\(0<=n/\n<1000)/\(∃xs,SqL K H2 a xs)/\R (vd K a n) H2
variable {E Q:Value->Shared->Prop}
theorem jU {M:Model} {env:Env} {pos:Pos} {T:String} {e:Expr} {kws:List Keyword} {A:Around} {s:Shared}
  (h:wpAny M A (spliced (backTo pos (starEach [e] env))) (λvs s1=>wpAny M A (evalAll ((backToKw pos (keywordEach kws env)).map (·.2))) (λzs s2=>wpAny M A (call (.type T) vs (((backToKw pos (keywordEach kws env)).filterMap (·.1)).zip zs)) Q E s2) E s1) E s)
  (he:backTo pos (starEach [e] env)=(false,eval e env)::backTo pos (starEach [] env):=by rfl) (hp:(backTo pos (starEach [e] env)).any (·.1)=false:=by rfl) (ha:(backToKw pos (keywordEach kws env)).all (·.1.isSome)=true:=by rfl) (hk:(backToKw pos (keywordEach kws env)).any (·.1.isNone)=false:=by rfl) :
  wpAny M A (callWith pos (.type T) [] (backTo pos (starEach [e] env)) (backToKw pos (keywordEach kws env))) Q E s:=by
 unfold callWith;refine Qa (QS (Xn (show wpAny M A (evalArgs _ true _ _) (λa s1=>wpAny M A (call (.type T) a.pos a.kw) Q E s1) E s from ?_) (λa s1 h1=>Qa (wpAny_standAt ?_)) λ_ _ x=>x))
 ·rw[he]at h ⊢;exact evalArgs_kwB ha h
 simp only[hp,hk,Bool.or_false];refine Qa (Qf ?_);exact Qa (Xn h1 (λr s2 hr=>Qa (QS (wpAny_point (Qf hr)))) λ_ _ x=>x)
theorem tV {a b:Expr} {ta tk:TA} {p pos kp:Pos} (hg:Gl X "enumerate") (hm:X.mg "enumerate" = none) (ha:PA X [a] ta) (hb:PK X [⟨some "start", b,kp⟩] tk) (he:∀pos,backTo pos (starEach [a] X.env)=(false,eval a X.env)::backTo pos (starEach [] X.env):=by intro pos;rfl) :
  PI X (.Tuple elts k tpos) (.Call (.Name "enumerate" p) [a] [⟨some "start", b,kp⟩] pos) (yC X.K ta tk):=by
 intro pins s σ H R I h;refine wpAny_Call_Name_kw (ck I hg hm boot_enumerate ?_);refine jU (thn (ha pos pins s σ H _ I h) λus s1 ⟨vs,H1,I1,r1,q1⟩=>thn (hb pos pins s1 σ H1 _ I1 q1) λws s2 ⟨zs,H2,I2,rz,q2⟩=>?_) (he pos) (by rw[he pos];rfl);obtain⟨l,n,e1,e2,⟨n0,n1⟩,⟨xs,hq⟩,q⟩:=q2;subst e1 e2
 cases r1 with
 | cons r rr =>
 cases rr;cases r;obtain⟨u,e,ru⟩:=dy rz;subst e;obtain⟨tc,e⟩:=ru;subst e;obtain⟨its,rv,pl,hz⟩:=I2.list hq;refine p9 (c:=n) (tc:=tc) (by unfold Builtin.SmallTypes.fitsIndex;simp;omega) pl.isList λh' b1 b2 b4=>?_;refine wpAny_pyIter_enum b1 ?_;have I3:Inv X pins σ H2 { s2 with heap:=h' }:=I2.kept (t':=s2.toks) b4;refine⟨s2.heap.objs.size+1,[s2.heap.objs.size+1,s2.heap.objs.size],_,_,H2,rfl,I3,oY l (s2.heap.objs.size+1) s2.heap.objs.size n (by show @Ne Nat _ _;exact om5),⟨⟨_,by rw[show n+((0:Nat):Int)=n from by omega];exact b1⟩,b2⟩,λb hb=>?_,q⟩;have z:b=s2.heap.objs.size+1\/b=s2.heap.objs.size:=by simpa using hb
 have hle:s2.heap.objs.size<=b:=by
  rcases z with z|z
  ·rw[z];exact Nat.le_succ _
  rw[z];exact Qh _
 exact I2.fpOk hle (I2.hok.fresh hle)
end
theorem sD {a:Addr} {n:Int} {xs:List V} {g:TG} {tb:TS} {D:Ends} {σ:St} {H:Hp} (Pv:Nat->St->Hp->Prop) (h0:Pv 0 σ H) (hl:∀i σ H,i<=xs.length->Pv i σ H->SqL K H a xs)
  (hs:∀i x σ H T,xs[i]?=some x->Pv i σ H->H T=none->g (.ref T) σ (upd H T (.tup [.int (n+(i:Nat)),x])) λσ2 H2=>tb { D with nx:=Pv (i+1),ct:=Pv (i+1),bk:=D.nx } σ2 H2) (hd:∀σ H,Pv xs.length σ H->D.nx σ H) :
  ∃W:Nat->Nat->St->Hp->Prop,(∃m,W 0 m σ H)/\∀i m σ H,W i m σ H ->
   ((vd K a n).stop i H/\D.nx σ H)\/((vd K a n).go i H/\∃N:St->Hp->Prop,(∀σ' H',N σ' H'->∃m',m'<m/\W (i+1) m' σ' H')/\∀x H',(vd K a n).yld i H x H'->g x σ H' λσ2 H2=>tb { D with nx:=N,ct:=N,bk:=D.nx } σ2 H2):=by
 refine⟨λi m σ H=>m=xs.length-i/\i<=xs.length/\Pv i σ H,⟨xs.length,by simp,QM _,h0⟩,?_⟩;rintro i m σ H ⟨rfl,hi,p⟩;have q:=hl i σ H hi p;by_cases hlt:i<xs.length
 ·refine .inr ⟨⟨xs,xs[i],q,by simp[hlt]⟩,Pv (i+1),λσ' H' p'=>⟨xs.length-(i+1),by exact om6 hlt,rfl,hlt,p'⟩,λx H' y=>?_⟩;obtain⟨T,v,hT,ex,eH,y⟩:=y;subst ex eH;exact hs i v σ H T (y xs q) p hT
 have e:i=xs.length:=by exact om0 hi hlt
 subst e;exact .inl ⟨⟨xs,q,Qh _⟩,hd σ H p⟩
theorem pZ {H1:Hp} {D:Addr} {σ0:St} {g:TG} {te:TE} {tt:TT} {QD:Hp->Prop} {a:Addr} {xs:List V} (Pv:Nat->Hp->List V->Prop) (h0:Pv 0 (upd H1 D (.lst [])) []) (hD:∀i H ys,Pv i H ys->H D=some (.lst ys)/\SqL K H a xs)
  (hs:∀i x H ys,xs[i]?=some x->Pv i H ys->g x σ0 H λσ2 H2=>wk σ0 σ2/\tt σ2 H2 λb H3=>if b=true then te σ2 H3 (bM Pv xs.length D i ys) else ∃m',m'<xs.length-i/\(m'=xs.length-(i+1)/\i+1<=xs.length/\Pv (i+1) H3 ys)) (hd:∀H ys,Pv xs.length H ys->QD H) :
  ∃W:Nat->Nat->Hp->List V->Prop,(∃m,W 0 m (upd H1 D (.lst [])) [])/\∀i m H ys,W i m H ys->H D=some (.lst ys)/\(((Itl K a).stop i H/\QD H)\/((Itl K a).go i H/\∀x H',(Itl K a).yld i H x H'->g x σ0 H' λσ2 H2=>wk σ0 σ2/\tt σ2 H2 λb H3 =>
   if b=true then te σ2 H3 λv H4=>H4 D=some (.lst ys)/\ys.length<sizeLine/\∃m',m'<m/\W (i+1) m' (upd H4 D (.lst (ys++[v]))) (ys++[v]) else ∃m',m'<m/\W (i+1) m' H3 ys)):=by
 refine⟨λi m H ys=>m=xs.length-i/\i<=xs.length/\Pv i H ys,⟨xs.length,by simp,QM _,h0⟩,?_⟩;rintro i m H ys ⟨rfl,hi,p⟩;obtain⟨d1,d2⟩:=hD i H ys p;refine⟨d1,?_⟩;by_cases hlt:i<xs.length
 ·refine .inr ⟨⟨xs,xs[i],d2,by simp[hlt]⟩,λx H' y=>?_⟩;obtain⟨e,y⟩:=y;subst e;exact hs i x _ ys (y xs d2) p
 have e:i=xs.length:=by exact om0 hi hlt
 subst e;exact .inl ⟨⟨xs,d2,Qh _⟩,hd H ys p⟩
theorem u3 {xs:List V} {a:Nat} (h:a<=xs.length):mN xs (some (a:Int)) none=xs.drop a:=by
 unfold mN;rw[HT.qq,HT.nN,Nat.min_eq_left h,Qs (by rw[Xc];exact om1)]
theorem yH {xs:List V} {a:Nat} (h:a<=xs.length):mN xs none (some (a:Int))=xs.take a:=by
 unfold mN;rw[HT.qq,HT.nN,Nat.min_eq_left h];simp
theorem uW {x:V} (h:cL x=true):eqV x x=true:=by
 cases x <;> first|(simp[eqV];done)|(simp[cL]at h;done)|simp_all [eqV,cL]
theorem vb (n:Nat):((List.range n).all λ_=>true)=true:=QJ.mpr λ_ _=>rfl
section
variable {K:PySem.W.Frag} {H:Hp} {Q:VK}
theorem jK {n:Nat} {x:V} (h:cL x=true):EqD K H n x x true:=by
 have q:=EqD.flat (K:=K) (H:=H) (n:=n) h h;rwa [uW h]at q
variable {xs ys:List V}
theorem uV {n:Nat} {a b:Addr} (h1:SqL K H a xs) (h2:SqL K H b ys) (hl:xs.length=ys.length) (hi:∀(j:Nat) x y,xs[j]?=some x->ys[j]?=some y->EqD K H n x y true):EqD K H (n+1) (.ref a) (.ref b) true:=by
 by_cases e:a=b
 ·subst e;exact .same
 have q:=EqD.lists (e:=λ_=>true) h1 h2 hl hi e;rwa [vb]at q
theorem sE {n:Nat} (f:xs.all cL=true):∀(j:Nat) x y,xs[j]?=some x->xs[j]?=some y->EqD K H n x y true:=λj x y e1 e2=>by
 rw[e1]at e2;cases e2;exact jK (QJ.mp f x (Qg e1))
theorem BR {a b:Addr} (h1:SqT K H a xs) (h2:SqT K H b ys) (hl:xs.length=ys.length) (hi:∀(j:Nat) x y,xs[j]?=some x->ys[j]?=some y->EqD K H 8 x y true) (q:Q (.bl false) H):xK K true (.ref a) (.ref b) H Q:=by
 refine⟨a,b,xs,ys,λ_=>true,rfl,rfl,h1,h2,hi,?_⟩;rw[vb,hl,beq_self_eq_true];exact q
end
end L2
set_option maxHeartbeats 1000000
namespace Tm
open PySem PyProof.Rows
def mI:Bool->Keyed->Array Keyed->Nat->Nat->Nat->StateT SortSt Sem (Option Nat):=sortPriv% PySem.Builtin.gallop
def on:Array Keyed->Array Keyed->StateT SortSt Sem (Array Keyed):=sortPriv% PySem.Builtin.mergeLo
def oo:Array Keyed->Array Keyed->StateT SortSt Sem (Array Keyed):=sortPriv% PySem.Builtin.mergeHi
def iB (κ:KeyKind) (kd:SortKind) (prog:Program) (w:World) (A:Around) (s:Shared):Prop :=
 ∀(E:Value->Shared->Prop) (x y:Value) (a b:κ.α) (Q:Bool->Shared->Prop),κ.keyOf x=some a->κ.keyOf y=some b->Q (κ.blt a b) s->wpAny (model prog w) A (keyLt' kd x y) Q E s
def kv (κ:KeyKind) (p:Keyed):κ.α:=(κ.keyOf p.1).getD κ.dflt
def Hk (κ:KeyKind) (p:Keyed):Prop:=∃a,κ.keyOf p.1=some a
variable {prog:Program} {w:World} {A:Around} {E:Value->Shared->Prop} {s:Shared} {κ:KeyKind} {kd:SortKind}
section
theorem aM {σ α:Type} {M:Model} {Q:α->σ->Prop} {st:σ} {c:Prop} [Decidable c] {t e:StateT σ Sem α} (h:c) (q:wpS M A E s t Q st):wpS M A E s (if c then t else e) Q st:=by rw[Qz h];exact q
theorem aJ {σ α:Type} {M:Model} {Q:α->σ->Prop} {st:σ} {c:Prop} [Decidable c] {t e:StateT σ Sem α} (h:¬c) (q:wpS M A E s e Q st):wpS M A E s (if c then t else e) Q st:=by rw[QA h];exact q
variable {i j base n hint:Nat}
theorem bT (h:i=j):(i==j)=true:=by simp[h]
theorem bF (h:¬i=j):¬(i==j)=true:=by simpa using h
variable {Q:Option Bool->SortSt->Prop} {x y p key:Keyed} {st:SortSt}
theorem iQ (hL:iB κ kd prog w A s) (hk:kindOf st=kd) (hx:Hk κ x) (hy:Hk κ y) (h:Q (some (κ.blt (kv κ x) (kv κ y))) st):wpS (model prog w) A E s (lt' x y) Q st:=by
 obtain⟨a,ha⟩:=hx;obtain⟨b,hb⟩:=hy;rw[lt'_eq];refine Qt (wpS_get ?_);rw[hk];refine Qt (wpS_lift (wpAny_attempt (hL _ _ _ _ _ _ ha hb ⟨rfl,?_⟩)));unfold kv at h;rw[ha,hb]at h;exact Qy h
variable {arr:Array Keyed}
theorem aX {Q:Keyed->SortSt->Prop} (h:arr[i]?=some p) (q:Q p st):wpS (model prog w) A E s (elem' arr i) Q st:=by
 rw[elem'_eq,h];exact Qy q
def bey (κ:KeyKind) (left:Bool) (key p:Keyed):Bool:=if left then κ.blt (kv κ p) (kv κ key) else !κ.blt (kv κ key) (kv κ p)
theorem cW (hL:iB κ kd prog w A s) {left:Bool} {b:Bool} (hk:kindOf st=kd) (hkey:Hk κ key)
  (hP:∃p,arr[j]?=some p/\Hk κ p/\bey κ left key p=b) (h:Q (some b) st) :
  wpS (model prog w) A E s (elem' arr j >>= λx=>if left=true then lt' x key else lt' key x >>= λr=>pure (Option.map (λz=>!z) r)) Q st:=by
 obtain⟨p,hp,hkp,rfl⟩:=hP;refine Qt (aX hp ?_);unfold bey at h
 cases left with
 | true=>exact iQ hL hk hkp hkey h
 | false=>exact Qt (iQ hL hk hkey hkp (Qy h))
theorem oV (hL:iB κ kd prog w A s) {left:Bool} {Q:Option Nat->SortSt->Prop} (P:Nat->Bool) (hk:kindOf st=kd) (hkey:Hk κ key)
  (hP:∀i,i<n->∃p,arr[base+i]?=some p/\Hk κ p/\bey κ left key p=P i) (mono:∀i j,i<=j->j<n->P j=true->P i=true) (hh:hint<n)
  (h:∀k,k<=n->(∀i,i<k->P i=true)->(∀i,k<=i->i<n->P i=false)->Q (some k) st):wpS (model prog w) A E s (mI left key arr base n hint) Q st:=by
 have monoF:∀i j,i<=j->j<n->P i=false->P j=false:=λi j h1 h2 h3=>by
  cases e:P j with
  | false=>rfl
  | true=>rw[mono i j h1 h2 e]at h3;cases h3
 unfold mI;refine Qt (cW hL hk hkey (hP hint hh) ?_)
 have fin:∀(lo hi:Nat) (F:(Option (Option Nat) × Nat × Nat)->StateT SortSt Sem (Option Nat)) (body:Nat->(Option (Option Nat) × Nat × Nat)->StateT SortSt Sem (ForInStep (Option (Option Nat) × Nat × Nat))),lo<=hi->hi<=n->(∀i,i<lo->P i=true)->(∀i,hi<=i->i<n->P i=false) ->
   (∀l k,F (none,l,k)=pure (some k))->(∀x l k (R:ForInStep (Option (Option Nat) × Nat × Nat)->SortSt->Prop),l<=k->k<=n->(l=k->R (.done (none,l,k)) st)->(l<k->P (l+(k-l) / 2)=true->R (.yield (none,l+(k-l) / 2+1,k)) st)->(l<k->P (l+(k-l) / 2)=false->R (.yield (none,l,l+(k-l) / 2)) st)->wpS (model prog w) A E s (body x (none,l,k)) R st) ->
   wpS (model prog w) A E s (forIn [0:n] (none,lo,hi) body >>= F) Q st:=λlo hi F body h1 h2 h3 h4 hF hb=>by
  refine Qt (wpS_mono (Xv (I:=λx c st'=>st'=st/\∃l k,c=(none,l,k)/\l<=k/\k<=n/\k-l<=n-x/\(∀i,i<l->P i=true)/\(∀i,k<=i->i<n->P i=false))
   (Q:=λc st'=>st'=st/\∃k,c=(none,k,k)/\k<=n/\(∀i,i<k->P i=true)/\(∀i,k<=i->i<n->P i=false)) ?_ ?_ ⟨rfl,lo,hi,rfl,h1,h2,by exact CY h1 h2,h3,h4⟩) ?_)
  ·rintro x c st' _ hx ⟨rfl,l,k,rfl,a1,a2,a3,a4,a5⟩;refine hb x l k _ a1 a2 (λe=>?_) (λe p=>?_) (λe p=>?_)
   ·subst e;exact⟨rfl,l,rfl,a2,a4,a5⟩
   ·exact⟨rfl,_,k,rfl,by exact CW e,a2,zo a3,λi hi=>mono i _ (by exact CV hi) (by exact CU a2 e) p,a5⟩
   exact⟨rfl,l,_,rfl,by exact CS,by exact CQ a2 e,zn a3 e,a4,λi h1 h2=>monoF _ i h1 h2 p⟩
  ·rintro c st' ⟨rfl,l,k,rfl,a1,a2,a3,a4,a5⟩;have:l=k:=by exact zT a1 a3
   subst this;exact⟨rfl,l,rfl,a2,a4,a5⟩
  rintro c st' ⟨rfl,k,rfl,a2,a4,a5⟩;rw[hF];exact Qy (h k a2 a4 a5)
 dsimp only
 cases hp:P hint with
 | true =>
  refine aM rfl ?_
  refine Qt (wpS_mono (Xv (I:=λx c st'=>st'=st/\∃l o,c=(none,l,o)/\l<o/\x+1<=o/\hint+l<n/\P (hint+l)=true)
   (Q:=λc st'=>st'=st/\∃l o,c=(none,l,o)/\l<o/\hint+l<n/\P (hint+l)=true/\(o<n-hint->P (hint+o)=false)) ?_ ?_ ⟨rfl,0,1,rfl,by omega,by omega,by exact CP hh,hp⟩) ?_)
  ·rintro x c st' _ hx ⟨rfl,l,o,rfl,a1,a2,a3,a4⟩;dsimp only;by_cases c1:o>=n-hint
   ·refine aM c1 ?_;exact Qy ⟨rfl,l,o,rfl,a1,a3,a4,λz=>by omega⟩
   refine aJ c1 ?_;refine Qt (cW hL hk hkey (hP (hint+o) (by exact zQ hh c1)) ?_);dsimp only
   cases e:P (hint+o) with
   | true =>
    refine aJ Qn ?_;exact Qy ⟨rfl,o,2*o+1,rfl,by exact zM,by omega,by exact zQ hh c1,e⟩
   | false =>
   refine aM rfl ?_;exact Qy ⟨rfl,l,o,rfl,a1,a3,a4,λ_=>e⟩
  ·rintro c st' ⟨rfl,l,o,rfl,a1,a2,a3,a4⟩;exact⟨rfl,l,o,rfl,a1,a3,a4,λz=>by omega⟩
  rintro c st' ⟨rfl,l,o,rfl,a1,a3,a4,a5⟩;dsimp only;refine fin _ _ _ _ (by exact CO hh a1 a3) (by exact CM hh) (λi hi=>mono i (hint+l) (by exact CL hi) a3 a4) (λi h1 h2=>?_) (λl k=>rfl) ?_
  ·by_cases z:o<n-hint
   ·exact monoF (hint+o) i (by exact CK hh h1 z) h2 (a5 z)
   omega
  intro x l k R h1 h2 q1 q2 q3;dsimp only;by_cases c:l>=k
  ·refine aM c ?_;exact Qy (q1 (by exact yi h1 c))
  refine aJ c ?_;refine Qt (cW hL hk hkey (hP _ (by exact zL h2 c)) ?_);dsimp only
  cases e:P (l+(k-l) / 2) with
  | true=>refine aM rfl ?_;exact Qy (q2 (by exact vK c) e)
  | false=>refine aJ Qn ?_;exact Qy (q3 (by exact vK c) e)
 | false =>
 refine aJ Qn ?_
 refine Qt (wpS_mono (Xv (I:=λx c st'=>st'=st/\∃l o,c=(none,l,o)/\l<o/\x+1<=o/\l<=hint/\P (hint-l)=false)
  (Q:=λc st'=>st'=st/\∃l o,c=(none,l,o)/\l<o/\l<=hint/\P (hint-l)=false/\(o<hint+1->P (hint-o)=true)) ?_ ?_ ⟨rfl,0,1,rfl,by omega,by omega,by exact yh,hp⟩) ?_)
 ·rintro x c st' _ hx ⟨rfl,l,o,rfl,a1,a2,a3,a4⟩;dsimp only;by_cases c1:o>=hint+1
  ·refine aM c1 ?_;exact Qy ⟨rfl,l,o,rfl,a1,a3,a4,λz=>by omega⟩
  refine aJ c1 ?_;refine Qt (cW hL hk hkey (hP (hint-o) (by exact CJ hh a1 c1)) ?_);dsimp only
  cases e:P (hint-o) with
  | true =>
   refine aM rfl ?_;exact Qy ⟨rfl,l,o,rfl,a1,a3,a4,λ_=>e⟩
  | false =>
  refine aJ Qn ?_;exact Qy ⟨rfl,o,2*o+1,rfl,by exact zM,by omega,by exact CI c1,e⟩
 ·rintro c st' ⟨rfl,l,o,rfl,a1,a2,a3,a4⟩;exact⟨rfl,l,o,rfl,a1,a3,a4,λz=>by omega⟩
 rintro c st' ⟨rfl,l,o,rfl,a1,a3,a4,a5⟩;dsimp only;refine fin _ _ _ _ (by exact CG a1 a3) (by exact CF hh a3) (λi hi=>?_) (λi h1 h2=>monoF (hint-l) i h1 h2 a4) (λl k=>rfl) ?_
 ·by_cases z:o<hint+1
  ·exact mono i (hint-o) (by exact CD hi z) (by exact CC hh a1 z) (a5 z)
  omega
 intro x l k R h1 h2 q1 q2 q3;dsimp only;by_cases c:l>=k
 ·refine aM c ?_;exact Qy (q1 (by exact yi h1 c))
 refine aJ c ?_;refine Qt (cW hL hk hkey (hP _ (by exact zL h2 c)) ?_);dsimp only
 cases e:P (l+(k-l) / 2) with
 | true=>refine aM rfl ?_;exact Qy (q2 (by exact vK c) e)
 | false=>refine aJ Qn ?_;exact Qy (q3 (by exact vK c) e)
end
section
variable {κ:KeyKind}
def le (κ:KeyKind) (p q:Keyed):Prop:=κ.kle (kv κ p) (kv κ q)
structure MI (κ:KeyKind) (L o x y:List Keyed):Prop where
 perm:(o++(x++y)).Perm L
 so:o.Pairwise (le κ)
 sx:x.Pairwise (le κ)
 sy:y.Pairwise (le κ)
 ox:∀p∈o,∀q∈x,le κ p q
 oy:∀p∈o,∀q∈y,le κ p q
 last:∀q∈y,∀l,x.getLast?=some l->le κ q l
variable {L o x2 y x y2:List Keyed}
theorem MI.takeXs {x1:List Keyed} (h:MI κ L o (x1++x2) y) (hq:∀p∈x1,∀q∈y,le κ p q):MI κ L (o++x1) x2 y:=by
 have sx:=Xb.mp h.sx;refine⟨?_,Xb.mpr ⟨h.so,sx.1,λp hp q hq=>h.ox p hp q (QH.mpr (.inl hq))⟩,sx.2.1,h.sy,λp hp q hq'=>?_,λp hp q hq'=>?_,λq hq' l hl=>?_⟩
 ·have:=h.perm;rwa [QZ,<-QZ o]at this
 ·rcases QH.mp hp with a|a
  ·exact h.ox p a q (QH.mpr (.inr hq'))
  exact sx.2.2 p a q hq'
 ·rcases QH.mp hp with a|a
  ·exact h.oy p a q hq'
  exact hq p a q hq'
 refine h.last q hq' l ?_;rw[List.getLast?_append,hl];rfl
theorem MI.takeYs {y1:List Keyed} (h:MI κ L o x (y1++y2)) (hq:∀q∈y1,∀p∈x,le κ q p):MI κ L (o++y1) x y2:=by
 have sy:=Xb.mp h.sy;refine⟨?_,Xb.mpr ⟨h.so,sy.1,λp hp q hq=>h.oy p hp q (QH.mpr (.inl hq))⟩,h.sx,sy.2.1,λp hp q hq'=>?_,λp hp q hq'=>?_,λq hq' l hl=>?_⟩
 ·refine List.Perm.trans ?_ h.perm;rw[QZ];refine Xx _ ?_;rw[<-QZ,<-QZ];exact List.Perm.append_right _ List.perm_append_comm
 ·rcases QH.mp hp with a|a
  ·exact h.ox p a q hq'
  exact hq p a q hq'
 ·rcases QH.mp hp with a|a
  ·exact h.oy p a q (QH.mpr (.inr hq'))
  exact sy.2.2 p a q hq'
 exact h.last q (QH.mpr (.inr hq')) l hl
variable {p r l:Keyed}
theorem le_trans {q:Keyed} (a:le κ p q) (b:le κ q r):le κ p r:=KeyOrd.kle_trans a b
theorem fB {q:Keyed} (s:(p::x).Pairwise (le κ)) (h:le κ q p) (hr:r∈p::x):le κ q r:=by
 rcases QQ.mp hr with e|e
 ·rw[e];exact h
 exact le_trans h ((List.pairwise_cons.mp s).1 r e)
theorem MI.takeY {q:Keyed} (h:MI κ L o (p::x) (q::y)) (c:le κ q p):MI κ L (o++[q]) (p::x) y :=
 MI.takeYs (y1:=[q]) h λr hr s hs=>by
  have e:r=q:=by simpa using hr
  subst e;exact fB h.sx c hs
theorem MI.takeX {q:Keyed} (h:MI κ L o (p::x) (q::y)) (c:le κ p q):MI κ L (o++[p]) x (q::y) :=
 MI.takeXs (x1:=[p]) h λr hr s hs=>by
  have e:r=p:=by simpa using hr
  subst e;exact fB h.sy c hs
def Srt (κ:KeyKind) (L r:List Keyed):Prop:=r.Perm L/\r.Pairwise (le κ)
theorem MI.endY (h:MI κ L o x []):Srt κ L (o++x):=⟨by simpa using h.perm,Xb.mpr ⟨h.so,h.sx,h.ox⟩⟩
theorem MI.endX (h:MI κ L o [] y):Srt κ L (o++y):=⟨by simpa using h.perm,Xb.mpr ⟨h.so,h.sy,h.oy⟩⟩
theorem MI.lastX (h:MI κ L o [l] y):Srt κ L (o++y++[l]):=by
 refine⟨List.Perm.trans ?_ h.perm,Xb.mpr ⟨Xb.mpr ⟨h.so,h.sy,h.oy⟩,by simp,λp hp q hq=>?_⟩⟩
 ·rw[QZ];exact Xx _ List.perm_append_comm
 have e:q=l:=by simpa using hq
 subst e;rcases QH.mp hp with a|a
 ·exact h.ox p a q (by simp)
 exact h.last p a q rfl
end
section
structure Gs (st st':SortSt):Prop where
 kind:kindOf st'=kindOf st
 arr:arrOf st'=arrOf st
 pend:pendingOf st'=pendingOf st
 fail:failedOf st'=failedOf st
theorem Gs.refl (st:SortSt):Gs st st:=⟨rfl,rfl,rfl,rfl⟩
theorem Gs.trans {a b c:SortSt} (x:Gs a b) (y:Gs b c):Gs a c:=⟨y.kind.trans x.kind,y.arr.trans x.arr,y.pend.trans x.pend,y.fail.trans x.fail⟩
def qp:Nat->StateT SortSt Sem Unit:=sortPriv% PySem.Builtin.setMinGallop
variable {g ia ib n m i j:Nat}
theorem dO {st:SortSt} {Q:Unit->SortSt->Prop} (h:∀st',Gs st st'->Q () st'):wpS (model prog w) A E s (qp g) Q st:=by
 unfold qp;exact wpS_modify (h _ ⟨rfl,rfl,rfl,rfl⟩)
theorem hU (a:Array Keyed) (i:Nat):(a.extract i a.size).toList=a.toList.drop i:=by
 have:(a.toList.drop i).length<=a.size-i:=by simp
 simpa using Qs this
theorem iN (a:Array Keyed) (i k:Nat):(a.extract i (i+k)).toList=(a.toList.drop i).take k:=by
 simp
theorem aU {a:Array Keyed} {i:Nat} (h:i<a.size):∃p,a[i]?=some p/\a.toList.drop i=p::a.toList.drop (i+1)/\p∈a.toList :=
 ⟨a[i],QF h,by rw[List.drop_eq_getElem_cons (by simpa using h)];simp,by simp⟩
structure LJ (κ:KeyKind) (a b:Array Keyed) (n:Nat) (out:Array Keyed) (ia ib:Nat):Prop where
 mi:MI κ (a.toList++b.toList) out.toList (a.toList.drop ia) (b.toList.drop ib)
 la:ia<=a.size
 lb:ib<=b.size
 lo:out.size=ia+ib
 n:n<=out.size
variable {a b:Array Keyed}
theorem LJ.less {out:Array Keyed} (h:LJ κ a b n out ia ib) (hm:m<=n):LJ κ a b m out ia ib:=⟨h.mi,h.la,h.lb,h.lo,QP hm h.n⟩
theorem LJ.doneB {out:Array Keyed} (h:LJ κ a b n out ia ib) (e:ib=b.size):Srt κ (a.toList++b.toList) (out++a.extract ia a.size++b.extract ib b.size).toList:=by
 have m:=h.mi;have d:b.toList.drop ib=[]:=by rw[e];simp
 rw[d]at m;rw[QG,QG,hU,hU,d,List.append_nil];exact m.endY
theorem LJ.doneA {out:Array Keyed} (h:LJ κ a b n out ia ib) (e:ia=a.size):Srt κ (a.toList++b.toList) (out++a.extract ia a.size++b.extract ib b.size).toList:=by
 have m:=h.mi;have d:a.toList.drop ia=[]:=by rw[e];simp
 rw[d]at m;rw[QG,QG,hU,hU,d,List.append_nil];exact m.endX
theorem LJ.lastA {out:Array Keyed} (h:LJ κ a b n out ia ib) (e:ia+1=a.size):Srt κ (a.toList++b.toList) (out++b.extract ib b.size++a.extract ia a.size).toList:=by
 have m:=h.mi;obtain⟨p,_,d,_⟩:=aU (a:=a) (i:=ia) (by exact CB e);have d2:a.toList.drop (ia+1)=[]:=by rw[e];simp
 rw[d2]at d;rw[d]at m;rw[QG,QG,hU,hU,d];exact m.lastX
variable {p key:Keyed}
theorem LJ.pushB {out:Array Keyed} {q:Keyed} (h:LJ κ a b n out ia ib) (ha:a[ia]?=some p) (hb:b[ib]?=some q) (c:le κ q p):LJ κ a b (n+1) (out.push q) ia (ib+1):=by
 have lb:=(Q6.mp hb).1;have la:=(Q6.mp ha).1;obtain⟨p',e1,d1,_⟩:=aU la;obtain⟨q',e2,d2,_⟩:=aU lb;rw[ha]at e1;rw[hb]at e2;cases e1;cases e2;have m:=h.mi;rw[d1,d2]at m;have m:=m.takeY c;rw[<-d1]at m;refine⟨by rw[Array.toList_push];exact m,h.la,lb,by rw[Array.size_push,h.lo];exact CA,by rw[Array.size_push];have:=h.n;exact rO this⟩
theorem LJ.pushA {out:Array Keyed} {q:Keyed} (h:LJ κ a b n out ia ib) (ha:a[ia]?=some p) (hb:b[ib]?=some q) (c:le κ p q):LJ κ a b (n+1) (out.push p) (ia+1) ib:=by
 have lb:=(Q6.mp hb).1;have la:=(Q6.mp ha).1;obtain⟨p',e1,d1,_⟩:=aU la;obtain⟨q',e2,d2,_⟩:=aU lb;rw[ha]at e1;rw[hb]at e2;cases e1;cases e2;have m:=h.mi;rw[d1,d2]at m;have m:=m.takeX c;rw[<-d2]at m;refine⟨by rw[Array.toList_push];exact m,la,h.lb,by rw[Array.size_push,h.lo];exact Cz,by rw[Array.size_push];have:=h.n;exact rO this⟩
theorem LJ.runA {out:Array Keyed} {k:Nat} {q:Keyed} (h:LJ κ a b n out ia ib) (hb:b[ib]?=some q) (hk:ia+k<=a.size) (c:∀i,i<k->∀p,a[ia+i]?=some p->le κ p q):LJ κ a b n (out++a.extract ia (ia+k)) (ia+k) ib:=by
 have lb:=(Q6.mp hb).1;obtain⟨q',e2,d2,_⟩:=aU lb;rw[hb]at e2;cases e2;have m:=h.mi;have sy:=m.sy;rw[<-Xf k (a.toList.drop ia)]at m
 have m:=m.takeXs λp hp r hr=>by
  obtain⟨i,hi,e⟩:=Qr.mp hp;rw[Qv]at hi;have e3:=Qb (l:=(a.toList.drop ia).take k) (i:=i) (by rw[Qv];exact zK hi);rw[e,XS,Qz (by exact vJ hi),XT,Qx]at e3;rw[d2]at hr sy;exact fB sy (c i (by exact vJ hi) p e3) hr
 rw[List.drop_drop]at m;have sz:(a.extract ia (ia+k)).size=k:=by rw[Array.size_extract];exact zJ hk
 refine⟨by rw[QG,iN];exact m,hk,h.lb,by rw[XE,sz,h.lo];exact Cy,by rw[XE];have:=h.n;exact zI sz this⟩
theorem LJ.runB {out:Array Keyed} {k:Nat} (h:LJ κ a b n out ia ib) (ha:a[ia]?=some p) (hk:ib+k<=b.size) (c:∀i,i<k->∀q,b[ib+i]?=some q->le κ q p):LJ κ a b n (out++b.extract ib (ib+k)) ia (ib+k):=by
 have la:=(Q6.mp ha).1;obtain⟨p',e2,d2,_⟩:=aU la;rw[ha]at e2;cases e2;have m:=h.mi;have sx:=m.sx;rw[<-Xf k (b.toList.drop ib)]at m
 have m:=m.takeYs λq hq r hr=>by
  obtain⟨i,hi,e⟩:=Qr.mp hq;rw[Qv]at hi;have e3:=Qb (l:=(b.toList.drop ib).take k) (i:=i) (by rw[Qv];exact zK hi);rw[e,XS,Qz (by exact vJ hi),XT,Qx]at e3;rw[d2]at hr sx;exact fB sx (c i (by exact vJ hi) q e3) hr
 rw[List.drop_drop]at m;have sz:(b.extract ib (ib+k)).size=k:=by rw[Array.size_extract];exact zJ hk
 refine⟨by rw[QG,iN];exact m,h.la,hk,by rw[XE,sz,h.lo];exact Cw,by rw[XE];have:=h.n;exact zI sz this⟩
theorem qK (s:a.toList.Pairwise (le κ)) {q:Keyed} (h:i<=j) (hi:a[i]?=some p) (hj:a[j]?=some q):le κ p q:=by
 by_cases e:i=j
 ·subst e;rw[hi]at hj;cases hj;exact XM _
 have li:=(Q6.mp hi).1;have lj:=(Q6.mp hj).1;have:=(List.pairwise_iff_getElem.mp s) i j (by simpa using li) (by simpa using lj) (by exact zH h e);rw[QF li]at hi;rw[QF lj]at hj;cases hi;cases hj;simpa using this
theorem ff (hL:iB κ kd prog w A s) {st:SortSt} {left:Bool} {a:Array Keyed} {base n hint:Nat} {Q:Option Nat->SortSt->Prop} (hk:kindOf st=kd) (hkey:Hk κ key) (ha:∀p∈a.toList,Hk κ p) (hn:base+n<=a.size)
  (sa:∀i j p q,base<=i->i<=j->j<base+n->a[i]?=some p->a[j]?=some q->le κ p q) (hh:hint<n)
  (h:∀k,k<=n->(∀i,i<k->∀p,a[base+i]?=some p->bey κ left key p=true)->(∀i,k<=i->i<n->∀p,a[base+i]?=some p->bey κ left key p=false)->Q (some k) st):wpS (model prog w) A E s (mI left key a base n hint) Q st:=by
 refine oV hL (λi=>match a[base+i]? with|some p=>bey κ left key p|none=>false) hk hkey (λi hi=>?_) (λi j h1 h2 h3=>?_) hh (λk h1 h2 h3=>h k h1 (λi hi p e=>?_) (λi hi hj p e=>?_))
 ·have:base+i<a.size:=by exact zF hn hi
  obtain⟨p,e,_,m⟩:=aU this;exact⟨p,e,ha p m,by rw[e]⟩
 ·obtain⟨p,e,_⟩:=aU (a:=a) (i:=base+i) (by exact Cv hn h1 h2);obtain⟨q,e2,_⟩:=aU (a:=a) (i:=base+j) (by exact zF hn h2);have l:=sa _ _ p q (by exact ud) (show base+i<=base+j by exact Cu h1) (by exact Ct h2) e e2;rw[e2]at h3;rw[e];dsimp only at h3 ⊢;unfold bey at h3 ⊢
  cases left with
  | true =>
   rw[Qz rfl]at h3 ⊢;exact KeyOrd.klt_of_kle_of_klt l h3
  | false =>
  rw[QA (by simp)]at h3 ⊢;have h3:κ.kle (kv κ q) (kv κ key):=by simpa[KeyOrd.kle] using h3
  have:=KeyOrd.kle_trans l h3;simpa[KeyOrd.kle] using this
 ·have:=h2 i hi;rwa [e]at this
 have:=h3 i hi hj;rwa [e]at this
theorem mT (h:bey κ false key p=true):le κ p key:=by
 unfold bey at h;rw[QA (by simp)]at h;simpa[le,KeyOrd.kle] using h
theorem mS (h:bey κ true key p=true):le κ p key:=by
 unfold bey at h;rw[Qz rfl]at h;exact KeyOrd.kle_of_klt h
theorem mU (h:bey κ false key p=false):le κ key p:=by
 unfold bey at h;rw[QA (by simp)]at h;exact KeyOrd.kle_of_klt (show κ.blt (kv κ key) (kv κ p)=true by simpa using h)
theorem mV (h:bey κ true key p=false):le κ key p:=by
 unfold bey at h;rw[Qz rfl]at h;exact h
end
section
theorem gN {σ α β:Type} {M:Model} {Q:α->σ->Prop} {st:σ} {m:StateT σ Sem α} (f:β->StateT σ Sem α) (I:β->Prop) (J:∀z,I z->wpS M A E s (f z) Q st) (h:(∀z,I z->wpS M A E s (f z) Q st)->wpS M A E s m Q st):wpS M A E s m Q st:=h J
@[reducible] def C_ (κ:KeyKind) (a b:Array Keyed) (st:SortSt) (x:Nat) (c:Option (Array Keyed) × Array Keyed × Nat × Nat × Nat) (st':SortSt):Prop:=Gs st st'/\∃out ia ib mg,c=(none,out,ia,ib,mg)/\LJ κ a b (x+1) out ia ib/\ia+1<a.size/\ib<b.size
@[reducible] def C9 (κ:KeyKind) (a b:Array Keyed) (st:SortSt)  (c:Option (Array Keyed) × Array Keyed × Nat × Nat × Nat) (st':SortSt):Prop:=Gs st st'/\∃r rest,c=(some r,rest)/\Srt κ (a.toList++b.toList) r.toList
@[reducible] def C8 (κ:KeyKind) (a b:Array Keyed) (st:SortSt) (x x':Nat) (c:Option (Array Keyed) × Array Keyed × Nat × Nat × Nat × Nat) (st':SortSt):Prop:=st'=st/\∃out ia ib ac bc,c=(none,out,ia,ib,ac,bc)/\LJ κ a b (x+1+x') out ia ib/\ia+1<a.size/\ib<b.size
@[reducible] def C7 (κ:KeyKind) (a b:Array Keyed) (st:SortSt) (x:Nat) (c:Option (Array Keyed) × Array Keyed × Nat × Nat × Nat × Nat) (st':SortSt):Prop:=st'=st/\((∃r rest,c=(some r,rest)/\Srt κ (a.toList++b.toList) r.toList)\/∃out ia ib ac bc,c=(none,out,ia,ib,ac,bc)/\LJ κ a b (x+1) out ia ib/\ia+1<a.size/\ib<b.size)
@[reducible] def C6 (κ:KeyKind) (a b:Array Keyed) (st:SortSt) (x x':Nat) (c:Option (Array Keyed) × Array Keyed × Nat × Nat × Nat × Nat × Nat) (st':SortSt):Prop:=Gs st st'/\∃out ia ib mg ac bc,c=(none,out,ia,ib,mg,ac,bc)/\LJ κ a b (x+1+x') out ia ib/\ia+1<a.size/\ib<b.size
@[reducible] def C5 (κ:KeyKind) (a b:Array Keyed) (st:SortSt) (x:Nat) (c:Option (Array Keyed) × Array Keyed × Nat × Nat × Nat × Nat × Nat) (st':SortSt):Prop:=Gs st st'/\((∃r rest,c=(some r,rest)/\Srt κ (a.toList++b.toList) r.toList)\/∃out ia ib mg ac bc,c=(none,out,ia,ib,mg,ac,bc)/\LJ κ a b (x+2) out ia ib/\ia+1<a.size/\ib<b.size)
theorem ni (hL:iB κ kd prog w A s) {st:SortSt} {a b:Array Keyed} {Q:Array Keyed->SortSt->Prop} (hk:kindOf st=kd) (ha:∀p∈a.toList,Hk κ p) (hb:∀p∈b.toList,Hk κ p)
  (na:1<=a.size) (nb:1<=b.size) (mi:MI κ (a.toList++b.toList) [] a.toList b.toList) (first:∀p∈a.toList,∀q,b[0]?=some q->le κ q p)
  (h:∀r st',Gs st st'->Srt κ (a.toList++b.toList) r.toList->Q r st'):wpS (model prog w) A E s (on a b) Q st:=by
 have sa:=mi.sx;have sb:=mi.sy;unfold on;refine Qt (wpS_lift (XR ⟨rfl,?_⟩));obtain⟨q0,hq0,_⟩:=aU (a:=b) (i:=0) (by exact uc nb);obtain⟨p0,hp0,_,mp0⟩:=aU (a:=a) (i:=0) (by exact uc na);have j0:LJ κ a b 0 #[] 0 0:=⟨by simpa using mi,by exact zE na,by exact zE nb,rfl,QM _⟩;have j1:=j0.pushB hp0 hq0 (first p0 mp0 q0 hq0);have j1:LJ κ a b 1 #[q0] 0 1:=j1;refine Qt (aX hq0 ?_);refine wpS_mono (Q:=λr st'=>Gs st st'/\Srt κ (a.toList++b.toList) r.toList) ?_ (λr st' z=>h r st' z.1 z.2);clear h
 extract_lets out0
 by_cases c1:1=b.size
 ·refine aM (bT c1) ?_;exact Qy ⟨.refl _,j1.doneB c1⟩
 refine aJ (bF c1) ?_;by_cases c2:0+1=a.size
 ·refine aM (bT c2) ?_;exact Qy ⟨.refl _,j1.lastA c2⟩
 refine aJ (bF c2) ?_;refine Qt (wpS_get ?_)
 extract_lets mg0
 refine Qt (wpS_mono (Xv (I:=C_ κ a b st)
  (Q:=C9 κ a b st) ?step ?fin ⟨.refl _,out0,0,1,mg0,rfl,j1,by exact Cs na c2,by exact Cr na nb c1 c2⟩) ?post)
 case post =>
  rintro c st' ⟨g,r,rest,rfl,hr⟩;exact Qy ⟨g,hr⟩
 case fin =>
  rintro c st' ⟨g,out,ia,ib,mg,rfl,j,l1,l2⟩;have:=j.n;have:=j.lo;omega
 case step =>
  rintro x c st1 _ hx ⟨g,out,ia,ib,mg,rfl,j,l1,l2⟩
  refine Qt (wpS_mono (Xv (I:=C8 κ a b st1 x)
   (Q:=C7 κ a b st1 x) ?step1 ?fin1 ⟨rfl,out,ia,ib,0,0,rfl,j,l1,l2⟩) ?post1)
  case fin1 =>
   rintro c st' ⟨rfl,out,ia,ib,ac,bc,rfl,j,l1,l2⟩;have:=j.n;have:=j.lo;omega
  case step1 =>
   clear j l1 l2;rintro x' c st' _ hx' ⟨rfl,out,ia,ib,ac,bc,rfl,j,l1,l2⟩;obtain⟨p,hp,_,mp⟩:=aU (a:=a) (i:=ia) (by exact yg l1);obtain⟨q,hq,_,mq⟩:=aU (a:=b) (i:=ib) l2;refine Qt (aX hq (Qt (aX hp (Qt (iQ hL (by rw[g.kind];exact hk) (hb q mq) (ha p mp) ?_)))));dsimp only
   cases e:κ.blt (kv κ q) (kv κ p) with
   | true =>
    refine aM rfl ?_;refine Qt (aX hq ?_);have j2:=j.pushB hp hq (KeyOrd.kle_of_klt e);by_cases d1:ib+1=b.size
    ·refine aM (bT d1) ?_;exact Qy ⟨rfl,.inl ⟨_,_,rfl,j2.doneB d1⟩⟩
    refine aJ (bF d1) ?_;by_cases d2:bc+1>=mg
    ·refine aM d2 ?_;exact Qy ⟨rfl,.inr ⟨_,_,_,_,_,rfl,j2.less (by omega),l1,by exact yf l2 d1⟩⟩
    refine aJ d2 ?_;exact Qy ⟨rfl,_,_,_,_,_,rfl,j2.less (by exact vI),l1,by exact yf l2 d1⟩
   | false =>
   refine aJ Qn ?_;refine Qt (aX hp ?_);have j2:=j.pushA hp hq e;by_cases d1:ia+1+1=a.size
   ·refine aM (bT d1) ?_;exact Qy ⟨rfl,.inl ⟨_,_,rfl,j2.lastA d1⟩⟩
   refine aJ (bF d1) ?_;by_cases d2:ac+1>=mg
   ·refine aM d2 ?_;exact Qy ⟨rfl,.inr ⟨_,_,_,_,_,rfl,j2.less (by omega),by exact zD l1 d1,l2⟩⟩
   refine aJ d2 ?_;exact Qy ⟨rfl,_,_,_,_,_,rfl,j2.less (by exact vI),by exact zD l1 d1,l2⟩
  case post1 =>
   clear j l1 l2;rintro c st' ⟨rfl,⟨r,rest,rfl,hr⟩|⟨out,ia,ib,ac,bc,rfl,j,l1,l2⟩⟩
   ·exact Qy ⟨g,r,_,rfl,hr⟩
   refine Qt (wpS_lift (XR ⟨rfl,?_⟩))
   refine Qt (wpS_mono (Xv (I:=C6 κ a b st x)
    (Q:=C5 κ a b st x) ?step2 ?fin2 ⟨g,out,ia,ib,_,ac,bc,rfl,j,l1,l2⟩) ?post2)
   case fin2 =>
    rintro c st' ⟨g,out,ia,ib,mg,ac,bc,rfl,j,l1,l2⟩;have:=j.n;have:=j.lo;omega
   case post2 =>
    rintro c st' ⟨g,⟨r,rest,rfl,hr⟩|⟨out,ia,ib,mg,ac,bc,rfl,j,l1,l2⟩⟩
    ·exact Qy ⟨g,r,_,rfl,hr⟩
    refine Qt (dO λst2 g2=>?_);exact Qy ⟨g.trans g2,_,_,_,_,rfl,j,l1,l2⟩
   case step2 =>
    clear j l1 l2 g;rintro x' c st2 _ hx' ⟨g,out,ia,ib,mg,ac,bc,rfl,j,l1,l2⟩;obtain⟨p,hp,_,mp⟩:=aU (a:=a) (i:=ia) (by exact yg l1);obtain⟨q,hq,_,mq⟩:=aU (a:=b) (i:=ib) l2
    extract_lets s1 o1 s2 x1 s3 y1 s4 m1 s5 ac1 bc1 ib2 jp mgm
    refine gN (λm=>jp () m) (λ_=>True) (λm _=>?_) (λJ=>?_)
    ·refine Qt (dO λst3 g3=>?_);have g4:=g.trans g3;have hk3:kindOf st3=kd:=by rw[g4.kind];exact hk
     refine Qt (aX hq ?_);refine Qt (ff (a:=a) (base:=ia) (n:=a.size-ia) hL hk3 (hb q mq) ha (by exact Cq l1) (λi j p q _ h _ e1 e2=>qK sa h e1 e2) (by exact Cp l1) λk k1 k2 k3=>?_);dsimp -zeta only
     extract_lets ac2 jp2 o2 x2
     refine gN (λz:Array Keyed × Nat=>jp2 () z.1 z.2) (λz=>LJ κ a b (x+1+x') z.1 z.2 ib/\z.2+1<a.size/\∀p,a[z.2]?=some p->le κ q p) (λz hz=>?_) (λJ2=>?_)
     ·obtain⟨o3,x3⟩:=z;obtain⟨j3,l3,f3⟩:=hz;dsimp only at j3 l3 f3;obtain⟨p3,hp3,_,mp3⟩:=aU (a:=a) (i:=x3) (by exact yg l3);refine Qt (aX hq ?_);have j4:=j3.pushB hp3 hq (f3 p3 hp3);by_cases d1:ib+1=b.size
      ·refine aM (bT d1) ?_;exact Qy ⟨g4,.inl ⟨_,_,rfl,j4.doneB d1⟩⟩
      refine aJ (bF d1) ?_;refine Qt (aX hp3 ?_);refine Qt (ff (a:=b) (base:=ib+1) (n:=b.size-(ib+1)) hL hk3 (ha p3 mp3) hb (by exact Co l2) (λi j p q _ h _ e1 e2=>qK sb h e1 e2) (by exact Cn l2 d1) λk' k1' k2' k3'=>?_);dsimp -zeta only
      extract_lets bc2 ia2 jp3 o4 y4
      refine gN (λz:Array Keyed × Nat=>jp3 () z.1 z.2) (λz=>LJ κ a b (x+1+x'+1) z.1 x3 z.2/\z.2<b.size/\∀q,b[z.2]?=some q->le κ p3 q) (λz hz=>?_) (λJ3=>?_)
      ·obtain⟨o5,y5⟩:=z;obtain⟨j5,l5,f5⟩:=hz;dsimp only at j5 l5 f5;obtain⟨q5,hq5,_,mq5⟩:=aU (a:=b) (i:=y5) l5;refine Qt (aX hp3 ?_);have j6:=j5.pushA hp3 hq5 (f5 q5 hq5);by_cases d2:x3+1+1=a.size
       ·refine aM (bT d2) ?_;exact Qy ⟨g4,.inl ⟨_,_,rfl,j6.lastA d2⟩⟩
       refine aJ (bF d2) ?_;by_cases d3:(decide (ac2<7)&&decide (bc2<7))=true
       ·refine aM d3 ?_;exact Qy ⟨g4,.inr ⟨_,_,_,_,_,_,rfl,j6.less (by omega),by omega,l5⟩⟩
       refine aJ d3 ?_;exact Qy ⟨g4,_,_,_,_,_,_,rfl,j6.less (by exact zC),by omega,l5⟩
      by_cases d2:k'>0
      ·refine aM d2 ?_;have j5:LJ κ a b (x+1+x'+1) o4 x3 y4:=j4.runB hp3 (by exact Cm l2 k1') λi hi p e=>mS (k2' i hi p e);have e2:y4=ib+1+k':=rfl;by_cases d3:y4=b.size
       ·refine aM (bT d3) ?_;exact Qy ⟨g4,.inl ⟨_,_,rfl,j5.doneB d3⟩⟩
       refine aJ (bF d3) ?_;exact J3 (o4,y4) ⟨j5,by dsimp only;omega,λp e=>mV (k3' k' (Qh _) (by omega) p e)⟩
      refine aJ d2 ?_;have:k'=0:=by exact zB d2
      subst this;exact J3 (_,ib+1) ⟨j4,by dsimp only;exact yf l2 d1,λp e=>mV (k3' 0 (Qh _) (by exact Cl l2 d1 k1') p e)⟩
     by_cases d1:k>0
     ·refine aM d1 ?_;have j3:LJ κ a b (x+1+x') o2 x2 ib:=j.runA hq (by exact Ck l1 k1) λi hi p e=>mT (k2 i hi p e);have e2:x2=ia+k:=rfl;by_cases d2:x2+1=a.size
      ·refine aM (bT d2) ?_;exact Qy ⟨g4,.inl ⟨_,_,rfl,j3.lastA d2⟩⟩
      refine aJ (bF d2) ?_;by_cases d3:x2=a.size
      ·refine aM (bT d3) ?_;exact Qy ⟨g4,.inl ⟨_,_,rfl,j3.doneA d3⟩⟩
      refine aJ (bF d3) ?_;exact J2 (o2,x2) ⟨j3,by dsimp only;omega,λp e=>mU (k3 k (Qh _) (by omega) p e)⟩
     refine aJ d1 ?_;have:k=0:=by exact zB d1
     subst this;exact J2 (o1,x1) ⟨j,l1,λp e=>mU (k3 0 (Qh _) (by exact Cj l1 k1) p e)⟩
    by_cases d:m1>1
    ·refine aM d ?_;exact J _ trivial
    refine aJ d ?_;exact J _ trivial
end
noncomputable def yG (κ:KeyKind):KeyKind where
 α:=κ.α
 blt a b:=κ.blt b a
 irrefl a:=κ.irrefl a
 trans a b c h1 h2:=κ.trans c b a h2 h1
 negTrans a b c h:=(κ.negTrans c b a h).symm
 total a b h1 h2:=(κ.total a b h2 h1)
 keyOf:=κ.keyOf
 dflt:=κ.dflt
section
variable {κ:KeyKind}
theorem tO {l:List Keyed} (h:l.Pairwise (le κ)):l.reverse.Pairwise (le (yG κ)):=List.pairwise_reverse.mpr h
theorem lE {L r:List Keyed} (h:Srt (yG κ) L r):Srt κ L r.reverse:=⟨(List.reverse_perm r).trans h.1,List.pairwise_reverse.mpr h.2⟩
variable {p:Keyed}
theorem bZ {a:Array Keyed} {i:Nat} (hi:1<=i) (h:a[i-1]?=some p):(a.toList.take i).reverse=p::(a.toList.take (i-1)).reverse:=by
 obtain⟨j,rfl⟩:∃j,i=j+1:=⟨i-1,by exact Ci hi⟩;rw[Nat.add_sub_cancel]at h ⊢;rw[QO,Qx,h,List.reverse_append];rfl
structure HJ (κ:KeyKind) (a b:Array Keyed) (n:Nat) (out:Array Keyed) (na nb:Nat):Prop where
 mi:MI (yG κ) (a.toList++b.toList) out.toList (b.toList.take nb).reverse (a.toList.take na).reverse
 la:na<=a.size
 lb:nb<=b.size
 lo:out.size+na+nb=a.size+b.size
 n:n<=out.size
variable {na nb n m i j:Nat} {a b:Array Keyed}
theorem HJ.less {out:Array Keyed} (h:HJ κ a b n out na nb) (hm:m<=n):HJ κ a b m out na nb:=⟨h.mi,h.la,h.lb,h.lo,QP hm h.n⟩
theorem dH (a:Array Keyed) (i:Nat):(a.extract 0 i).toList=a.toList.take i:=by simp
theorem HJ.doneA {out:Array Keyed} (h:HJ κ a b n out na nb) (e:na=0):Srt κ (a.toList++b.toList) (a.extract 0 na++b.extract 0 nb++out.reverse).toList:=by
 subst e;have:=lE (MI.endY (by simpa using h.mi));rw[QG,QG,dH,dH,Array.toList_reverse];simpa using this
theorem HJ.doneB {out:Array Keyed} (h:HJ κ a b n out na nb) (e:nb=0):Srt κ (a.toList++b.toList) (a.extract 0 na++b.extract 0 nb++out.reverse).toList:=by
 subst e;have:=lE (MI.endX (by simpa using h.mi));rw[QG,QG,dH,dH,Array.toList_reverse];simpa using this
theorem HJ.firstB {out:Array Keyed} (h:HJ κ a b n out na nb) (e:nb=1):Srt κ (a.toList++b.toList) (b.extract 0 nb++a.extract 0 na++out.reverse).toList:=by
 subst e;obtain⟨q,hq,_⟩:=aU (a:=b) (i:=0) (by have:=h.lb;exact uc this);have m:=h.mi;have tr:=bZ (a:=b) (i:=1) (Qh _) hq;rw[Nat.sub_self,List.take_zero,List.reverse_nil]at tr;rw[tr]at m;have:=lE m.lastX
 have t1:b.toList.take 1=[q]:=by
  have:=congrArg List.reverse tr;simpa using this
 rw[QG,QG,dH,dH,Array.toList_reverse,t1];simpa using this
theorem HJ.pushA {out:Array Keyed} {q:Keyed} (h:HJ κ a b n out na nb) (n1:1<=na) (n2:1<=nb) (ha:a[na-1]?=some p) (hb:b[nb-1]?=some q) (c:le κ q p):HJ κ a b (n+1) (out.push p) (na-1) nb:=by
 have m:=h.mi;rw[bZ n1 ha,bZ n2 hb]at m;have m:=m.takeY c;rw[<-bZ n2 hb]at m;refine⟨by rw[Array.toList_push];exact m,by have:=h.la;exact zw n1 this,h.lb,by rw[Array.size_push];have:=h.lo;exact Ch n1 this,by rw[Array.size_push];have:=h.n;exact rO this⟩
theorem HJ.pushB {out:Array Keyed} {q:Keyed} (h:HJ κ a b n out na nb) (n1:1<=na) (n2:1<=nb) (ha:a[na-1]?=some p) (hb:b[nb-1]?=some q) (c:le κ p q):HJ κ a b (n+1) (out.push q) na (nb-1):=by
 have m:=h.mi;rw[bZ n1 ha,bZ n2 hb]at m;have m:=m.takeX c;rw[<-bZ n1 ha]at m;refine⟨by rw[Array.toList_push];exact m,h.la,by have:=h.lb;exact zw n2 this,by rw[Array.size_push];have:=h.lo;exact Cg n2 this,by rw[Array.size_push];have:=h.n;exact rO this⟩
theorem nr (l:List Keyed) (h:i<=j):(l.take j).reverse=((l.take j).drop i).reverse++(l.take i).reverse:=by
 rw[<-List.reverse_append];congr 1;have:=Xf i (l.take j);rw[List.take_take,Nat.min_eq_left h]at this;exact this.symm
theorem qP (a:Array Keyed) (h:i<=j):(a.extract i j).reverse.toList=((a.toList.take j).drop i).reverse:=by
 simp[List.drop_take]
theorem qI (h:p∈((a.toList.take j).drop i).reverse):∃k,i<=k/\k<j/\a[k]?=some p:=by
 rw[List.mem_reverse]at h;obtain⟨m,hm,e⟩:=Qr.mp h;rw[Xc,Qv]at hm;have e3:=Qb (l:=(a.toList.take j).drop i) (i:=m) (by rw[Xc,Qv];exact Cf hm);rw[e,XT,XS,Qz (by exact zu hm),Qx]at e3;exact⟨i+m,by exact ud,by exact zu hm,e3⟩
theorem HJ.runA {out:Array Keyed} {k:Nat} {q:Keyed} (h:HJ κ a b n out na nb) (n2:1<=nb) (hb:b[nb-1]?=some q) (hk:k<=na) (c:∀i,k<=i->i<na->∀p,a[i]?=some p->le κ q p):HJ κ a b n (out++(a.extract k na).reverse) k nb:=by
 have m:=h.mi;have sx:=m.sx;rw[nr _ hk]at m
 have m:=m.takeYs λp hp r hr=>by
  obtain⟨i,h1,h2,e⟩:=qI hp;rw[bZ n2 hb]at hr sx;exact fB sx (c i h1 h2 p e) hr
 have sz:(a.extract k na).reverse.size=na-k:=by rw[Array.size_reverse,Array.size_extract];have:=h.la;exact zt hk this
 refine⟨by rw[QG,qP _ hk];exact m,by have:=h.la;exact zq hk this,h.lb,by rw[XE,sz];have:=h.lo;omega,by rw[XE];have:=h.n;exact zp sz this⟩
theorem HJ.runB {out:Array Keyed} {k:Nat} (h:HJ κ a b n out na nb) (n1:1<=na) (ha:a[na-1]?=some p) (hk:k<=nb) (c:∀i,k<=i->i<nb->∀q,b[i]?=some q->le κ p q):HJ κ a b n (out++(b.extract k nb).reverse) na k:=by
 have m:=h.mi;have sy:=m.sy;rw[nr _ hk]at m
 have m:=m.takeXs λq hq r hr=>by
  obtain⟨i,h1,h2,e⟩:=qI hq;rw[bZ n1 ha]at hr sy;exact fB sy (c i h1 h2 q e) hr
 have sz:(b.extract k nb).reverse.size=nb-k:=by rw[Array.size_reverse,Array.size_extract];have:=h.lb;exact zt hk this
 refine⟨by rw[QG,qP _ hk];exact m,h.la,by have:=h.lb;exact zq hk this,by rw[XE,sz];have:=h.lo;omega,by rw[XE];have:=h.n;exact zp sz this⟩
end
section
@[reducible] def Df (κ:KeyKind) (a b:Array Keyed) (st:SortSt) (x:Nat) (c:Option (Array Keyed) × Nat × Nat × Array Keyed × Nat) (st':SortSt):Prop:=Gs st st'/\∃na nb out mg,c=(none,na,nb,out,mg)/\HJ κ a b (x+1) out na nb/\1<=na/\2<=nb
@[reducible] def De (κ:KeyKind) (a b:Array Keyed) (st:SortSt)  (c:Option (Array Keyed) × Nat × Nat × Array Keyed × Nat) (st':SortSt):Prop:=Gs st st'/\∃r rest,c=(some r,rest)/\Srt κ (a.toList++b.toList) r.toList
@[reducible] def Dd (κ:KeyKind) (a b:Array Keyed) (st:SortSt) (x x':Nat) (c:Option (Array Keyed) × Nat × Nat × Array Keyed × Nat × Nat) (st':SortSt):Prop:=st'=st/\∃na nb out ac bc,c=(none,na,nb,out,ac,bc)/\HJ κ a b (x+1+x') out na nb/\1<=na/\2<=nb
@[reducible] def Dc (κ:KeyKind) (a b:Array Keyed) (st:SortSt) (x:Nat) (c:Option (Array Keyed) × Nat × Nat × Array Keyed × Nat × Nat) (st':SortSt):Prop:=st'=st/\((∃r rest,c=(some r,rest)/\Srt κ (a.toList++b.toList) r.toList)\/∃na nb out ac bc,c=(none,na,nb,out,ac,bc)/\HJ κ a b (x+1) out na nb/\1<=na/\2<=nb)
@[reducible] def Db (κ:KeyKind) (a b:Array Keyed) (st:SortSt) (x x':Nat) (c:Option (Array Keyed) × Nat × Nat × Array Keyed × Nat × Nat × Nat) (st':SortSt):Prop:=Gs st st'/\∃na nb out mg ac bc,c=(none,na,nb,out,mg,ac,bc)/\HJ κ a b (x+1+x') out na nb/\1<=na/\2<=nb
@[reducible] def Da (κ:KeyKind) (a b:Array Keyed) (st:SortSt) (x:Nat) (c:Option (Array Keyed) × Nat × Nat × Array Keyed × Nat × Nat × Nat) (st':SortSt):Prop:=Gs st st'/\((∃r rest,c=(some r,rest)/\Srt κ (a.toList++b.toList) r.toList)\/∃na nb out mg ac bc,c=(none,na,nb,out,mg,ac,bc)/\HJ κ a b (x+2) out na nb/\1<=na/\2<=nb)
theorem nj (hL:iB κ kd prog w A s) {st:SortSt} {a b:Array Keyed} {Q:Array Keyed->SortSt->Prop} (hk:kindOf st=kd) (ha:∀p∈a.toList,Hk κ p) (hb:∀p∈b.toList,Hk κ p)
  (na:1<=a.size) (nb:1<=b.size) (sa:a.toList.Pairwise (le κ)) (sb:b.toList.Pairwise (le κ)) (first:∀p∈a.toList,∀q,b[0]?=some q->le κ q p) (last:∀q∈b.toList,∀p,a[a.size-1]?=some p->le κ q p)
  (h:∀r st',Gs st st'->Srt κ (a.toList++b.toList) r.toList->Q r st'):wpS (model prog w) A E s (oo a b) Q st:=by
 unfold oo;refine Qt (wpS_lift (XR ⟨rfl,?_⟩));obtain⟨q0,hq0,_,mq0⟩:=aU (a:=b) (i:=b.size-1) (by exact rN nb);obtain⟨qf,hqf,_,mqf⟩:=aU (a:=b) (i:=0) (by exact uc nb);obtain⟨p0,hp0,_,mp0⟩:=aU (a:=a) (i:=a.size-1) (by exact rN na)
 have j0:HJ κ a b 0 #[] a.size b.size:=by
  have e1:a.toList.take a.size=a.toList:=Qs (by simp);have e2:b.toList.take b.size=b.toList:=Qs (by simp);refine⟨⟨?_,List.Pairwise.nil,by rw[e2];exact tO sb,by rw[e1];exact tO sa,λp hp=>(nomatch hp),λp hp=>(nomatch hp),λq hq l hl=>?_⟩,Qh _,Qh _,by simp,QM _⟩
  ·rw[e1,e2];show ([]++(b.toList.reverse++a.toList.reverse)).Perm _;rw[List.nil_append,<-List.reverse_append];exact List.reverse_perm _
  rw[e1,List.mem_reverse]at hq;rw[e2,List.getLast?_reverse]at hl;refine first q hq l ?_;rw[<-Qx,<-List.head?_eq_getElem?];exact hl
 have j1:=j0.pushA na nb hp0 hq0 (last q0 mq0 p0 hp0);have j1:HJ κ a b 1 #[p0] (a.size-1) b.size:=j1
 extract_lets tot dn fb na0 nb0 z0
 refine Qt (aX hp0 ?_);refine wpS_mono (Q:=λr st'=>Gs st st'/\Srt κ (a.toList++b.toList) r.toList) ?_ (λr st' z=>h r st' z.1 z.2);clear h
 extract_lets out0
 by_cases c1:na0=0
 ·refine aM (bT c1) ?_;exact Qy ⟨.refl _,j1.doneA c1⟩
 refine aJ (bF c1) ?_;by_cases c2:b.size=1
 ·refine aM (bT c2) ?_;exact Qy ⟨.refl _,j1.firstB c2⟩
 refine aJ (bF c2) ?_;refine Qt (wpS_get ?_)
 extract_lets mg0
 have e0:na0=a.size-1:=rfl
 refine Qt (wpS_mono (Xv (I:=Df κ a b st)
  (Q:=De κ a b st) ?step ?fin ⟨.refl _,na0,nb0,out0,mg0,rfl,j1,by exact Ce na nb c1 c2,by omega⟩) ?post)
 case post =>
  rintro c st' ⟨g,r,rest,rfl,hr⟩;exact Qy ⟨g,hr⟩
 case fin =>
  rintro c st' ⟨g,na,nb,out,mg,rfl,j,l1,l2⟩;have:=j.n;have:=j.lo;omega
 case step =>
  rintro x c st1 _ hx ⟨g,na,nb,out,mg,rfl,j,l1,l2⟩
  refine Qt (wpS_mono (Xv (I:=Dd κ a b st1 x)
   (Q:=Dc κ a b st1 x) ?step1 ?fin1 ⟨rfl,na,nb,out,0,0,rfl,j,l1,l2⟩) ?post1)
  case fin1 =>
   rintro c st' ⟨rfl,na,nb,out,ac,bc,rfl,j,l1,l2⟩;have:=j.n;have:=j.lo;omega
  case step1 =>
   clear j l1 l2;rintro x' c st' _ hx' ⟨rfl,na,nb,out,ac,bc,rfl,j,l1,l2⟩;have la:=j.la;have lb:=j.lb;obtain⟨p,hp,_,mp⟩:=aU (a:=a) (i:=na-1) (by exact ye l1 la);obtain⟨q,hq,_,mq⟩:=aU (a:=b) (i:=nb-1) (by exact yd l2 lb);refine Qt (aX hq (Qt (aX hp (Qt (iQ hL (by rw[g.kind];exact hk) (hb q mq) (ha p mp) ?_)))));dsimp -zeta only
   cases e:κ.blt (kv κ q) (kv κ p) with
   | true =>
    refine aM rfl ?_;refine Qt (aX hp ?_);have j2:=j.pushA l1 (by exact ub l2) hp hq (KeyOrd.kle_of_klt e);by_cases d1:na-1=0
    ·refine aM (bT d1) ?_;exact Qy ⟨rfl,.inl ⟨_,_,rfl,j2.doneA d1⟩⟩
    refine aJ (bF d1) ?_;by_cases d2:ac+1>=mg
    ·refine aM d2 ?_;exact Qy ⟨rfl,.inr ⟨_,_,_,_,_,rfl,j2.less (by omega),by exact ze l1 d1,l2⟩⟩
    refine aJ d2 ?_;exact Qy ⟨rfl,_,_,_,_,_,rfl,j2.less (by exact vI),by exact ze l1 d1,l2⟩
   | false =>
   refine aJ Qn ?_;refine Qt (aX hq ?_);have j2:=j.pushB l1 (by exact ub l2) hp hq e;by_cases d1:nb-1=1
   ·refine aM (bT d1) ?_;exact Qy ⟨rfl,.inl ⟨_,_,rfl,j2.firstB d1⟩⟩
   refine aJ (bF d1) ?_;by_cases d2:bc+1>=mg
   ·refine aM d2 ?_;exact Qy ⟨rfl,.inr ⟨_,_,_,_,_,rfl,j2.less (by omega),l1,by exact zd l2 d1⟩⟩
   refine aJ d2 ?_;exact Qy ⟨rfl,_,_,_,_,_,rfl,j2.less (by exact vI),l1,by exact zd l2 d1⟩
  case post1 =>
   clear j l1 l2;rintro c st' ⟨rfl,⟨r,rest,rfl,hr⟩|⟨na,nb,out,ac,bc,rfl,j,l1,l2⟩⟩
   ·exact Qy ⟨g,r,_,rfl,hr⟩
   refine Qt (wpS_lift (XR ⟨rfl,?_⟩))
   refine Qt (wpS_mono (Xv (I:=Db κ a b st x)
    (Q:=Da κ a b st x) ?step2 ?fin2 ⟨g,na,nb,out,_,ac,bc,rfl,j,l1,l2⟩) ?post2)
   case fin2 =>
    rintro c st' ⟨g,na,nb,out,mg,ac,bc,rfl,j,l1,l2⟩;have:=j.n;have:=j.lo;omega
   case post2 =>
    rintro c st' ⟨g,⟨r,rest,rfl,hr⟩|⟨na,nb,out,mg,ac,bc,rfl,j,l1,l2⟩⟩
    ·exact Qy ⟨g,r,_,rfl,hr⟩
    refine Qt (dO λst2 g2=>?_);exact Qy ⟨g.trans g2,_,_,_,_,rfl,j,l1,l2⟩
   case step2 =>
    clear j l1 l2 g;rintro x' c st2 _ hx' ⟨g,na,nb,out,mg,ac,bc,rfl,j,l1,l2⟩;have la:=j.la;have lb:=j.lb;obtain⟨p,hp,_,mp⟩:=aU (a:=a) (i:=na-1) (by exact ye l1 la);obtain⟨q,hq,_,mq⟩:=aU (a:=b) (i:=nb-1) (by exact yd l2 lb)
    extract_lets s1 x1 s2 y1 s3 o1 s4 m1 s5 ac1 bc1 nb2 jp mgm
    refine gN (λm=>jp () m) (λ_=>True) (λm _=>?_) (λJ=>?_)
    ·refine Qt (dO λst3 g3=>?_);have g4:=g.trans g3;have hk3:kindOf st3=kd:=by rw[g4.kind];exact hk
     refine Qt (aX hq ?_);refine Qt (ff (a:=a) (base:=0) (n:=na) (hint:=na-1) hL hk3 (hb q mq) ha (by exact Cd la) (λi j p q _ h _ e1 e2=>qK sa h e1 e2) (by exact rN l1) λk k1 k2 k3=>?_);simp only[Nat.zero_add]at k2 k3;dsimp -zeta only
     extract_lets kk ac2 jp2 o2 x2
     refine gN (λz:Nat × Array Keyed=>jp2 () z.1 z.2) (λz=>HJ κ a b (x+1+x') z.2 z.1 nb/\1<=z.1/\∀p,a[z.1-1]?=some p->le κ p q) (λz hz=>?_) (λJ2=>?_)
     ·obtain⟨x3,o3⟩:=z;obtain⟨j3,l3,f3⟩:=hz;dsimp only at j3 l3 f3;have la3:=j3.la;obtain⟨p3,hp3,_,mp3⟩:=aU (a:=a) (i:=x3-1) (by exact ye l3 la3);refine Qt (aX hq ?_);have j4:=j3.pushB l3 (by exact ub l2) hp3 hq (f3 p3 hp3);by_cases d1:nb-1=1
      ·refine aM (bT d1) ?_;exact Qy ⟨g4,.inl ⟨_,_,rfl,j4.firstB d1⟩⟩
      refine aJ (bF d1) ?_;refine Qt (aX hp3 ?_);refine Qt (ff (a:=b) (base:=0) (n:=nb-1) (hint:=nb-1-1) hL hk3 (ha p3 mp3) hb (by exact Cc l2 lb) (λi j p q _ h _ e1 e2=>qK sb h e1 e2) (by exact Cb l2) λk' k1' k2' k3'=>?_);simp only[Nat.zero_add]at k2' k3';dsimp -zeta only
      extract_lets kk' bc2 na4 jp3 o4 y4
      refine gN (λz:Nat × Array Keyed=>jp3 () z.1 z.2) (λz=>HJ κ a b (x+1+x'+1) z.2 x3 z.1/\2<=z.1/\∀q,b[z.1-1]?=some q->le κ q p3) (λz hz=>?_) (λJ3=>?_)
      ·obtain⟨y5,o5⟩:=z;obtain⟨j5,l5,f5⟩:=hz;dsimp only at j5 l5 f5;have lb5:=j5.lb;obtain⟨q5,hq5,_,mq5⟩:=aU (a:=b) (i:=y5-1) (by exact yd l5 lb5);refine Qt (aX hp3 ?_);have j6:=j5.pushA l3 (by exact ub l5) hp3 hq5 (f5 q5 hq5);by_cases d2:x3-1=0
       ·refine aM (bT d2) ?_;exact Qy ⟨g4,.inl ⟨_,_,rfl,j6.doneA d2⟩⟩
       refine aJ (bF d2) ?_;by_cases d3:(decide (ac2<7)&&decide (bc2<7))=true
       ·refine aM d3 ?_;exact Qy ⟨g4,.inr ⟨_,_,_,_,_,_,rfl,j6.less (by omega),by omega,l5⟩⟩
       refine aJ d3 ?_;exact Qy ⟨g4,_,_,_,_,_,_,rfl,j6.less (by exact zC),by omega,l5⟩
      have ek':kk'=nb-1-k':=rfl;by_cases d2:kk'>0
      ·refine aM d2 ?_;have j5:HJ κ a b (x+1+x'+1) o4 x3 y4:=j4.runB l3 hp3 (by exact Ca k1') λi h1 h2 p e=>mV (k3' i h1 h2 p e);have e2:y4=k':=rfl;by_cases d3:y4=1
       ·refine aM (bT d3) ?_;exact Qy ⟨g4,.inl ⟨_,_,rfl,j5.firstB d3⟩⟩
       refine aJ (bF d3) ?_;by_cases d4:y4=0
       ·refine aM (bT d4) ?_;exact Qy ⟨g4,.inl ⟨_,_,rfl,j5.doneB d4⟩⟩
       refine aJ (bF d4) ?_;exact J3 (y4,o4) ⟨j5,by dsimp only;exact B_ d3 d4,λq e=>mS (k2' (y4-1) (by omega) q e)⟩
      refine aJ d2 ?_;exact J3 (nb-1,_) ⟨j4,zh l2 d1,λq e=>mS (k2' (nb-1-1) (by exact B9 l2 ek' d2) q e)⟩
     have ek:kk=na-k:=rfl;by_cases d1:kk>0
     ·refine aM d1 ?_;have j3:HJ κ a b (x+1+x') o2 x2 nb:=j.runA (by exact ub l2) hq (by exact yc k1) λi h1 h2 p e=>mU (k3 i h1 h2 p e);have e2:x2=k:=rfl;by_cases d2:x2=0
      ·refine aM (bT d2) ?_;exact Qy ⟨g4,.inl ⟨_,_,rfl,j3.doneA d2⟩⟩
      refine aJ (bF d2) ?_;exact J2 (x2,o2) ⟨j3,by dsimp only;exact BN d2,λp e=>mT (k2 (x2-1) (by omega) p e)⟩
     refine aJ d1 ?_;exact J2 (na,out) ⟨j,l1,λp e=>mT (k2 (na-1) (by exact BL l1 ek d1) p e)⟩
    by_cases d:m1>1
    ·refine aM d ?_;exact J _ trivial
    refine aJ d ?_;exact J _ trivial
end
section
structure Sg (lo:Nat) (st st':SortSt):Prop where
 kind:kindOf st'=kindOf st
 pend:pendingOf st'=pendingOf st
 fail:failedOf st'=failedOf st
 head:∀i,i<lo->(arrOf st')[i]?=(arrOf st)[i]?
 perm:(arrOf st').Perm (arrOf st)
theorem Sg.refl (lo:Nat) (st:SortSt):Sg lo st st:=⟨rfl,rfl,rfl,λ_ _=>rfl,Array.Perm.refl _⟩
variable {a b c st:SortSt} {lo i n nrem:Nat}
theorem Sg.trans (x:Sg lo a b) (y:Sg lo b c):Sg lo a c:=⟨y.kind.trans x.kind,y.pend.trans x.pend,y.fail.trans x.fail,λi h=>(y.head i h).trans (x.head i h),y.perm.trans x.perm⟩
theorem Sg.size (x:Sg lo a b):(arrOf b).size=(arrOf a).size:=x.perm.size_eq
theorem Sg.keys (x:Sg lo a b) (h:∀p∈(arrOf a).toList,Hk κ p):∀p∈(arrOf b).toList,Hk κ p:=λp hp=>h p ((Array.perm_iff_toList_perm.mp x.perm).mem_iff.mp hp)
variable {xs:Array Keyed}
theorem uI {p:Keyed} (h:xs[i]?=some p):KK κ xs i=kv κ p:=by unfold KK kv;rw[h]
theorem fe (hL:iB κ kd prog w A s) {i j:Nat} {Q:Option Bool->SortSt->Prop} (hk:kindOf st=kd) (ha:∀p∈(arrOf st).toList,Hk κ p) (hi:i<(arrOf st).size) (hj:j<(arrOf st).size)
  (h:Q (some (κ.blt (KK κ (arrOf st) i) (KK κ (arrOf st) j))) st):wpS (model prog w) A E s (ltAt' i j) Q st:=by
 obtain⟨p,hp,_,mp⟩:=aU hi;obtain⟨q,hq,_,mq⟩:=aU hj;rw[uI hp,uI hq]at h;rw[ltAt'_eq];exact Qt (wpS_get (Qt (aX hp (Qt (aX hq (iQ hL hk (ha p mp) (ha q mq) h))))))
def Up (κ:KeyKind) (xs:Array Keyed) (lo n:Nat):Prop:=∀i j,i<=j->j<n->κ.kle (KK κ xs (lo+i)) (KK κ xs (lo+j))
def nc (κ:KeyKind) (xs:Array Keyed) (lo n:Nat):Prop:=∀i j,i<=j->j<n->κ.kle (KK κ xs (lo+j)) (KK κ xs (lo+i))
theorem Up.one:Up κ xs lo 1:=λi j h1 h2=>by
 have:i=j:=by exact BK h1 h2
 subst this;exact XM _
theorem Up.more (h:Up κ xs lo n) (h1:1<=n) (c:κ.kle (KK κ xs (lo+(n-1))) (KK κ xs (lo+n))):Up κ xs lo (n+1):=λi j hij hj=>by
 by_cases e:j<n
 ·exact h i j hij e
 have:j=n:=by exact xc hj e
 subst this;by_cases e2:i=j
 ·subst e2;exact XM _
 exact KeyOrd.kle_trans (h i (j-1) (by exact xb hij h1 e2) (by exact rN h1)) c
theorem nc.more (h:nc κ xs lo n) (h1:1<=n) (c:κ.kle (KK κ xs (lo+n)) (KK κ xs (lo+(n-1)))):nc κ xs lo (n+1):=λi j hij hj=>by
 by_cases e:j<n
 ·exact h i j hij e
 have:j=n:=by exact xc hj e
 subst this;by_cases e2:i=j
 ·subst e2;exact XM _
 exact KeyOrd.kle_trans c (h i (j-1) (by exact xb hij h1 e2) (by exact rN h1))
theorem qe {lo a:Nat} {f:Nat->Option (Option Nat) × Nat->StateT SortSt Sem (ForInStep (Option (Option Nat) × Nat))} {Q:Option (Option Nat) × Nat->SortSt->Prop} (h1:1<=a) (h2:a<=nrem) (up:Up κ (arrOf st) lo a)
  (hf:∀x n (R:ForInStep (Option (Option Nat) × Nat)->SortSt->Prop),1<=n->n<nrem->(κ.klt (KK κ (arrOf st) (lo+n)) (KK κ (arrOf st) (lo+(n-1)))->R (.done (none,n)) st)->(κ.kle (KK κ (arrOf st) (lo+(n-1))) (KK κ (arrOf st) (lo+n))->R (.yield (none,n+1)) st)->wpS (model prog w) A E s (f x (none,n)) R st)
  (h:∀n,a<=n->n<=nrem->Up κ (arrOf st) lo n->(n=nrem\/κ.klt (KK κ (arrOf st) (lo+n)) (KK κ (arrOf st) (lo+(n-1))))->Q (none,n) st):wpS (model prog w) A E s (forIn [a:nrem] (none,a) f) Q st:=by
 refine Xv (I:=λx c st'=>st'=st/\c=(none,x)/\Up κ (arrOf st) lo x) ?_ ?_ ⟨rfl,rfl,up⟩
 ·rintro x c st' hax hx ⟨rfl,rfl,u⟩;exact hf x x _ (by exact xa h1 hax) hx (λe=>h x hax (by exact ug hx) u (.inr e)) λe=>⟨rfl,rfl,u.more (by exact xa h1 hax) e⟩
 rintro c st' ⟨rfl,rfl,u⟩;rw[show max a nrem=nrem by exact BJ h2]at u ⊢;exact h nrem h2 (Qh _) u (.inl rfl)
theorem iC {lo i j:Nat} {Q:Unit->SortSt->Prop} (hi:lo<=i) (hj:j<=(arrOf st).size) (h:∀st',Sg lo st st'->(∀k,KK κ (arrOf st') k=if i<=k/\k<j then KK κ (arrOf st) (i+j-1-k) else KK κ (arrOf st) k)->Q () st'):wpS (model prog w) A E s (reverseSlice' i j) Q st:=by
 rw[reverseSlice'_eq];refine wpS_modify (h _ ⟨rfl,rfl,rfl,λk hk=>?_,mirror_perm _ _ _ _⟩ λk=>KK_mirror hj k);show (mirror (arrOf st) i j ((j-i) / 2))[k]?=_;rw[getElem?_mirror_all hj,QA (by exact BI hi hk)]
theorem gd {σ α β:Type} {M:Model} {Q:α->σ->Prop} {st:σ} {m:StateT σ Sem α} (f:β->StateT σ Sem α) (I:β->σ->Prop) (J:∀z st',I z st'->wpS M A E s (f z) Q st') (h:(∀z st',I z st'->wpS M A E s (f z) Q st')->wpS M A E s m Q st):wpS M A E s m Q st:=h J
def kZ:Nat->Nat->StateT SortSt Sem (Option Nat):=sortPriv% PySem.Builtin.countRun
theorem q_ (hL:iB κ kd prog w A s) {lo nrem:Nat} {Q:Option Nat->SortSt->Prop} (hk:kindOf st=kd) (ha:∀p∈(arrOf st).toList,Hk κ p) (h1:1<=nrem) (hn:lo+nrem<=(arrOf st).size)
  (h:∀m st',Sg lo st st'->1<=m->m<=nrem->Up κ (arrOf st') lo m->Q (some m) st'):wpS (model prog w) A E s (kZ lo nrem) Q st:=by
 unfold kZ;refine Qt (qe (κ:=κ) (lo:=lo) (Qh 1) h1 Up.one (λx n R a1 a2 r1 r2=>?_) λn a1 a2 up stop=>?_)
 ·extract_lets
  refine Qt (fe hL hk ha (by omega) (by omega) ?_);rw[show lo+n-1=lo+(n-1) by exact w_ a1];dsimp -zeta only
  cases e:κ.blt (KK κ (arrOf st) (lo+n)) (KK κ (arrOf st) (lo+(n-1))) with
  | true=>refine aM rfl ?_;exact Qy (r1 e)
  | false=>refine aJ Qn ?_;exact Qy (r2 e)
 show wpS _ _ _ _ (if (n==nrem)=true then pure (some n) else _) _ _;by_cases hnn:n=nrem
 ·refine aM (bT hnn) ?_;exact Qy (h n st (.refl _ _) a1 a2 up)
 refine aJ (bF hnn) ?_;have lt0:=stop.resolve_left hnn
 extract_lets jn jq jp
 refine gd (λ_:Unit=>jp ()) (λ_ st'=>Sg lo st st'/\nc κ (arrOf st') lo (n+1)) (λ_ st1 hz=>?_) (λJ=>?_)
 ·obtain⟨g1,dn⟩:=hz;refine Qt (wpS_lift (XR ⟨rfl,?_⟩))
  refine Qt (wpS_mono (Xv (I:=λx c st'=>∃neq,c=(none,x,neq)/\Sg lo st st'/\nc κ (arrOf st') lo x/\neq+1<=x/\∀i,x-(neq+1)<=i->i<x->KK κ (arrOf st') (lo+i)=KK κ (arrOf st') (lo+(x-1)))
   (Q:=λc st'=>∃x neq,c=(none,x,neq)/\Sg lo st st'/\x<=nrem/\nc κ (arrOf st') lo x/\neq+1<=x/\∀i,x-(neq+1)<=i->i<x->KK κ (arrOf st') (lo+i)=KK κ (arrOf st') (lo+(x-1))) ?step ?fin ⟨0,rfl,g1,dn,by omega,λi i1 i2=>by rw[show i=n+1-1 by omega]⟩) ?post)
  case fin =>
   rintro c st' ⟨neq,rfl,b1,b2,b3,b4⟩;rw[show max (n+1) nrem=nrem by exact BG a2 hnn]at b2 b3 b4 ⊢;exact⟨nrem,neq,rfl,b1,Qh _,b2,b3,b4⟩
  case step =>
   rintro x c st' hax hx ⟨neq,rfl,b1,b2,b3,b4⟩;have sz:=b1.size;have hk':kindOf st'=kd:=b1.kind.trans hk;have ha':=b1.keys ha;refine Qt (fe (i:=lo+x) (j:=lo+x-1) hL hk' ha' (by exact qG hn hx sz) (by omega) ?_);rw[show lo+x-1=lo+(x-1) by exact BF b3];dsimp -zeta only
   extract_lets
   cases e:κ.blt (KK κ (arrOf st') (lo+x)) (KK κ (arrOf st') (lo+(x-1))) with
   | true =>
    refine aM rfl ?_;have d1:=b2.more (by exact uf b3) (KeyOrd.kle_of_klt e);by_cases c:neq>0
    ·refine aM c ?_;refine Qt (iC (κ:=κ) (lo:=lo) (by exact w9 b3) (by exact BE hn hx sz) λst2 g2 kk=>?_)
     have kk:∀i,KK κ (arrOf st2) (lo+i)=KK κ (arrOf st') (lo+i):=λi=>by
      rw[kk]
      split
      ·rename_i q
       obtain⟨e1,e2,e3,e4,e5⟩:=wL b3 q;rw[e1,b4 _ e2 e3,b4 i e4 e5]
      rfl
     exact Qy ⟨0,rfl,b1.trans g2,λi j h1 h2=>by rw[kk,kk];exact d1 i j h1 h2,by exact w6,λi i1 i2=>by rw[show i=x+1-1 by exact BD i1 i2]⟩
    refine aJ c ?_;exact Qy ⟨0,rfl,b1,d1,by exact w6,λi i1 i2=>by rw[show i=x+1-1 by omega]⟩
   | false =>
   refine aJ Qn ?_;refine Qt (fe (i:=lo+(x-1)) (j:=lo+x) hL hk' ha' (by omega) (by exact qG hn hx sz) ?_);dsimp -zeta only
   cases e2:κ.blt (KK κ (arrOf st') (lo+(x-1))) (KK κ (arrOf st') (lo+x)) with
   | true =>
    refine aM rfl ?_;exact Qy ⟨x,neq,rfl,b1,by exact ug hx,b2,b3,b4⟩
   | false =>
   refine aJ Qn ?_;have eq:KK κ (arrOf st') (lo+x)=KK κ (arrOf st') (lo+(x-1)):=KeyOrd.kle_antisymm e2 e;refine Qy ⟨neq+1,rfl,b1,b2.more (by exact uf b3) (by rw[eq];exact XM _),by exact BC b3,λi i1 i2=>?_⟩;rw[show x+1-1=x by exact BB];by_cases ix:i=x
   ·rw[ix]
   rw[b4 i (by omega) (by exact BA i2 ix),eq]
  case post =>
   rintro c st2 ⟨x,neq,rfl,b1,b2,b3,b4,b5⟩
   extract_lets r2 s2 n2 q2 jp2
   have sz:=b1.size;refine gd (λ_:Unit=>jp2 ()) (λ_ st'=>Sg lo st st'/\nc κ (arrOf st') lo x) (λ_ st3 hz=>?_) (λJ2=>?_)
   ·obtain⟨g3,dn3⟩:=hz;have sz3:=g3.size;refine Qt (iC (κ:=κ) (lo:=lo) (Qh _) (show lo+x<=_ by exact Bz hn b2 sz sz3) λst4 g4 kk=>?_);have g5:=g3.trans g4;have sz5:=g5.size;refine Qt (qe (κ:=κ) (lo:=lo) (show 1<=x by exact uf b4) b2 (λi j h1 h2=>?_) (λy n R a1 a2 r1 r2=>?_) λn a1 a2 up stop=>?_)
    ·have h2:j<x:=h2;rw[kk,kk,Qz (by exact By h1 h2),Qz (by exact Bx h2),show lo+(lo+x)-1-(lo+i)=lo+(x-1-i) by exact ua (XO h1 h2),show lo+(lo+x)-1-(lo+j)=lo+(x-1-j) by exact ua h2];exact dn3 _ _ (by exact Bw h1 h2) (by exact Bv h1 h2)
    ·refine Qt (fe hL (g5.kind.trans hk) (g5.keys ha) (by omega) (by omega) ?_);rw[show lo+n-1=lo+(n-1) by exact w_ a1];dsimp -zeta only
     cases e:κ.blt (KK κ (arrOf st4) (lo+n)) (KK κ (arrOf st4) (lo+(n-1))) with
     | true=>refine aM rfl ?_;exact Qy (r1 e)
     | false=>refine aJ Qn ?_;exact Qy (r2 e)
    have a1:x<=n:=a1;exact Qy (h n st4 g5 (by exact Bu b4 a1) a2 up)
   by_cases c:neq>0
   ·show wpS _ _ _ _ (if neq>0 then _ else _) _ _;refine aM c ?_;refine Qt (iC (κ:=κ) (lo:=lo) (i:=lo+x-(neq+1)) (j:=lo+x) (show lo<=lo+x-(neq+1) by exact w9 b4) (show lo+x<=_ by exact Bt hn b2 sz) λst3 g3 kk=>?_)
    have kk:∀i,KK κ (arrOf st3) (lo+i)=KK κ (arrOf st2) (lo+i):=λi=>by
     rw[kk]
     split
     ·rename_i q
      obtain⟨e1,e2,e3,e4,e5⟩:=wL b4 q;rw[e1,b5 _ e2 e3,b5 i e4 e5]
     rfl
    exact J2 () st3 ⟨b1.trans g3,λi j h1 h2=>by rw[kk,kk];exact b3 i j h1 h2⟩
   show wpS _ _ _ _ (if neq>0 then _ else _) _ _;refine aJ c ?_;exact J2 () st2 ⟨b1,b3⟩
 by_cases c:n>1
 ·refine aM c ?_;refine Qt (fe hL hk ha (by exact Br h1 hn) (by omega) ?_);rw[show lo+n-1=lo+(n-1) by exact Bq c];dsimp -zeta only
  cases e:κ.blt (KK κ (arrOf st) lo) (KK κ (arrOf st) (lo+(n-1))) with
  | true =>
   refine aM rfl ?_;exact Qy (h n st (.refl _ _) a1 a2 up)
  | false =>
  refine aJ Qn ?_
  have all:∀i,i<n->KK κ (arrOf st) (lo+i)=KK κ (arrOf st) (lo+(n-1)):=λi hi =>
   KeyOrd.kle_antisymm (up i (n-1) (by exact Bp c hi) (by exact Bo c)) (KeyOrd.kle_trans e (by have:=up 0 i (by exact yh) hi;rwa [Nat.add_zero]at this))
  refine Qt (iC (κ:=κ) (lo:=lo) (Qh _) (show lo+n<=_ by exact Bn hn a2) λst3 g3 kk=>?_)
  have kk:∀i,KK κ (arrOf st3) (lo+i)=KK κ (arrOf st) (lo+i):=λi=>by
   rw[kk]
   split
   ·rename_i q
    have l:=Nat.lt_of_add_lt_add_left q.2;rw[ua l,all _ (XO (Nat.sub_le _ _) (Nat.sub_lt (XO (QM _) l) Nat.zero_lt_one)),all i l]
   rfl
  refine J () st3 ⟨g3,nc.more (λi j h1 h2=>?_) a1 ?_⟩
  ·rw[kk,kk,all i (by exact Bm h1 h2),all j h2];exact XM _
  rw[kk,kk];exact KeyOrd.kle_of_klt lt0
 refine aJ c ?_;refine J () st ⟨.refl _ _,nc.more (λi j h1 h2=>?_) a1 (KeyOrd.kle_of_klt lt0)⟩;have:i=j:=by exact Bl a1 c h1 h2
 subst this;exact XM _
end
section
def B0:Nat->Nat->Nat->StateT SortSt Sem Bool:=sortPriv% PySem.Builtin.binarySort
theorem vg (hL:iB κ kd prog w A s) {st:SortSt} {lo n ok:Nat} {Q:Bool->SortSt->Prop} (hk:kindOf st=kd) (ha:∀p∈(arrOf st).toList,Hk κ p) (h1:ok<=n) (hn:lo+n<=(arrOf st).size) (up:Up κ (arrOf st) lo ok)
  (h:∀st',Sg lo st st'->Up κ (arrOf st') lo n->Q true st'):wpS (model prog w) A E s (B0 lo n ok) Q st:=by
 unfold B0;refine Qt (wpS_mono (Xv (I:=λk c st'=>c=(none,())/\Sg lo st st'/\Up κ (arrOf st') lo (min k n)) (Q:=λc st'=>c=(none,())/\Sg lo st st'/\Up κ (arrOf st') lo n) ?step ?fin ?init) ?post)
 case post =>
  rintro c st' ⟨rfl,g,u⟩;exact Qy (h st' g u)
 case init =>
  refine⟨rfl,.refl _ _,λi j hij hj=>?_⟩;by_cases e:ok=0
  ·have:i=j:=by exact Bk hij hj e
   subst this;exact XM _
  exact up i j hij (by exact Bj h1 hj e)
 case fin =>
  rintro c st' ⟨rfl,g,u⟩;rw[show min (max (max ok 1) n) n=n by exact Bi]at u;exact⟨rfl,g,u⟩
 case step =>
  rintro k c st' k1 k2 ⟨rfl,g,u⟩;rw[show min k n=k by exact Bg k2]at u;have sz:=g.size
  refine Qt (wpS_mono (Xv (I:=λx c st2=>st2=st'/\∃l r,c=(none,l,r)/\l<=r/\r<=k/\r-l<=k-x/\(∀i,i<l->κ.kle (KK κ (arrOf st') (lo+i)) (KK κ (arrOf st') (lo+k)))/\(∀i,r<=i->i<k->κ.kle (KK κ (arrOf st') (lo+k)) (KK κ (arrOf st') (lo+i))))
   (Q:=λc st2=>st2=st'/\∃l,c=(none,l,l)/\l<=k/\(∀i,i<l->κ.kle (KK κ (arrOf st') (lo+i)) (KK κ (arrOf st') (lo+k)))/\(∀i,l<=i->i<k->κ.kle (KK κ (arrOf st') (lo+k)) (KK κ (arrOf st') (lo+i)))) ?istep ?ifin ⟨rfl,0,k,rfl,by exact yh,by exact Be,by exact Bd,λi hi=>by omega,λi a b=>by omega⟩) ?ipost)
  case ifin =>
   rintro c st2 ⟨rfl,l,r,rfl,a1,a2,a3,a4,a5⟩;have:l=r:=by exact zT a1 a3
   subst this;exact⟨rfl,l,rfl,a2,a4,a5⟩
  case istep =>
   rintro x c st2 _ hx ⟨rfl,l,r,rfl,a1,a2,a3,a4,a5⟩;dsimp -zeta only
   extract_lets
   by_cases c:l>=r
   ·show wpS _ _ _ _ (if l>=r then _ else _) _ _;refine aM c ?_;have:l=r:=by exact yi a1 c
    subst this;exact Qy ⟨rfl,l,rfl,a2,a4,a5⟩
   show wpS _ _ _ _ (if l>=r then _ else _) _ _;refine aJ c ?_;refine Qt (fe (i:=lo+k) (j:=lo+(l+r) / 2) hL (g.kind.trans hk) (g.keys ha) (by exact qG hn k2 sz) (by omega) ?_);dsimp -zeta only
   cases e:κ.blt (KK κ (arrOf st2) (lo+k)) (KK κ (arrOf st2) (lo+(l+r) / 2)) with
   | true =>
    refine aM rfl ?_;refine Qy ⟨rfl,l,(l+r) / 2,rfl,by exact Bc c,by exact Bb a2 c,zk a3 c,a4,λi b1 b2=>?_⟩;exact KeyOrd.kle_trans (KeyOrd.kle_of_klt e) (u _ _ b1 b2)
   | false =>
   refine aJ Qn ?_;refine Qy ⟨rfl,(l+r) / 2+1,r,rfl,by exact Ba c,by exact yc a2,zm a3 c,λi b1=>?_,a5⟩;exact KeyOrd.kle_trans (u i ((l+r) / 2) (by exact A_ b1) (by exact A9 a2 c)) e
  case ipost =>
   rintro c st2 ⟨rfl,l,rfl,a2,a4,a5⟩;show wpS _ _ _ _ (moveDown' (lo+k) (lo+l) >>= _) _ _;rw[moveDown'_eq];have hks:lo+k<(arrOf st2).size:=by exact qG hn k2 sz
   refine Qt (wpS_modify (Qy ⟨rfl,g.trans ⟨rfl,rfl,rfl,λi hi=>?_,bubble_perm _ _ _⟩,λi j hij hj=>?_⟩))
   ·show (bubble (arrOf st2) (lo+k) (lo+k-(lo+l)))[i]?=_;rw[getElem?_bubble hks _ (by exact A8 a2 hi),QA (by exact A7 a2 hi),QA (by omega)]
   rw[show min (k+1) n=k+1 by exact A6 k2]at hj;show κ.kle (KK κ (bubble (arrOf st2) (lo+k) (lo+k-(lo+l))) (lo+i)) (KK κ (bubble (arrOf st2) (lo+k) (lo+k-(lo+l))) (lo+j));rw[KK_bubble hks (by exact wZ a2),KK_bubble hks (by exact wZ a2),show lo+k-(lo+k-(lo+l))=lo+l by exact A5 a2];have sh:∀i,l<i->lo+i-1=lo+(i-1):=λi hi=>by exact A4 hi
   by_cases ci:i<l
   ·rw[QA (by exact wY ci),QA (by exact wX ci)];by_cases cj:j<l
    ·rw[QA (by exact wY cj),QA (by exact wX cj)];exact u i j hij (by exact A3 a2 hj cj)
    by_cases cj2:j=l
    ·rw[Qz (by exact wW cj2)];exact a4 i ci
    rw[QA (by exact wV cj2),Qz (by omega),sh j (by exact wU cj cj2)];exact u i (j-1) (by exact A2 hij ci cj) (by exact A1 a2 hij hj ci)
   by_cases ci2:i=l
   ·rw[Qz (by exact wW ci2)];by_cases cj2:j=l
    ·rw[Qz (by exact A0 ci2 cj2)];exact XM _
    rw[QA (by exact AZ ci2 cj2),Qz (by omega),sh j (by exact AY hij ci2 cj2)];exact a5 (j-1) (by exact AX hij ci2 cj2) (by exact AW hij hj ci2 cj2)
   rw[QA (by exact wV ci2),Qz (by omega),QA (by exact AV hij ci ci2),Qz (by omega),sh i (by exact wU ci ci2),sh j (by exact AU hij ci ci2)];exact u (i-1) (j-1) (by exact AT hij) (by exact AS hij hj ci ci2)
end
theorem nO (o:Nat):∀(M:List Keyed) (j:Nat) (arr:Array Keyed) (P S T:List Keyed),arr.toList=P++(S++T)->P.length=o+j->S.length=M.length->((M.zipIdx j).foldl (λa (x:Keyed × Nat)=>a.setIfInBounds (o+x.2) x.1) arr).toList=P++(M++T)
 | [],j,arr,P,S,T,h,hp,hs=>by
  have:S=[]:=Xh hs;subst this;exact h
 | p::M,j,arr,P,[],T,h,hp,hs=>by simp at hs
 | p::M,j,arr,P,q::S,T,h,hp,hs=>by
  rw[List.zipIdx_cons,List.foldl_cons]
  have e:(arr.setIfInBounds (o+j) p).toList=(P++[p])++(S++T):=by
   rw[Array.toList_setIfInBounds,h,List.set_append,QA (by exact AR hp),show o+j-P.length=0 by exact AQ hp];simp
  have:=nO o M (j+1) (arr.setIfInBounds (o+j) p) (P++[p]) S T e (by rw[Qj];simp;exact AO hp) (by simpa using hs);rw[this];simp
def dZ:Nat->List (List Keyed)->List (Nat × Nat)
 | _,[]=>[]
 | b,r::rs=>(b,r.length)::dZ (b+r.length) rs
theorem gy (u w:List (List Keyed)):∀b,dZ b (u++w)=dZ b u++dZ (b+u.flatten.length) w:=by
 induction u with
 | nil=>intro b;simp[dZ]
 | cons r u ih =>
 intro b;show (b,r.length)::dZ (b+r.length) (u++w)=_;rw[ih];show _=(b,r.length)::(dZ (b+r.length) u++_);rw[List.flatten_cons,Qj,Nat.add_assoc]
theorem n_ (u:List (List Keyed)):∀b,(dZ b u).length=u.length:=by
 induction u with
 | nil=>intro b;rfl
 | cons r u ih=>intro b;show (dZ _ u).length+1=_;rw[ih];rfl
structure RI (κ:KeyKind) (kd:SortKind) (a₀:Array Keyed) (st:SortSt) (rs:List (List Keyed)) (rest:List Keyed):Prop where
 arr:(arrOf st).toList=rs.flatten++rest
 perm:(arrOf st).Perm a₀
 ok:∀r∈rs,r≠[]/\r.Pairwise (le κ)
 pend:(pendingOf st).toList.map (λp=>(p.1,p.2.1))=dZ 0 rs
 kind:kindOf st=kd
 fail:failedOf st=none
theorem vD {ps:Array (Nat × Nat × Nat)} {u v:List (List Keyed)} {X Y:List Keyed} (h:ps.toList.map (λp=>(p.1,p.2.1))=dZ 0 (u++X::Y::v)) :
  ∃p1 p2,ps[u.length]?=some (u.flatten.length,X.length,p1)/\ps[u.length+1]?=some (u.flatten.length+X.length,Y.length,p2) /\
   ((ps.setIfInBounds u.length (u.flatten.length,X.length+Y.length,p1)).eraseIdxIfInBounds (u.length+1)).toList.map (λp=>(p.1,p.2.1))=dZ 0 u++(u.flatten.length,X.length+Y.length)::dZ (u.flatten.length+X.length+Y.length) v:=by
 rw[gy,Nat.zero_add]at h;have h:ps.toList.map (λp=>(p.1,p.2.1))=dZ 0 u++(u.flatten.length,X.length)::(u.flatten.length+X.length,Y.length)::dZ (u.flatten.length+X.length+Y.length) v:=h;have lu:=n_ u 0;obtain⟨l1,l2,e,e1,e2⟩:=List.map_eq_append_iff.mp h
 cases l2 with
 | nil=>simp at e2
 | cons a l2 =>
 cases l2 with
 | nil=>simp at e2
 | cons b l2 =>
 obtain⟨a1,a2,a3⟩:=a;obtain⟨b1,b2,b3⟩:=b;simp only[QC,List.cons.injEq,Prod.mk.injEq]at e2;obtain⟨⟨rfl,rfl⟩,⟨rfl,rfl⟩,e3⟩:=e2;have l1l:l1.length=u.length:=by rw[<-lu,<-e1,Qc]
 have pe:ps=(l1++(u.flatten.length,X.length,a3)::(u.flatten.length+X.length,Y.length,b3)::l2).toArray:=by rw[<-e]
 subst pe;refine⟨a3,b3,?_,?_,?_⟩
 ·rw[<-l1l];simp
 ·rw[<-l1l];simp[QN]
 rw[<-l1l,<-e1,<-e3];simp[Array.eraseIdxIfInBounds,List.set_append,List.eraseIdx_append];rw[QA (by exact AN)];simp
section
theorem vf {σ:Type} {M:Model} {x:σ} {Q:PUnit->σ->Prop} {st:σ} (h:Q ⟨⟩ x):wpS M A E s (set x:StateT σ Sem PUnit) Q st:=by
 unfold wpS;rw[StateT.run_set];exact Qf ⟨rfl,h⟩
theorem h_ (hL:iB κ kd prog w A s) {st:SortSt} {a₀:Array Keyed} {u v:List (List Keyed)} {X Y rest:List Keyed} {Q:Bool->SortSt->Prop} (ha:∀p∈a₀.toList,Hk κ p) (I:RI κ kd a₀ st (u++X::Y::v) rest)
  (h:∀Z st',Z.length=X.length+Y.length->RI κ kd a₀ st' (u++Z::v) rest->Q true st'):wpS (model prog w) A E s (mergeAt' u.length) Q st:=by
 obtain⟨earr,perm,ok,pend,kind,fail⟩:=I;obtain⟨p1,p2,e1,e2,e3⟩:=vD pend;obtain⟨xne,sx⟩:=ok X (by simp);obtain⟨yne,sy⟩:=ok Y (by simp);have xl:1<=X.length:=Nat.pos_of_ne_zero λz=>xne (Xh z);have yl:1<=Y.length:=Nat.pos_of_ne_zero λz=>yne (Xh z);have ha':∀p∈(arrOf st).toList,Hk κ p:=λp hp=>ha p ((Array.perm_iff_toList_perm.mp perm).mem_iff.mp hp);have earr:(arrOf st).toList=u.flatten++(X++(Y++(v.flatten++rest))):=by rw[earr];simp
 have sz:(arrOf st).size=u.flatten.length+(X.length+(Y.length+(v.flatten++rest).length)):=by rw[<-Qu,earr];simp only[Qj]
 have atX:∀i,i<X.length->(arrOf st)[u.flatten.length+i]?=X[i]?:=λi hi=>by rw[<-Qx,earr,QN (by exact ud),Xg,QT hi]
 have atY:∀i,i<Y.length->(arrOf st)[u.flatten.length+X.length+i]?=Y[i]?:=λi hi=>by rw[<-Qx,earr,QN (by exact AM xl sz),QN (by exact AL xl sz),show u.flatten.length+X.length+i-u.flatten.length-X.length=i by exact AK,QT hi]
 obtain⟨y0,hy0⟩:∃y0,Y[0]?=some y0:=⟨Y[0],by rw[Qb]⟩;obtain⟨xz,hxz⟩:∃xz,X[X.length-1]?=some xz:=⟨X[X.length-1],by rw[Qb]⟩;have key0:(arrOf st)[u.flatten.length+X.length]?=some y0:=by have:=atY 0 (by exact uc yl);rw[Nat.add_zero]at this;rw[this,hy0]
 have pwi:∀{L:List Keyed},L.Pairwise (le κ)->∀{i j:Nat} {p q:Keyed},i<=j->L[i]?=some p->L[j]?=some q->le κ p q:=λ{L} sl {i j p q} hij hi hj=>by
  by_cases e:i=j
  ·subst e;rw[hi]at hj;cases hj;exact XM _
  obtain⟨li,ei⟩:=Qe.mp hi;obtain⟨lj,ej⟩:=Qe.mp hj;have:=(List.pairwise_iff_getElem.mp sl) i j li lj (by exact zH hij e);rwa [ei,ej]at this
 have leY:∀q∈Y,le κ y0 q:=λq hq=>by
  obtain⟨j,hj,ej⟩:=Qr.mp hq;exact pwi sy (QM j) hy0 (by rw[Qb hj,ej])
 have leX:∀p∈X,le κ p xz:=λp hp=>by
  obtain⟨j,hj,ej⟩:=Qr.mp hp;exact pwi sx (show j<=X.length-1 by exact AJ xl sz hj) (by rw[Qb hj,ej]) hxz
 have same:∀st',arrOf st'=arrOf st->kindOf st'=kindOf st->failedOf st'=failedOf st->(pendingOf st').toList.map (λp=>(p.1,p.2.1))=dZ 0 u++(u.flatten.length,X.length+Y.length)::dZ (u.flatten.length+X.length+Y.length) v->(∀p∈X,∀q∈Y,le κ p q)->Q true st':=λst' h1 h2 h3 h4 h5=>by
  refine h (X++Y) st' (by simp) ⟨by rw[h1,earr];simp,by rw[h1];exact perm,λr hr=>?_,?_,h2.trans kind,h3.trans fail⟩
  ·rcases QH.mp hr with e|e
   ·exact ok r (by simp[e])
   rcases QQ.mp e with e|e
   ·subst e;exact⟨by simp[xne],Xb.mpr ⟨sx,sy,h5⟩⟩
   exact ok r (by simp[e])
  rw[h4,gy,Nat.zero_add];show _=_++(u.flatten.length,(X++Y).length)::dZ (u.flatten.length+(X++Y).length) v;rw[Qj,Nat.add_assoc]
 unfold mergeAt';refine Qt (wpS_get ?_);show wpS _ _ _ _ (match ((pendingOf st)[u.length]?,(pendingOf st)[u.length+1]?) with|(some (sa,na,power),some (sb,nb,_))=>_|x=>_) _ _;rw[e1,e2];dsimp -zeta only;refine Qt (vf ?_);refine Qt (aX key0 ?_);have hk0:Hk κ y0:=ha' y0 (by rw[Array.mem_toList_iff];exact Array.mem_of_getElem? key0);refine Qt (ff (a:=arrOf st) (base:=u.flatten.length) (n:=X.length) (hint:=0) hL (by exact kind) hk0 ha' (by exact AI yl sz) (λi j p q b1 b2 b3 c1 c2=>?_) (by exact AH xl sz) λk k1 k2 k3=>?_)
 ·have f1:=atX (i-u.flatten.length) (by omega);have f2:=atX (j-u.flatten.length) (by omega);rw[show u.flatten.length+(i-u.flatten.length)=i by exact AG b1,c1]at f1;rw[show u.flatten.length+(j-u.flatten.length)=j by exact AF b1 b2,c2]at f2;exact pwi sx (show i-u.flatten.length<=j-u.flatten.length by exact AE b1 b2) f1.symm f2.symm
 dsimp -zeta only;have k2':∀i,i<k->∀p,X[i]?=some p->le κ p y0:=λi hi p e=>mT (k2 i hi p (by rw[atX i (by exact AD sz k1 hi)];exact e))
 have k3':∀i,k<=i->∀p,X[i]?=some p->le κ y0 p:=λi hi p e=>by
  have hl:=(Qe.mp e).1;exact mU (k3 i hi hl p (by rw[atX i hl];exact e))
 by_cases d1:X.length-k=0
 ·refine aM (bT d1) ?_;refine Qy (same _ rfl rfl rfl e3 λp hp q hq=>?_);obtain⟨j,hj,ej⟩:=Qr.mp hp;exact le_trans (k2' j (by omega) p (by rw[Qb hj,ej])) (leY q hq)
 refine aJ (bF d1) ?_
 have keyz:(arrOf st)[u.flatten.length+k+(X.length-k)-1]?=some xz:=by
  rw[(zj (f:=u.flatten.length) k1).resolve_right (λz=>by rw[z]at xl;exact absurd xl (by decide)),atX _ (by exact AC xl sz),hxz]
 refine Qt (aX keyz ?_);have hkz:Hk κ xz:=ha' xz (by rw[Array.mem_toList_iff];exact Array.mem_of_getElem? keyz);refine Qt (ff (a:=arrOf st) (base:=u.flatten.length+X.length) (n:=Y.length) (hint:=Y.length-1) hL (by exact kind) hkz ha' (by exact AB sz) (λi j p q b1 b2 b3 c1 c2=>?_) (by exact rN yl) λm m1 m2 m3=>?_)
 ·have f1:=atY (i-(u.flatten.length+X.length)) (by omega);have f2:=atY (j-(u.flatten.length+X.length)) (by omega);rw[show u.flatten.length+X.length+(i-(u.flatten.length+X.length))=i by omega,c1]at f1;rw[show u.flatten.length+X.length+(j-(u.flatten.length+X.length))=j by omega,c2]at f2;exact pwi sy (show i-(u.flatten.length+X.length)<=j-(u.flatten.length+X.length) by omega) f1.symm f2.symm
 dsimp -zeta only;have m2':∀i,i<m->∀p,Y[i]?=some p->le κ p xz:=λi hi p e=>mS (m2 i hi p (by rw[atY i (by exact wT m1 hi)];exact e))
 have m3':∀i,m<=i->∀p,Y[i]?=some p->le κ xz p:=λi hi p e=>by
  have hl:=(Qe.mp e).1;exact mV (m3 i hi hl p (by rw[atY i hl];exact e))
 by_cases d2:m=0
 ·refine aM (bT d2) ?_;refine Qy (same _ rfl rfl rfl e3 λp hp q hq=>?_);obtain⟨j,hj,ej⟩:=Qr.mp hq;exact le_trans (leX p hp) (m3' j (by exact AA d2) q (by rw[Qb hj,ej]))
 refine aJ (bF d2) ?_
 extract_lets x y jp
 have ex:x.toList=X.drop k:=by
  show ((arrOf st).extract (u.flatten.length+k) (u.flatten.length+X.length)).toList=_;rw[show u.flatten.length+X.length=(u.flatten.length+k)+(X.length-k) by omega,iN,earr,<-List.drop_drop,List.drop_left,List.drop_append_of_le_length (by exact yc k1),List.take_append_of_le_length (by rw[Xc];exact om1),Qs (by rw[Xc];exact om1)]
 have ey:y.toList=Y.take m:=by
  show ((arrOf st).extract (u.flatten.length+X.length) (u.flatten.length+X.length+m)).toList=_;rw[iN,earr,<-List.drop_drop,List.drop_left,List.drop_left,List.take_append_of_le_length m1]
 have zx:x.size=X.length-k:=by rw[<-Qu,ex,Xc]
 have zy:y.size=m:=by rw[<-Qu,ey,Qv];omega
 have atx:∀{i p},x[i]?=some p->X[k+i]?=some p:=λ{i p} e=>by rw[<-Qx,ex,XT]at e;exact e
 have aty:∀{i p},y[i]?=some p->Y[i]?=some p:=λ{i p} e=>by
  have hl:=(Q6.mp e).1;rw[<-Qx,ey,XS,Qz (by exact yk zy hl)]at e;exact e
 have inX:∀p∈x.toList,∃i,k<=i/\X[i]?=some p:=λp hp=>by
  obtain⟨i,hi,ei⟩:=Qr.mp hp;exact⟨k+i,by exact ud,atx (by rw[<-Qx,Qb hi,ei])⟩
 have inY:∀p∈y.toList,∃i,i<m/\Y[i]?=some p:=λp hp=>by
  obtain⟨i,hi,ei⟩:=Qr.mp hp;rw[Qu]at hi;exact⟨i,by exact yk zy hi,aty (by rw[<-Qx,Qb (by rw[Qu];exact hi),ei])⟩
 have mX:∀{p i},X[i]?=some p->p∈X:=λe=>Qg e
 have hx:∀p∈x.toList,Hk κ p:=λp hp=>by
  obtain⟨i,_,e⟩:=inX p hp;exact ha' p (by rw[earr];simp[Qg e])
 have hy:∀p∈y.toList,Hk κ p:=λp hp=>by
  obtain⟨i,_,e⟩:=inY p hp;exact ha' p (by rw[earr];simp[Qg e])
 have ssx:x.toList.Pairwise (le κ):=by rw[ex];exact sx.sublist (List.drop_sublist _ _)
 have ssy:y.toList.Pairwise (le κ):=by rw[ey];exact sy.sublist (List.take_sublist _ _)
 have first:∀p∈x.toList,∀q,y[0]?=some q->le κ q p:=λp hp q hq=>by
  obtain⟨i,hi,e⟩:=inX p hp;have:=aty hq;rw[hy0]at this;cases this;exact k3' i hi p e
 have last:∀q∈y.toList,∀p,x[x.size-1]?=some p->le κ q p:=λq hq p hp=>by
  obtain⟨i,hi,e⟩:=inY q hq;have:=atx hp;rw[zi k1 d1 zx,hxz]at this;cases this;exact m2' i hi q e
 refine gd (λz:Array Keyed=>jp z) (λz st'=>Gs (setPending st (((pendingOf st).setIfInBounds u.length (u.flatten.length,X.length+Y.length,p1)).eraseIdxIfInBounds (u.length+1))) st'/\Srt κ (x.toList++y.toList) z.toList) (λz st1 hz=>?_) (λJ=>?_)
 ·obtain⟨g,so⟩:=hz;refine Qt (wpS_modify ?_);refine Qt (wpS_get ?_);have f1:failedOf st1=none:=g.fail.trans fail;have lz:z.toList.length=(X.length-k)+m:=by rw[so.1.length_eq,Qj,Qu,Qu,zx,zy]
  have ar:(List.foldl (λa (x:Keyed × Nat)=>a.setIfInBounds (u.flatten.length+k+x.snd) x.fst) (arrOf st1) z.toList.zipIdx).toList=u.flatten++((X.take k++(z.toList++Y.drop m))++(v.flatten++rest)):=by
   rw[nO (u.flatten.length+k) z.toList 0 (arrOf st1) (u.flatten++X.take k) (X.drop k++Y.take m) (Y.drop m++(v.flatten++rest)) ?_ ?_ ?_]
   ·simp only[QZ]
   ·rw[show arrOf st1=arrOf st from g.arr,earr]
    conv=>lhs;rw[<-Xf k X,<-Xf m Y]
    simp only[QZ]
   ·rw[Qj,Qv];exact Az sz k1
   rw[lz,Qj,Xc,Qv];exact Ay m1 zy
  have pz:(X.take k++(z.toList++Y.drop m)).Perm (X++Y):=by
   conv=>rhs;rw[<-Xf k X,<-Xf m Y]
   rw[QZ];refine Xx _ ?_;rw[<-QZ];refine List.Perm.append_right _ ?_;rw[<-ex,<-ey];exact so.1
  have mz:∀p∈z.toList,(∃i,k<=i/\X[i]?=some p)\/∃i,i<m/\Y[i]?=some p:=λp hp=>by
   rcases QH.mp (so.1.mem_iff.mp hp) with e|e
   ·exact .inl (inX p e)
   exact .inr (inY p e)
  have tk:∀p∈X.take k,∃i,i<k/\X[i]?=some p:=λp hp=>by
   obtain⟨i,hi,ei⟩:=Qr.mp hp;have:=Qb hi;rw[ei,XS]at this;rw[Qv]at hi;rw[Qz (by omega)]at this;exact⟨i,by omega,this⟩
  have dm:∀p∈Y.drop m,∃i,m<=i/\Y[i]?=some p:=λp hp=>by
   obtain⟨i,hi,ei⟩:=Qr.mp hp;have:=Qb hi;rw[ei,XT]at this;exact⟨m+i,by exact ud,this⟩
  have sz':(X.take k++(z.toList++Y.drop m)).Pairwise (le κ):=by
   refine Xb.mpr ⟨sx.sublist (List.take_sublist _ _),Xb.mpr ⟨so.2,sy.sublist (List.drop_sublist _ _),λp hp q hq=>?_⟩,λp hp q hq=>?_⟩
   ·obtain⟨j,hj,ej⟩:=dm q hq;rcases mz p hp with⟨i,hi,ei⟩|⟨i,hi,ei⟩
    ·exact le_trans (leX p (mX ei)) (m3' j hj q ej)
    exact pwi sy (by exact Ax zy hj hi) ei ej
   obtain⟨i,hi,ei⟩:=tk p hp;rcases QH.mp hq with e|e
   ·rcases mz q e with⟨j,hj,ej⟩|⟨j,hj,ej⟩
    ·exact pwi sx (by exact Aw hi hj) ei ej
    exact le_trans (k2' i hi p ei) (leY q (Qg ej))
   obtain⟨j,hj,ej⟩:=dm q e;exact le_trans (k2' i hi p ei) (leY q (Qg ej))
  have fin:∀st',arrOf st'=List.foldl (λa (x:Keyed × Nat)=>a.setIfInBounds (u.flatten.length+k+x.snd) x.fst) (arrOf st1) z.toList.zipIdx->kindOf st'=kindOf st1->failedOf st'=failedOf st1->pendingOf st'=pendingOf st1->Q true st':=λst' h1 h2 h3 h4=>by
   refine h (X.take k++(z.toList++Y.drop m)) st' (by rw[pz.length_eq,Qj]) ⟨?_,?_,λr hr=>?_,?_,h2.trans (g.kind.trans kind),h3.trans f1⟩
   ·rw[h1,ar];simp
   ·refine Array.Perm.trans ?_ perm;rw[Array.perm_iff_toList_perm,h1,ar,earr];refine Xx _ ?_;rw[<-QZ X];exact List.Perm.append_right _ pz
   ·rcases QH.mp hr with e|e
    ·exact ok r (by simp[e])
    rcases QQ.mp e with e|e
    ·subst e;refine⟨λz0=>?_,sz'⟩;have:=pz.length_eq;rw[z0,Qj]at this;simp at this;omega
    exact ok r (by simp[e])
   rw[h4,show pendingOf st1=_ from g.pend];rw[gy,Nat.zero_add];show _=_++(u.flatten.length,(X.take k++(z.toList++Y.drop m)).length)::dZ (u.flatten.length+(X.take k++(z.toList++Y.drop m)).length) v;rw[pz.length_eq,Qj,<-Nat.add_assoc];exact e3
  refine Qy ?_;show Q (failedOf st1).isNone (setArr st1 (List.foldl (λa (x:Keyed × Nat)=>a.setIfInBounds (u.flatten.length+k+x.snd) x.fst) (arrOf st1) z.toList.zipIdx));rw[show (failedOf st1).isNone=true by rw[f1];rfl];exact fin _ rfl rfl rfl rfl
 by_cases d3:X.length-k<=m
 ·refine aM d3 ?_;refine Qt (ni hL (by exact kind) hx hy (by omega) (by omega) ⟨by simp,List.Pairwise.nil,ssx,ssy,λp hp=>(nomatch hp),λp hp=>(nomatch hp),λq hq l hl=>last q hq l ?_⟩ first λr st' g so=>J r st' ⟨g,so⟩);rw[List.getLast?_eq_getElem?,Qx,Qu]at hl;exact hl
 refine aJ d3 ?_;exact Qt (nj hL (by exact kind) hx hy (by omega) (by omega) ssx ssy first last λr st' g so=>J r st' ⟨g,so⟩)
end
section
variable {xs a₀:Array Keyed}
theorem vj {lo n:Nat} (h:Up κ xs lo n) (hn:lo+n<=xs.size):((xs.toList.drop lo).take n).Pairwise (le κ):=by
 rw[List.pairwise_iff_getElem];intro i j hi hj hij;rw[Qv,Xc,Qu]at hi hj
 have at_:∀(m:Nat) (hm:m<((xs.toList.drop lo).take n).length),kv κ ((xs.toList.drop lo).take n)[m]=KK κ xs (lo+m):=λm hm=>by
  have e:=Qb hm;rw[Qv,Xc,Qu]at hm;rw[XS,Qz (by exact wS hm),XT,Qx]at e;exact(uI e).symm
 unfold le;rw[at_,at_];exact h i j (by exact ug hij) (by exact wS hj)
variable {rest:List Keyed} {rs:List (List Keyed)} {st st2:SortSt}
theorem nP (I:RI κ kd a₀ st rs rest):(pendingOf st).size=rs.length:=by
 have:=congrArg List.length I.pend;rwa [Qc,n_,Qu]at this
theorem tz {rs:List (List Keyed)} {i:Nat} (h:i+1<rs.length):∃u X Y v,rs=u++X::Y::v/\u.length=i:=by
 refine⟨rs.take i,rs[i],rs[i+1],rs.drop (i+2),?_,by rw[Qv];exact Av h⟩;rw[<-List.drop_eq_getElem_cons,<-List.drop_eq_getElem_cons,Xf]
theorem RI.seg (I:RI κ kd a₀ st rs rest) (g:Sg rs.flatten.length st st2):RI κ kd a₀ st2 rs ((arrOf st2).toList.drop rs.flatten.length):=by
 refine⟨?_,g.perm.trans I.perm,I.ok,by rw[g.pend];exact I.pend,g.kind.trans I.kind,g.fail.trans I.fail⟩
 have:(arrOf st2).toList.take rs.flatten.length=rs.flatten:=by
  refine List.ext_getElem? λi=>?_;rw[XS]
  split
  ·rename_i hi
   rw[Qx,g.head i hi,<-Qx,I.arr,QT hi]
  rename_i hi
  rw[QY (by exact om2 hi)]
 conv=>lhs;rw[<-Xf rs.flatten.length (arrOf st2).toList]
 rw[this]
variable {ps:Array (Nat × Nat × Nat)}
theorem RI.power (I:RI κ kd a₀ st rs rest) (h:ps.toList.map (λp=>(p.1,p.2.1))=(pendingOf st).toList.map (λp=>(p.1,p.2.1))):RI κ kd a₀ (setPending st ps) rs rest :=
 ⟨I.arr,I.perm,I.ok,h.trans I.pend,I.kind,I.fail⟩
theorem pJ {i pw:Nat}:(ps.modify i λx=>match x with|(st,len,_)=>(st,len,pw)).toList.map (λp=>(p.1,p.2.1))=ps.toList.map (λp=>(p.1,p.2.1)):=by
 refine List.ext_getElem? λj=>?_;rw[Qi,Qi,Qx,Qx,Array.getElem?_modify]
 split
 ·cases ps[j]? with
  | none=>rfl
  | some p=>rfl
 rfl
theorem sT (hL:iB κ kd prog w A s) {st:SortSt} {a₀:Array Keyed} {Q:Unit->SortSt->Prop} (ha:∀p∈a₀.toList,Hk κ p) (I:RI κ kd a₀ st [] a₀.toList)
  (h:∀st',(arrOf st').Perm a₀->failedOf st'=none->(arrOf st').toList.Pairwise (le κ)->Q () st'):wpS (model prog w) A E s sortRuns' Q st:=by
 have ha2:∀{st:SortSt} {rs:List (List Keyed)} {rest:List Keyed},RI κ kd a₀ st rs rest->∀p∈(arrOf st).toList,Hk κ p:=λI p hp=>ha p ((Array.perm_iff_toList_perm.mp I.perm).mem_iff.mp hp)
 have sz:∀{st:SortSt} {rs:List (List Keyed)} {rest:List Keyed},RI κ kd a₀ st rs rest->(arrOf st).size=a₀.size/\a₀.size=rs.flatten.length+rest.length:=λI=>by
  have:=I.perm.size_eq;refine⟨this,?_⟩;rw[<-this,<-Qu,I.arr,Qj]
 unfold sortRuns';refine Qt (wpS_get ?_)
 extract_lets szv mr lo0
 have ez:szv=a₀.size:=(sz I).1
 clear_value szv mr
 subst ez;refine Qt (wpS_mono (Xv (I:=λx c st'=>∃rs rest,c=(none,rs.flatten.length)/\RI κ kd a₀ st' rs rest/\(x<=rs.flatten.length\/rest=[])) (Q:=λc st'=>∃rs lo,c=(none,lo)/\RI κ kd a₀ st' rs []) ?step ?fin ⟨[],_,rfl,I,.inl (QM _)⟩) ?post)
 case fin =>
  rintro c st' ⟨rs,rest,rfl,J,o⟩;have:=(sz J).2
  have e:rest=[]:=by
   rcases o with o|o
   ·exact Xh (by exact Au this o)
   exact o
  subst e;exact⟨rs,_,rfl,J⟩
 case step =>
  rintro x c st' _ hx ⟨rs,rest,rfl,J,o⟩;have zz:=(sz J).2;have zs:=(sz J).1;generalize hlo:rs.flatten.length=lo at *;by_cases c1:lo>=a₀.size
  ·show wpS _ _ _ _ (if lo>=a₀.size then _ else _) _ _;refine aM c1 ?_;have e:rest=[]:=Xh (by exact As zs zz c1);subst e;exact Qy ⟨rs,_,rfl,J⟩
  show wpS _ _ _ _ (if lo>=a₀.size then _ else _) _ _;refine aJ c1 ?_
  have xlo:x<=lo:=by
   rcases o with o|o
   ·exact o
   subst o;simp at zz;exact Ar zs c1 zz
  refine Qt (q_ (lo:=lo) (nrem:=a₀.size-lo) hL J.kind (ha2 J) (by exact Aq zs zz c1) (by exact Ap zs zz c1) λm st1 g1 m1 m2 up=>?_);dsimp -zeta only
  extract_lets n jp
  refine gd (λz:Nat=>jp () z) (λz st2=>Sg lo st' st2/\1<=z/\lo+z<=a₀.size/\Up κ (arrOf st2) lo z) (λn st2 hz=>?_) (λJJ=>?_)
  ·obtain⟨g2,n1,n2,up2⟩:=hz;have J2:=J.seg (by rw[hlo];exact g2);rw[hlo]at J2;have z2:=(sz J2).2;have up3:=vj up2 (by rw[(sz J2).1];exact n2);generalize hr2:(arrOf st2).toList.drop lo=rest2 at J2 up3 z2;rw[hlo]at z2;refine Qt (wpS_get ?_)
   extract_lets ln jp2
   refine gd (λ_:Unit=>jp2 ()) (λ_ st3=>∃rs3,RI κ kd a₀ st3 rs3 rest2/\rs3.flatten.length=lo) (λ_ st3 hz=>?_) (λJP=>?_)
   ·obtain⟨rs3,J3,l3⟩:=hz;refine Qt (wpS_modify ?_);refine Qy ⟨rs3++[rest2.take n],rest2.drop n,?_,⟨?_,J3.perm,λr hr=>?_,?_,J3.kind,J3.fail⟩,.inl ?_⟩
    ·have:(rs3++[rest2.take n]).flatten.length=lo+n:=by rw[List.flatten_append,Qj,l3];simp;omega
     rw[this]
    ·rw[List.flatten_append];show (arrOf st3).toList=_;rw[J3.arr];simp
    ·rcases QH.mp hr with e|e
     ·exact J3.ok r e
     have e:r=rest2.take n:=by simpa using e
     subst e;refine⟨λz0=>?_,up3⟩;have:=congrArg List.length z0;rw[Qv,Xq]at this;omega
    ·show ((pendingOf st3).push (lo,n,0)).toList.map _=_;rw[Array.toList_push,Qw,J3.pend,gy,Nat.zero_add,l3];show _=_++[(lo,(rest2.take n).length)];rw[Qv,show min n rest2.length=n by omega];rfl
    have:(rs3++[rest2.take n]).flatten.length=lo+n:=by rw[List.flatten_append,Qj,l3];simp;omega
    exact Ao xlo n1 l3 this
   cases hb:(pendingOf st2).back? with
   | none=>exact JP () st2 ⟨rs,J2,hlo⟩
   | some p =>
   obtain⟨s1,l1,pw1⟩:=p;dsimp -zeta only
   extract_lets pw
   refine Qt (wpS_mono (Xv (I:=λ_ c st3=>c=(none,())/\∃rs3,RI κ kd a₀ st3 rs3 rest2/\rs3.flatten.length=lo) (Q:=λc st3=>c=(none,())/\∃rs3,RI κ kd a₀ st3 rs3 rest2/\rs3.flatten.length=lo) ?_ (λ_ _ z=>z) ⟨rfl,rs,J2,hlo⟩) ?_)
   ·rintro y c st3 _ _ ⟨rfl,rs3,J3,l3⟩;have pl:=nP J3;refine Qt (wpS_get ?_);show wpS _ _ _ _ (match (if (pendingOf st3).size>1 then (pendingOf st3)[(pendingOf st3).size-2]? else none) with|some (_,_,older)=>_|x=>_) _ _;by_cases c2:(pendingOf st3).size>1
    ·rw[Qz c2];obtain⟨q,hq⟩:∃q,(pendingOf st3)[(pendingOf st3).size-2]?=some q:=⟨(pendingOf st3)[(pendingOf st3).size-2],by rw[QF]⟩;rw[hq];obtain⟨q1,q2,older⟩:=q;dsimp -zeta only;by_cases c3:older<=pw
     ·refine aM c3 ?_;exact Qy ⟨rfl,rs3,J3,l3⟩
     refine aJ c3 ?_;obtain⟨u,X,Y,v,rfl,ul⟩:=tz (rs:=rs3) (i:=(pendingOf st3).size-2) (by exact An pl c2);rw[<-ul];refine Qt (h_ hL ha J3 λZ st4 lz J4=>?_);refine aJ Qn ?_;refine Qy ⟨rfl,_,J4,?_⟩;rw[<-l3];simp;exact Am lz
    rw[QA c2];exact Qy ⟨rfl,rs3,J3,l3⟩
   rintro c st3 ⟨rfl,rs3,J3,l3⟩;refine Qt (wpS_modify ?_);exact JP () _ ⟨rs3,J3.power pJ,l3⟩
  have z1:=g1.size;by_cases c2:n<mr
  ·refine aM c2 ?_;refine Qt (wpS_lift (XR ⟨rfl,?_⟩));have en:n=m:=rfl;refine Qt (vg (lo:=lo) (n:=min (a₀.size-lo) mr) (ok:=m) hL (g1.kind.trans J.kind) (g1.keys (ha2 J)) (by omega) (by omega) up λst2 g2 up2=>?_);refine aJ Qn ?_;exact JJ _ st2 ⟨g1.trans g2,by omega,by omega,up2⟩
  refine aJ c2 ?_;exact JJ m st1 ⟨g1,m1,by omega,up⟩
 case post =>
  rintro c st1 ⟨rs,lo,rfl,J⟩;have zz:=(sz J).2
  have short:∀(rs:List (List Keyed)),(∀r∈rs,r≠[]/\r.Pairwise (le κ))->rs.length<=rs.flatten.length:=λrs=>by
   induction rs with
   | nil=>intro _;simp
   | cons r rs ih =>
   intro hr;have h1:=(hr r (by simp)).1;have h2:=ih λr' h'=>hr r' (by simp[h']);have:r.length≠0:=λe=>h1 (Xh e);rw[List.flatten_cons,Qj,Q0];exact Al h2 this
  have len0:=short rs J.ok;simp only[Xq,Nat.add_zero]at zz;refine Qt (wpS_mono (Xv (I:=λx c st'=>c=(none,())/\∃rs,RI κ kd a₀ st' rs []/\rs.length+x<=a₀.size+1) (Q:=λc st'=>c=(none,())/\∃rs,RI κ kd a₀ st' rs []/\rs.length<=1) ?_ ?_ ⟨rfl,rs,J,by exact Ak zz len0⟩) ?_)
  ·rintro x c st' _ hx ⟨rfl,rs,J,l⟩;have pl:=nP J;refine Qt (wpS_get ?_);show wpS _ _ _ _ (if (pendingOf st').size<=1 then _ else _) _ _;by_cases c2:(pendingOf st').size<=1
   ·refine aM c2 ?_;exact Qy ⟨rfl,rs,J,by exact Aj pl c2⟩
   refine aJ c2 ?_
   extract_lets i bf j
   have hj:j+1<rs.length:=by
    have h1:j=i-1\/j=i:=by
     show (if _ then i-1 else i)=i-1\/(if _ then i-1 else i)=i
     split
     ·exact .inl rfl
     exact .inr rfl
    exact zg h1 c2 pl
   obtain⟨u,X,Y,v,rfl,ul⟩:=tz hj
   clear_value j
   subst ul;refine Qt (h_ hL ha J λZ st4 lz J4=>?_);refine aJ Qn ?_;refine Qy ⟨rfl,_,J4,?_⟩;simp only[Qj,Q0]at l ⊢;omega
  ·rintro c st' ⟨rfl,rs,J,l⟩;exact⟨rfl,rs,J,by exact Ai zz l⟩
  rintro c st' ⟨rfl,rs,J,l⟩;refine Qy (h st' J.perm J.fail ?_);rw[J.arr,List.append_nil]
  match rs,l,J.ok with
  | [],_,_=>exact List.Pairwise.nil
  | [r],_,ok=>simpa using(ok r (by simp)).2
end
end Tm
namespace Tm
open PySem PySem.Spec PyProof.Rows
def leV (κ:PyProof.Rows.KeyKind) (u v:Value):Prop:=le κ (u,u) (v,v)
theorem nh {vs:List Value} {p:Keyed} (h:p∈vs.zip vs):p.1=p.2/\p.1∈vs:=by
 obtain⟨i,hi,e⟩:=Qr.mp h;rw[List.getElem_zip]at e;subst e;exact⟨rfl,Xj _⟩
theorem t6 {κ:PyProof.Rows.KeyKind} {vs:List Value} {xs:Array Keyed} (hp:xs.Perm (pairsOf vs)) (hs:xs.toList.Pairwise (le κ)):((xs.map (·.2)).toList).Perm vs/\((xs.map (·.2)).toList).Pairwise (leV κ):=by
 have hl:xs.toList.Perm (vs.zip vs):=by rw[<-pairsOf_toList];exact Array.perm_iff_toList_perm.mp hp
 have self:∀p∈xs.toList,p.1=p.2:=λp h=>(nh (hl.mem_iff.mp h)).1
 have e:vs=(vs.zip vs).map (·.2):=by
  rw[List.map_snd_zip];exact Qh _
 refine⟨?_,?_⟩
 ·rw[Array.toList_map]
  conv=>rhs;rw[e]
  exact hl.map _
 rw[Array.toList_map,List.pairwise_map];refine hs.imp_of_mem λ{a b} ha hb h=>?_;have h1:=self a ha;have h2:=self b hb;unfold leV le kv at *;rw[<-h1,<-h2];exact h
section
variable {prog:Program} {w:World} {A:Around} {E:Value->Shared->Prop} {s:Shared}
structure Can (prog:Program) (w:World) (κ:PyProof.Rows.KeyKind) (kd:SortKind) (h:Heap) (a:Addr) (vs:List Value):Prop where
 key:∀v∈vs,∃x,κ.keyOf v=some x
 lt:∀(A:Around) (s:Shared),(∀b o,b≠a->h.get? b=some o->s.heap.get? b=some o)->iB κ kd prog w A s
 kind:2<=vs.length->∀(A:Around) (E:Value->Shared->Prop) (s:Shared) (Q:SortKind->Shared->Prop),(∀b o,b≠a->h.get? b=some o->s.heap.get? b=some o)->Q kd s->wpAny (model prog w) A (keyKind' vs.toArray) Q E s
variable {vs:List Value} {a b:Addr}
theorem jz {κ:PyProof.Rows.KeyKind} {kd:SortKind} {n:Nat} {P:Fin->Shared->Prop} (ho:s.heap.get? a=some (seqObj "list" vs.toArray n)) (c:Can prog w κ kd s.heap a vs) (hn:vs.length<=100000)
  (h:∀out:Array Value,out.toList.Perm vs->out.toList.Pairwise (leV κ)->P (.done (.ret .none)) { s with heap:=sortedHeap s.heap a vs out }):wpAny (model prog w) A (Builtin.«list.sort» ⟨[.ref a],[]⟩) P E s:=by
 rw[list_sort_plain];have ha:a<s.heap.objs.size:=Qm ho;refine Qa (listItems_at ho rfl (Qa (listUpdate_at ho rfl ?_)));obtain⟨e1,ho1⟩:∃e1,(s.heap.update a (Obj.mapSeq λ_=>#[])).get? a=some (seqObj "list" #[] e1):=⟨_,get?_update_seq ho (λ_=>#[])⟩;refine Qa (seqEpoch_at ho1 rfl (Qa (wpAny_newTuple (Qa (wpAny_newList (QS ?_))) (by rw[sizeLine_eq];show vs.length<=_;exact wR hn))))
 have keep:∀b o,b≠a->s.heap.get? b=some o->(((s.heap.update a (Obj.mapSeq λ_=>#[])).push (seqObj "tuple" vs.toArray 0)).push (seqObj "list" #[] 0)).get? b=some o:=λb o hb e =>
  Qd _ (Qd _ ((Q4 _ _ (XI hb)).trans e))
 have ho6:(((s.heap.update a (Obj.mapSeq λ_=>#[])).push (seqObj "tuple" vs.toArray 0)).push (seqObj "list" #[] 0)).get? a=some (seqObj "list" #[] e1):=Qd _ (Qd _ ho1);show wpAny (model prog w) A _ P E { s with heap:=((s.heap.update a (Obj.mapSeq λ_=>#[])).push (seqObj "tuple" vs.toArray 0)).push (seqObj "list" #[] 0) };dsimp only;have zs:vs.toArray.size=vs.length:=by simp
 by_cases c2:vs.toArray.size<2
 ·rw[Qz c2,Qz c2];refine Qa (Qf ?_);rw[StateT.run_pure];refine Qa (Qf (Qa (seqEpoch_at ho6 rfl (Qa (listUpdate_at ho6 rfl ?_ (hsz2:=by rw[Array.size_map];show (pairsOf vs).size<=_;rw[pairsOf_size,sizeLine_eq];exact Ah hn zs c2))))));simp only[bne_self_eq_false,QK,XV]
  have sh:(pairsOf vs).toList.Pairwise (le κ):=by
   rw[pairsOf_toList]
   match vs,zs,c2 with
   | [],_,_=>exact List.Pairwise.nil
   | [v],_,_=>exact List.pairwise_singleton _ _
   | v::u::r,zs,c2=>exact absurd c2 (by simp)
  obtain⟨p1,p2⟩:=t6 (Array.Perm.refl _) sh;exact Qf (h _ p1 p2)
 rw[QA c2,QA c2];refine Qa (c.kind (by exact Ag hn zs c2) _ _ _ _ keep ?_)
 refine Qa (Xn (sT (κ:=κ) (kd:=kd) (a₀:=pairsOf vs) (st:=SortSt.mk' kd (vs.toArray.zip vs.toArray) #[] 7 none) (Q:=λ_ st'=>(arrOf st').Perm (pairsOf vs)/\failedOf st'=none/\(arrOf st').toList.Pairwise (le κ))
  (c.lt _ _ keep) (λp hp=>?_) ⟨rfl,Array.Perm.refl _,λr hr=>(nomatch hr),rfl,rfl,rfl⟩ λst' a1 a2 a3=>⟨a1,a2,a3⟩) ?_ λ_ _ e=>e)
 ·rw[pairsOf_toList]at hp;exact c.key _ (nh hp).2
 rintro⟨⟨⟩,st'⟩ s' ⟨rfl,hp,hf,hs⟩;dsimp only;refine Qa (seqEpoch_at ho6 rfl (Qa (listUpdate_at ho6 rfl ?_ (hsz2:=by refine QP (Nat.le_of_eq ((Array.size_map ..).trans (hp.size_eq.trans (pairsOf_size _)))) ?_;rw[sizeLine_eq];exact Af hn zs c2))));rw[hf];simp only[bne_self_eq_false,QK,XV];obtain⟨p1,p2⟩:=t6 hp hs;exact Qf (h _ p1 p2)
theorem eP {h:Heap} {out:Array Value} {o:Obj} (hb:b≠a) (e:h.get? b=some o):(sortedHeap h a vs out).get? b=some o:=by
 unfold sortedHeap;exact(Q4 _ _ (XI hb)).trans (Qd _ (Qd _ ((Q4 _ _ (XI hb)).trans e)))
theorem fI {h:Heap} {vs:List Value} {out:Array Value} {n:Nat} (e:h.get? a=some (seqObj "list" vs.toArray n)):∃m,(sortedHeap h a vs out).get? a=some (seqObj "list" out m):=by
 unfold sortedHeap;exact⟨_,get?_update_seq (Qd _ (Qd _ (get?_update_seq e (λ_=>#[])))) (λ_=>out)⟩
theorem kK {κ:Heap->PyProof.Rows.KeyKind} {kd:SortKind} {r:Value} {Q:Value->Shared->Prop} {G:Heap->List Value->Prop}
  (col:∀(A:Around) (E:Value->Shared->Prop) (R:List Value->Shared->Prop),A.handled=none->(∀h' tk vs,(∀b o,s.heap.get? b=some o->h'.get? b=some o)->s.heap.objs.size<=h'.objs.size->G h' vs->R vs { s with heap:=h',toks:=tk })->wpAny (model prog w) A (collect r) R E s)
  (hh:A.handled=none) (can:∀h' vs D,(∀b o,s.heap.get? b=some o->h'.get? b=some o)->G h' vs->D=h'.objs.size->vs.length<=100000/\Can prog w (κ h') kd (h'.push (seqObj "list" vs.toArray 0)) D vs)
  (h:∀D h' tk vs h1 (out:Array Value) m,(∀b o,s.heap.get? b=some o->h1.get? b=some o)->G h1 vs->(∀b o,h1.get? b=some o->h'.get? b=some o)->s.heap.objs.size<=D->h1.objs.size<=D->h'.get? D=some (seqObj "list" out m)->out.toList.Perm vs->out.toList.Pairwise (leV (κ h1))->Q (.ref D) { s with heap:=h',toks:=tk }) :
  wpAny (model prog w) A (call (.builtin "sorted") [r]) Q E s:=by
 refine Calls.call_function_entry kind_sorted plain_sorted entry_sorted (args_sorted1 _) ?_;unfold Builtin.«sorted»;refine Qa (m:=checkCount "sorted" 1 1 _) (Qf ?_);refine Qa (col A.in1 E _ hh λh1 tk vs k1 z1 g1=>?_);obtain⟨len,_⟩:=can h1 vs h1.objs.size k1 g1 rfl;refine Qa (wpAny_newList ?_ (by rw[sizeLine_eq];exact wR len));obtain⟨_,cn⟩:=can h1 vs h1.objs.size k1 g1 rfl;have hoL:(h1.push (seqObj "list" vs.toArray 0)).get? h1.objs.size=some (seqObj "list" vs.toArray 0):=Qp _ rfl;refine Qa (QS (XB (s:={ s with heap:=h1.push (seqObj "list" vs.toArray 0),toks:=tk }) slot_list_sort ⟨_,hoL,rfl⟩ entry_list_sort (jz hoL cn len λout p1 p2=>⟨_,rfl,?_⟩) (args_list_sort _)));obtain⟨m,at'⟩:=fI (vs:=vs) (out:=out) hoL;exact Qf ⟨_,rfl,h _ _ _ vs h1 out m k1 g1 (λb o e=>eP (QB (Qm e)) (Qd _ e)) z1 (Qh _) at' p1 p2⟩
theorem u4 {T:String} {r d:Addr} {n:Nat} {P:Nat->Value->Prop} {OK:Heap->Prop} {R:List Value->Shared->Prop} (K:PySem.W.KdlSrc prog w T r d n P OK) (hh:A.handled=none) (ok:OK s.heap) (hn:n<=sizeLine)
  (h:∀(g:Heap) (tk:Nat) (acc:Array Value),(∀b o,s.heap.get? b=some o->g.get? b=some o)->s.heap.objs.size<=g.objs.size->PySem.ItemsOf P acc n->R acc.toList { s with heap:=g,toks:=tk }):wpAny (model prog w) A (collect (.ref r)) R E s:=by
 obtain⟨l1,l2⟩:=K.there _ ok;unfold collect;refine Qa (wpAny_runValue (Xr entry_proto_collect' ?_));rw[Xa PySem.F.plain_proto_collect _];refine Qa (wpAny_newObj_type (Qf ⟨XX PySem.F.plain_list_iadd _,Xr entry_list_iadd' ?_⟩));rw[Xa PySem.F.plain_list_iadd _]
 refine Xn (PySem.W.kdl_extend (A:=A) (s:={ s with heap:=s.heap.push { cls:=.type "list", data:=.seq ([]:List Value).toArray } }) (R:=λq s'=>∃(g:Heap) (tk:Nat) (acc:Array Value) (c:Nat),q=.ok (.ret (.ref s.heap.objs.size))/\s'={ s with heap:=g,toks:=tk } /\
   (∀b o,s.heap.get? b=some o->g.get? b=some o)/\g.get? s.heap.objs.size=some { cls:=.type "list", dict:=none,data:=.seq acc c,slots:=#[] }/\PySem.ItemsOf P acc n)
  K hh (K.keep _ _ ok λb _ o e=>Qd _ e) s.heap.objs.size (Nat.ne_of_gt l1) (Nat.ne_of_gt l2) (.ref s.heap.objs.size) 0 (Qp _ rfl)
  (λg tk acc c k at' it=>⟨g,tk,acc,c,rfl,rfl,λb o e=>k b o (QB (Qm e)) (Qd _ e),at',it⟩) hn) (λfn s' x=>?_) λe s' x=>?_
 ·cases fn with
  | done f =>
   obtain⟨g,tk,acc,c,e,rfl,k,at',it⟩:=x;cases e;exact Qa (wpAny_load at' (Qf (h g tk acc k (XH (Qm at')) it)))
  | again c1 =>
   refine⟨x.1,codeAny_mono x.2 λq s2 y=>?_⟩;obtain⟨g,tk,acc,c,rfl,rfl,k,at',it⟩:=y;exact Qa (wpAny_load at' (Qf (h g tk acc k (XH (Qm at')) it)))
 obtain⟨_,_,_,_,z,_⟩:=x;cases z
theorem jT {h:Heap} {ss:List Str} (hS:StrsAre vs ss):Can prog w PyProof.Rows.strKind oneType' h a vs where
 key v hv:=by
  obtain⟨x,t,e⟩:=hS.all v hv;exact⟨x.cps.toList,by rw[e]⟩
 lt A s _:=λE x y a b Q ha hb hq=>by rw[keyLt'_oneType];exact strKind_oneLt prog w A E s x y a b ha hb hq
 kind h2 A E s Q _ hq:=by
  match vs,hS,h2 with
  | v₁::v₂::rest,hS,_=>rw[keyKind_strs hS];exact Qf hq
end
end Tm
set_option maxHeartbeats 4000000
namespace L2
open PySem PySem.Spec PyProof.Rows
def leT (a b:Str):Prop:=¬(b.cps.toList<a.cps.toList)
theorem uG {a b:Str} (h1:leT a b) (h2:leT b a):a=b:=by
 have e:=List.le_antisymm (List.not_lt.mp h1) (List.not_lt.mp h2);cases a;cases b;exact congrArg Str.mk (Array.toList_inj.mp e)
theorem tG {xs ys:List Str} (hx:xs.Pairwise leT) (hy:ys.Pairwise leT) (p:xs.Perm ys):xs=ys:=List.Perm.eq_of_pairwise (λa b _ _ h1 h2=>uG h1 h2) hx hy p
theorem i3 {ts:List Str} {out:List Value}:∀{us:List Value},StrsAre us ts->out.Perm us->out.Pairwise (Tm.leV PyProof.Rows.strKind)->∃ss,StrsAre out ss/\ss.Perm ts/\ss.Pairwise leT:=λ{us} h p s=>by
 have all:∀v∈out,∃x t,v=.str x t:=λv hv=>h.all v (p.mem_iff.mp hv);refine⟨out.map strOf,strsAre_map out all,by rw[<-h.strs];exact p.map _,?_⟩;rw[List.pairwise_map];refine s.imp_of_mem λ{a b} ha hb q=>?_;obtain⟨x,t,rfl⟩:=all a ha;obtain⟨y,u,rfl⟩:=all b hb;have q:decide (y.cps.toList<x.cps.toList)=false:=q;show ¬(y.cps.toList<x.cps.toList);simpa using q
theorem fO:∀{ys:List Str} {us:List Value},StrsAre us ys->aY (ys.map V.str) us
 | _,_,.nil=>.nil
 | _,_,.cons x t h=>.cons ⟨t,rfl⟩ (fO h)
theorem ql:∀{as:List Value} {ss:List Str},as.length=ss.length->(∀(j:Nat) v,as[j]?=some v->∃x t,ss[j]?=some x/\v=.str x t)->StrsAre as ss
 | [],[],_,_=>.nil
 | [],_::_,h,_=>by simp at h
 | _::_,[],h,_=>by simp at h
 | a::as,x::ss,h,f=>by
  obtain⟨y,t,e1,e2⟩:=f 0 a rfl;cases e1;subst e2;exact .cons x t (ql (by simpa using h) λj v e=>by obtain⟨y,t,e1,e2⟩:=f (j+1) v (by simpa using e);exact⟨y,t,by simpa using e1,e2⟩)
section
variable {X:Cx}
def B2 (K:PySem.W.Frag) (H:Hp) (l:Addr) (ss:List Str):Prop:=SqL K H l (ss.map V.str)\/∃kvs,Rd H l (.dK kvs)/\kvs.map (·.1)=ss.map Sum.inr
def xH (K:PySem.W.Frag):List V->Hp->VK->Prop:=λxs H Q=>∃(l:Addr) (ss:List Str),xs=[.ref l]/\B2 K H l ss/\ss.length<=100000/\∀(p:Addr) (ss':List Str),H p=none->ss'.Perm ss->ss'.Pairwise leT->Q (.ref p) (upd H p (.lst (ss'.map V.str)))
theorem f8 (hc:X.calm=true):dN X (.builtin "sorted") (xH X.K):=by
 intro pins s σ H xs us Q I r h;obtain⟨l,ss,rfl,src,hz,q⟩:=h;obtain⟨u,rfl,ru⟩:=dy r;cases ru
 have fin:∀(D:Addr) (h':Heap) (tk:Nat) (vs:List Value) (h1:Heap) (out:Array Value) (m:Nat),(∀b o,s.heap.get? b=some o->h1.get? b=some o)->StrsAre vs ss->(∀b o,h1.get? b=some o->h'.get? b=some o)->s.heap.objs.size<=D->h1.objs.size<=D->h'.get? D=some (seqObj "list" out m)->out.toList.Perm vs->out.toList.Pairwise (Tm.leV PyProof.Rows.strKind)->EP X pins σ Q (.ref D) { s with heap:=h',toks:=tk }:=λD h' tk vs h1 out m k1 g1 k2 hle hD at' p1 p2=>by
  obtain⟨ss',so,pm,st⟩:=i3 g1 p1 p2;have lo:ss'.length=ss.length:=pm.length_eq;exact⟨.ref D,_,I.laid (o:=.lst (ss'.map V.str)) (t':=tk) (λb o g=>k2 b o (k1 b o g)) hle ⟨by rw[Qc,sizeLine_eq];exact yj hz lo,out.toList,m,fO so,at'⟩,rfl,q _ ss' (I.hok.fresh hle) pm st⟩
 rcases src with hl|⟨kvs,rd,ek⟩
 ·obtain⟨its,rv,pl,_⟩:=I.list hl;have sa:=fP rv;have hlen:its.length=ss.length:=by rw[<-rv.length,Qc]
  refine Tm.kK (s:=s) (κ:=λ_=>PyProof.Rows.strKind) (kd:=oneType') (G:=λ_ vs=>StrsAre vs ss) (λA E R _ hR=>collect_list pl.isList (hR _ _ its (λb o e=>?_) (by rw[Heap.size_update,size_push'];exact Nat.le_succ _) sa) (by rw[sizeLine_eq];exact yj hz hlen)) (I.ok.hd hc) (λh' vs D k g _=>⟨by rw[g.length];exact hz,Tm.jT g⟩) fin;exact(Q4 _ _ (Nat.ne_of_gt (Qm e))).trans (Qd _ e)
 obtain⟨z,hm,vs,rel,dd⟩:=jN I.hok rd;obtain⟨ep,da⟩:=dd.dictAt
 have kl:vs.length=ss.length:=by
  have:=congrArg List.length ek;rw[Qc,Qc]at this;rw[<-this];exact(KV.len rel).symm
 refine Tm.kK (s:=s) (κ:=λ_=>PyProof.Rows.strKind) (kd:=oneType') (G:=λ_ vs=>StrsAre vs ss) (λA E R hA hR=>Tm.u4 (PySem.W.kdl_dict (knd:=bg X.prog X.w) (kvs:=vs) (ep:=ep) hm) hA da (by rw[sizeLine_eq];exact yj hz kl) λh' tk acc k z it=>hR h' tk acc.toList k z ?_) (I.ok.hd hc) (λh' vs D k g _=>⟨by rw[g.length];exact hz,Tm.jT g⟩) fin;have al:acc.toList.length=ss.length:=by rw[Qu,it.1,kl]
 have at_:∀(j:Nat) v,acc.toList[j]?=some v->∃x t,ss[j]?=some x/\v=.str x t:=λj v e=>by
  obtain⟨k,x,e1,e2⟩:=it.2 j v (by rw[<-Qx];exact e)
  obtain⟨y,e3⟩:∃y,kvs[j]?=some (k,y):=by
   have hj:j<kvs.length:=by rw[KV.len rel];exact(Qe.mp e1).1
   obtain⟨u,hu,_⟩:=KV.get (i:=j) (k:=kvs[j].1) (v:=kvs[j].2) rel (by rw[Qb hj]);rw[e1]at hu;cases hu;exact⟨kvs[j].2,by rw[Qb hj]⟩
  have e4:=congrArg (·[j]?) ek;simp only[Qi,e3]at e4
  cases e5:ss[j]? with
  | none=>rw[e5]at e4;cases e4
  | some y' =>
  rw[e5]at e4;have e6:k=Sum.inr y':=QX e4;subst e6;obtain⟨t,e7⟩:=xi e2;exact⟨y',t,rfl,e7⟩
 exact ql al at_
end
end L2
namespace LZ
open PySem
section
variable {prog:Program} {w:World} {A:Around} {E:Value->Shared->Prop} {s:Shared}
theorem gA:typeLookup (.type "list") "__getattr__" = pure none:=by rw[typeLookup_type,Xp];kernel_rfl
theorem jA:typeLookup (.type "list") "keys" = pure none:=by rw[typeLookup_type,Xp];kernel_rfl
theorem dI:entryFor table "list.__getattribute__" = some Builtin.«object.__getattribute__» :=
 entryFor_alias (id' := "object.__getattribute__") (by kernel_rfl) (by decide +kernel) (by decide +kernel) (by kernel_rfl)
theorem iy (a:Addr) (xs:Array Value) (m:Nat) (sl:Array (Option Value)) (u:Tok) :
  Meets (Builtin.«object.__getattribute__» ⟨[.ref a,.str "keys" u],[]⟩) (λA R s=>s.heap.get? a=some { cls:=.type "list", dict:=none,data:=.seq xs m,slots:=sl }/\raisesAttr (.ref a) "keys" A R s) :=
 Meets.of_wp λprog w A R s hs=>by
  obtain⟨hp,g,d,tk,os⟩:=s;obtain⟨hx,hs⟩:=hs;have hT:(⟨hp,g,d,tk,os⟩:Shared).TypeIs (.ref a) "list" := ⟨_,hx,rfl⟩;have hmiss:=jA;have hname:(["__module__", "__name__", "__qualname__", "__doc__", "__annotations__"]:List Str).contains "keys" = false:=by decide +kernel
  unfold Builtin.«object.__getattribute__»
  repeat (any_goals (first|assumption|wp_step))
  try simp only[hname,QK,XV]
  repeat (any_goals (first|assumption|wp_step))
  exact wpAny_raiseAttrError hs.1 hs.2 (attrMsg_fits (by decide +kernel) (by decide +kernel))
theorem pR {a:Addr} {xs:Array Value} {m:Nat} {sl:Array (Option Value)} {Q:Option Value->Shared->Prop} (hx:s.heap.get? a=some { cls:=.type "list", dict:=none,data:=.seq xs m,slots:=sl }) (hA:A.handled=none)
  (h:∀h' tk,(∀c o,s.heap.get? c=some o->h'.get? c=some o)->Q none { s with heap:=h',toks:=tk }):wpAny (model prog w) A (getAttr? (.ref a) "keys") Q E s:=by
 obtain⟨hp,g,d,tk,os⟩:=s;have hT:∀tk',(⟨hp,g,d,tk',os⟩:Shared).TypeIs (.ref a) "list" := λ_=>⟨_,hx,rfl⟩;have f1:=sub_AttributeError;have f3:=F.slot_list_getattribute.lookup;have f4:=F.slot_list_getattribute.bind (.ref a);have f5:=gA;unfold getAttr? getAttrBy? getAttrBy
 repeat (any_goals (first|assumption|exact hT _|((with_reducible show wpAny _ _ (call (Value.builtin "list.__getattribute__") _ _) _ _ _);refine call_meets F.slot_list_getattribute (hT _) dI (F.args_list_getattribute_2 _ _) (iy a xs m sl _) ⟨hx,hA,λh' tk' e hx'=>?_⟩)|wp_step))
 obtain⟨t',u',he⟩:=hx'.there;show wpAny _ _ (getattributeRaised _ _ _ _ _ _ _) _ _ _;unfold getattributeRaised
 repeat (any_goals (first|assumption|wp_step))
 all_goals exact h _ _ hx'.keeps
end
section
variable {prog:Program} {w:World} {K:Type} [DecidableEq K] {knd:KeyKind prog w K} {A:Around} {R:Result->Shared->Prop}
def iP (h:Heap) (xs:Array Value) (ka va:Nat->Value) (it d:Addr):Prop:=∀k,k<xs.size->∃(T:Addr) (o:Obj) (n:Nat),xs[k]?=some (.ref T)/\h.get? T=some o/\o.cls=.type "tuple" /\ o.data=.seq #[ka k,va k] n/\T≠it/\T≠d
theorem iP.keep {h h':Heap} {xs:Array Value} {ka va:Nat->Value} {it d:Addr} (p:iP h xs ka va it d) (hk:∀c o,c≠it->c≠d->h.get? c=some o->h'.get? c=some o):iP h' xs ka va it d:=λk hlt =>
 let ⟨T,o,n,e1,e2,e3,e4,e5,e6⟩:=p k hlt;⟨T,o,n,e1,hk T o e5 e6 e2,e3,e4,e5,e6⟩
theorem pX {it l d:Addr} {xs:Array Value} {ka va:Nat->Value} (nid:d≠it) (nil:l≠it) (ndl:l≠d) (hh:A.handled=none) (ks:Nat->K) (hk:∀k,k<xs.size->knd.is (ks k) (ka k)=true) (hsz:xs.size<=sizeLine) :
  ∀(m k:Nat) (i:Int) (s:Shared) (kvs:List (K × Value)),xs.size-k=m->k<=xs.size->s.heap.IsListIter it l k->s.heap.IsList l xs->iP s.heap xs ka va it d->s.heap.DictOf knd d kvs->kvs.length<=k ->
  (∀h' tk,h'.DictOf knd d (cT kvs ((List.range (xs.size-k)).map λj=>(ks (k+j),va (k+j))))->(∀c o,c≠it->c≠d->s.heap.get? c=some o->h'.get? c=some o)->R (.ok (.ret .none)) { s with heap:=h',toks:=tk }) ->
  codeAny (model prog w) A (.builtin "dict.update.loop" ⟨[.ref d,.ref it,rawInt i,.none],[]⟩) R s:=by
 intro m
 induction m with
 | zero =>
  intro k i s kvs hm hkk hit hl hp hd hkl hR;have hin:k=xs.size:=by exact wQ hm hkk
  refine Xr fE ?_;rw[Xa bX _];show wpAny _ A.in1 (pyNext (.ref it) >>= _) _ _ s;refine Qa (wpAny_pyNext_list_end (show A.in1.handled=none from hh) hit hl (by rw[hin];simp) λh' hkeep=>?_);show wpAny _ _ (Builtin.Dict.addKeywords d [] >>= _) _ _ _;refine Qa (Qf (Qf ?_))
  have hd':h'.DictOf knd d kvs:=by
   obtain⟨o,es,ep,e1,r⟩:=hd;exact⟨o,es,ep,hkeep d o nid e1,r⟩
  refine hR h' s.toks ?_ λc o c1 _ e=>hkeep c o c1 e;rw[hm];exact hd'
 | succ m ih =>
 intro k i s kvs hm hkk hit hl hp hd hkl hR;have hlt:k<xs.size:=by exact wP hm hkk
 obtain⟨T,oT,n,hx,hT,hTc,hTd,nTi,nTd⟩:=hp k hlt;refine Xr fE ?_;rw[Xa bX _];show wpAny _ A.in1 (pyNext (.ref it) >>= _) _ _ s;refine Qa (wpAny_pyNext_list_item hit hl hx λh1 hit1 hs1=>?_);have k1:∀c o,c≠it->s.heap.get? c=some o->h1.get? c=some o:=λc o n1 e=>hs1.extBut c o n1 e
 have hd1:h1.DictOf knd d kvs:=by
  obtain⟨o,es,ep,e1,r⟩:=hd;exact⟨o,es,ep,k1 d o nid e1,r⟩
 have hT1:=k1 T oT nTi hT;refine Qa (QS ?_);have hTy:(Shared.TypeIs { s with heap:=h1 } (.ref T) "tuple"):=⟨_,hT1,hTc⟩;refine Qa (wpAny_tryCatch ?_);unfold Builtin.Dict.pairItems;refine Qa (wpAny_typeOf hTy ?_);rw[Qz (by decide)];refine Qa (XG hT1 hTd (Qf ?_));show wpAny _ _ (holding [ka k,va k] (dictSet d (ka k) (va k))) _ _ _;refine QS (wpAny_dictSet_pairs (hk k hlt) hd1 (λh2 hd2 hs2=>?_) (by exact wO hsz hkl hlt));have k2:∀c o,c≠it->c≠d->s.heap.get? c=some o->h2.get? c=some o:=λc o n1 n2 e=>hs2.extBut c o n2 (k1 c o n1 e);refine Qf ⟨XX bX _,ih (k+1) (i+1) _ _ (by exact wN hm hlt) (by exact wM hlt) (hit1.extBut hs2.extBut (XI nid)) (hl.at λo e=>k2 l o nil ndl e) (hp.keep k2) hd2 (QP (iT _ _ _) (by exact rO hkl)) λh3 tk hd3 hk3=>?_⟩;refine hR h3 tk ?_ λc o c1 c2 e=>hk3 c o c1 c2 (k2 c o c1 c2 e);rw[show xs.size-k=(xs.size-(k+1))+1 from by exact zN hm hlt,List.range_succ_eq_map,QC,QW];have e:(List.range (xs.size-(k+1))).map (λj=>(ks (k+1+j),va (k+1+j)))=(List.range (xs.size-(k+1))).map ((λj=>(ks (k+j),va (k+j)))∘Nat.succ):=List.map_congr_left λj _=>by simp[Function.comp,Nat.add_assoc,Nat.add_comm 1]
 rw[e]at hd3;exact hd3
variable {Q E:Value->Shared->Prop}
theorem p_ {s:Shared} {l:Addr} {xs:Array Value} {ka va:Nat->Value} (hh:A.handled=none) (ks:Nat->K) (hk:∀k,k<xs.size->knd.is (ks k) (ka k)=true) (hsz:xs.size<=sizeLine) (hl:PlainL s.heap l xs)
  (hp:∀k,k<xs.size->∃(T:Addr) (o:Obj) (n:Nat),xs[k]?=some (.ref T)/\s.heap.get? T=some o/\o.cls=.type "tuple" /\ o.data=.seq #[ka k,va k] n)
  (h:∀h' tk,h'.DictOf knd s.heap.objs.size (cT [] ((List.range xs.size).map λj=>(ks j,va j)))->(∀c o,s.heap.get? c=some o->h'.get? c=some o)->Q (.ref s.heap.objs.size) { s with heap:=h',toks:=tk }) :
  wpAny (model prog w) A (call (.type "dict") [.ref l]) Q E s:=by
 refine callType_codes (Q₁:=λobj s1=>obj=.ref s.heap.objs.size/\s1={ s with heap:=s.heap.push { cls:=.type "dict", data:=.dict #[] } }) im (eE _) F.entry_dict_init (fL _ ⟨rfl,rfl⟩) ?_;rintro obj s1 ⟨rfl,rfl⟩;have up:∀c o,s.heap.get? c=some o->(s.heap.push { cls:=.type "dict", data:=.dict #[] }).get? c=some o:=λc o e=>Qd _ e;have hnew:(s.heap.push { cls:=.type "dict", data:=.dict #[] }).DictOf knd s.heap.objs.size []:=Heap.DictOf.new s.heap;have lt:∀{c o},s.heap.get? c=some o->s.heap.objs.size≠c:=λe=>Nat.ne_of_gt (Qm e);obtain⟨⟨c0,d0,dt0,sl0⟩,n0,ho,hoc,hod,hos⟩:=hl;have hoc:c0=.type "list" := hoc;have hod:d0=none:=hod;have hos:dt0=.seq xs n0:=hos;subst hoc hod hos;refine⟨hnew.typeIs,F.args_dict_init_2 _ _,?_⟩;unfold Builtin.«dict.__init__»;refine Qa ?_;unfold Builtin.Dict.selfAndRest;refine Qa (wpAny_notOrdered_dict hnew.typeIs ?_);show wpAny _ _ (pure (s.heap.objs.size,[Value.ref l])) _ _ _;refine Qf ?_;show wpAny _ _ (Builtin.Dict.updateFrom "dict.__init__" s.heap.objs.size (.ref l) [] .none) _ _ _;unfold Builtin.Dict.updateFrom;have hzT:Shared.TypeIs { s with heap:=s.heap.push { cls:=.type "dict", data:=.dict #[] } } (.ref l) "list" := ⟨_,up _ _ ho,rfl⟩;refine Qa (wpAny_typeOf hzT ?_);rw[Qz (by decide)];refine Qa (pR (up _ _ ho) (show A.in1.in1.handled=none from hh) λh3 tk k3=>?_);simp only[Option.isNone_none,if_true];refine Qa (XR ?_);have hL3:h3.IsList l xs:=⟨_,k3 _ _ (up _ _ ho),rfl,n0,rfl⟩
 have hd3:h3.DictOf knd s.heap.objs.size []:=by
  obtain⟨o,es,ep,e1,r⟩:=hnew;exact⟨o,es,ep,k3 _ _ e1,r⟩
 obtain⟨od,es,ep,hd3',r3⟩:=id hd3;refine Qa (wpAny_pyIter_list hL3 ?_);refine Qf ⟨XX bX _,?_⟩;have up4:∀c o,h3.get? c=some o->(h3.push { cls:=.type "list_iterator", data:=.fields #[.ref l,.int 0 0] }).get? c=some o:=λc o e=>Qd _ e;have lt3:∀{c o},h3.get? c=some o->c≠h3.objs.size:=λe=>QB (Qm e);refine pX (it:=h3.objs.size) (l:=l) (d:=s.heap.objs.size) (ka:=ka) (va:=va) (lt3 hd3') (lt3 (k3 _ _ (up _ _ ho))) (lt ho).symm (show A.in1.handled=none from hh) ks hk hsz xs.size 0 0 _ [] (by simp) (QM _) ⟨_,Qp _ rfl,rfl,rfl⟩ (hL3.at λo e=>up4 _ o e) (λk hlt=>?_) ⟨od,es,ep,up4 _ _ hd3',r3⟩ (Qh _) λh5 tk5 hd5 hk5=>?_
 ·obtain⟨T,o,n,e1,e2,e3,e4⟩:=hp k hlt;exact⟨T,o,n,e1,up4 _ _ (k3 _ _ (up _ _ e2)),e3,e4,lt3 (k3 _ _ (up _ _ e2)),(lt e2).symm⟩
 refine⟨rfl,h h5 tk5 (by simpa using hd5) λc o e=>hk5 c o (lt3 (k3 _ _ (up _ _ e))) (lt e).symm (up4 _ _ (k3 _ _ (up _ _ e)))⟩
end
end LZ
namespace L2
open PySem PySem.Spec PyProof.Rows
def sR (H:Hp) (v:V) (p:Str × V):Prop:=∃b,v=.ref b/\H b=some (.tup [.str p.1,p.2])
def eG (ps:List (Str × V)):List (Key × V):=ps.map λp=>((Sum.inr p.1:Key),p.2)
section
variable {X:Cx} {a:Expr} {ta:TA} {p1 pos1:Pos}
def qj (K:PySem.W.Frag) (ta:TA):TE:=λσ H Q=>ta σ H λvs H1=>∃l xs ps,vs=[.ref l]/\SqL K H1 l xs/\xs.length<10000/\Paired (sR H1) xs ps/\∀d,H1 d=none->Q (.ref d) (upd H1 d (.dK (bG [] (eG ps))))
theorem wH {H:Hp}:∀{xs:List V} {ps:List (Str × V)},Paired (sR H) xs ps->∀(j:Nat) x,xs[j]?=some x->∃y,ps[j]?=some y/\sR H x y
 | _,_,.nil=>λj x e=>by simp at e
 | _,_,.cons (a:=a) (b:=b) h t=>λj x e=>by
  cases j with
  | zero=>simp at e;subst e;exact⟨_,rfl,h⟩
  | succ j=>simp at e;obtain⟨y,e',f⟩:=wH t j x e;exact⟨y,by simpa using e',f⟩
theorem tQ {H:Hp}:∀{xs:List V} {ps:List (Str × V)},Paired (sR H) xs ps->xs.length=ps.length
 | _,_,.nil=>rfl
 | _,_,.cons h t=>by simp[tQ t]
theorem rK (hc:X.calm=true) (hg:Gl X "dict") (hm:X.mg "dict" = none) (ha:PA X [a] ta) (hs:starEach [a] X.env=[(false,eval a X.env)]:=by rfl):PE X (.Call (.Name "dict" p1) [a] [] pos1) (qj X.K ta):=by
 intro pins s σ H Q I h;refine Call_ (ck I hg hm PyProof.Rows.boot_dict (QV (thn (ha pos1 pins s σ H _ I h) λus s1 ⟨vs,H1,I1,r1,q1⟩=>?_) hs rfl));obtain⟨l,xs,ps,e,hl,hsm,hpr,q⟩:=q1;subst e;obtain⟨u1,e,ru1⟩:=dy r1;subst e;cases ru1;obtain⟨its,rv,pl,_⟩:=I1.list hl;have hits:its.length=xs.length:=rv.length.symm;have hps:=tQ hpr;have big:10000<sizeLine:=by decide
 have each:∀k,∃g:Value × Value × Str,k<its.length->∃(T:Addr) (o:Obj) (m:Nat) (v:V) (t:Tok),its[k]?=some (.ref T)/\s1.heap.get? T=some o/\o.cls=.type "tuple" /\ o.data=.seq #[g.1,g.2.1] m/\g.1=.str g.2.2 t/\ps[k]?=some (g.2.2,v)/\aR v g.2.1:=λk=>by
  by_cases hk:k<its.length
  ·have hx:xs[k]?=some (xs[k]'(by exact om3 hits hps hk)):=by simp
   obtain⟨y,hy,b,eb,hb⟩:=wH hpr k _ hx;obtain⟨u,hu,ru⟩:=rv.get hx;rw[eb]at ru;cases ru;obtain⟨its2,rv2,⟨o,e1,e2,n,e3⟩,_⟩:=I1.tuple (SqT.of hb);obtain⟨w1,w2,e4,r1,r2⟩:=np rv2;subst e4;obtain⟨t,et⟩:=r1;subst et;exact⟨(.str y.1 t,w2,y.1),λ_=>⟨b,o,n,y.2,t,hu,e1,e2,e3,rfl,hy,r2⟩⟩
  exact⟨(.none,.none,Str.empty),λh=>absurd h hk⟩
 let g:=λk=>Classical.choose (each k);have hg':∀k,k<its.length->∃(T:Addr) (o:Obj) (m:Nat) (v:V) (t:Tok),its[k]?=some (.ref T)/\s1.heap.get? T=some o/\o.cls=.type "tuple" /\ o.data=.seq #[(g k).1,(g k).2.1] m/\(g k).1=.str (g k).2.2 t/\ps[k]?=some ((g k).2.2,v)/\aR v (g k).2.1:=λk=>Classical.choose_spec (each k);refine LZ.p_ (knd:=bg X.prog X.w) (l:=l) (xs:=its.toArray) (ka:=λk=>(g k).1) (va:=λk=>(g k).2.1) (I1.ok.hd hc) (λk=>(Sum.inr (g k).2.2:Key)) (λk hk=>?_) (by rw[Qk,hits];omega) pl (λk hk=>?_) λh3 tk hd3 kept=>?_
 ·rw[Qk]at hk;obtain⟨T,o,m,v,t,_,_,_,_,e5,_⟩:=hg' k hk;show (bg X.prog X.w).is _ (g k).1=true;rw[e5];exact eY _ _ _ _
 ·rw[Qk]at hk;obtain⟨T,o,m,v,t,e1,e2,e3,e4,_⟩:=hg' k hk;exact⟨T,o,m,by simpa using e1,e2,e3,e4⟩
 rw[Qk]at hd3
 have kv:KV (eG ps) ((List.range its.length).map λj=>((Sum.inr (g j).2.2:Key),(g j).2.1)):=by
  unfold eG;refine paired_get (by simp[hits,hps]) λj x y e1 e2=>?_;rw[Qi]at e1 e2
  have hj:j<its.length:=by
   cases e:(List.range its.length)[j]? with
   | none=>rw[e]at e2;cases e2
   | some q=>have:=(Qe.mp e).1;simpa using this
  obtain⟨T,o,m,v,t,_,_,_,_,_,e6,e7⟩:=hg' j hj;rw[e6]at e1;rw[List.getElem?_range hj]at e2;cases e1;cases e2;exact⟨rfl,e7⟩
 have hnew:H1 s1.heap.objs.size=none:=I1.hok.fresh (Qh _)
 have I3:Inv X pins σ (upd H1 s1.heap.objs.size (.dK (bG [] (eG ps)))) { s1 with heap:=h3,toks:=tk }:=I1.laid kept (Qh _) ⟨by
   have:=du (eG ps) [];have e:(eG ps).length=ps.length:=by unfold eG;simp
   simp only[Xq]at this
   omega,beq_eq_false_iff_ne.mpr (by
   have:@LT.lt Nat _ sysModules s1.heap.objs.size:=I1.big;intro e;have e':@Eq Nat s1.heap.objs.size sysModules:=e
   omega),_,pQ kv .nil,hd3⟩
 exact⟨.ref s1.heap.objs.size,_,I3,rfl,q _ hnew⟩
end
end L2
namespace LS
open PySem PySem.Spec PyProof.Rows
def Led (w:World) (t:SetTable) (n:Nat):Prop:=w.params.followText "set-order" = true\/(t.led=true/\(n≠0->t.plain=false))
theorem rn (t:SetTable) (n:Nat):(t.orStandIn n).led=t.led/\(t.plain=false->(t.orStandIn n).plain=false):=by
 unfold SetTable.orStandIn
 split
 ·exact⟨rfl,id⟩
 exact⟨rfl,λ_=>rfl⟩
theorem pP (t:SetTable) (es:Array (Int × Value)) (h:Int) (x:Value):(layNew t es h x).2.1.led=t.led/\(t.plain=false->(layNew t es h x).2.1.plain=false):=by
 unfold layNew
 split
 ·exact rn (t.put _).1 _
 exact⟨rfl,λ_=>rfl⟩
theorem uH {m f v:Nat} {l p:Bool} {hs:Array Int} {t:SetTable} {o:Array Nat} (h:SetTable.laid m f v l p hs=some (t,o)):t.led=l/\t.plain=p:=by
 unfold SetTable.laid at h
 cases e:SetTable.layClean m hs with
 | none=>rw[e]at h;cases h
 | some ow=>rw[e]at h;cases h;exact⟨rfl,rfl⟩
theorem rC (t:SetTable) (es:Array (Int × Value)) (n:Nat):(relayAll t es n).2.1.led=t.led/\(t.plain=false->(relayAll t es n).2.1.plain=false):=by
 unfold relayAll
 split
 ·rename_i t' o e
  obtain⟨e1,e2⟩:=uH e;dsimp only
  split
  ·exact⟨e1,λz=>e2.trans z⟩
  exact⟨rfl,λ_=>rfl⟩
 exact⟨rfl,λ_=>rfl⟩
def bQ (prog:Program) (w:World) (h:Heap) (a:Addr) (S:Str->Bool) (n:Nat):Prop:=∃o es ep t,h.get? a=some o/\o.ExactSet/\o.data=.set es ep t/\ElemsOf (strKind prog w) es.toList/\(∀k,S k=true↔∃e∈es.toList,(strKind prog w).is k e.2=true)/\es.size<scanBound/\t.fits es.size=true/\es.size=n/\Led w t es.size
section
variable {prog:Program} {w:World} {A:Around} {E:Value->Shared->Prop} {s:Shared} {a:Addr} {S:Str->Bool} {n:Nat}
variable {es' es:Array (Int × Value)}
theorem bQ.put {h:Heap} {o:Obj} {ep:Nat} {t:SetTable} (ho:h.get? a=some o) (hex:o.ExactSet) (hd:o.data=.set es ep t) {t':SetTable}
  (hel:ElemsOf (strKind prog w) es'.toList) (hm:∀k,S k=true↔∃e∈es'.toList,(strKind prog w).is k e.2=true) (hb:es'.size<scanBound) (hf:t'.fits es'.size=true) (hn:es'.size=n) (hl:Led w t' es'.size) :
  (h.update a (Obj.putSet es' t')).get? a=some { o with data:=.set es' (ep+1) t' }/\bQ prog w (h.update a (Obj.putSet es' t')) a S n:=by
 obtain⟨g,_⟩:=SetOf_store (knd:=strKind prog w) ho hex hd hel hm hb hf;exact⟨g,_,es',ep+1,t',g,hex,rfl,hel,hm,hb,hf,hn,hl⟩
theorem wc {k:Str} {tok:Tok} {Q:Bool->Shared->Prop} (hS:bQ prog w s.heap a S n) (hroom:n+1<scanBound)
  (h:∀h' b,Heap.SameBut a s.heap h'->bQ prog w h' a (λk'=>S k' || decide (k'=k)) (if S k then n else n+1)->Q b { s with heap:=h' }) :
  wpAny (model prog w) A (setAddHashed a (.str k tok) ((strKind prog w).hash k)) Q E s:=by
 obtain⟨o,es,ep,t,ho,hex,hd,hel,hm,hb,hf,hn,hl⟩:=hS;have hkey:(strKind prog w).is k (.str k tok)=true:=strKind_is _ _ _ _;have hsc:(Value.str k tok).scannable=true:=rfl;unfold setAddHashed setAddHashedIn;refine QS (Qa (wpAny_setState_of ho hd hf ?_));dsimp only;rw[byScan_of hsc hb hel];simp only[↓reduceIte];unfold setAddByScan;refine Qa (Qa (XR (Qa (wpAny_setScan_of hkey ho hd hf hel ?_))))
 cases hr:List.findIdx? (λe=>(strKind prog w).is k e.2) es.toList with
 | some j =>
  dsimp only;obtain⟨hj,hpj,_⟩:=List.findIdx?_eq_some_iff_getElem.mp hr;have hk:S k=true:=(hm k).mpr ⟨_,Xj hj,hpj⟩;refine Qf (Qf (h s.heap _ (Heap.SameBut.refl a s.heap) ⟨o,es,ep,t,ho,hex,hd,hel,λk'=>?_,hb,hf,by rw[hk];exact hn,hl⟩));rw[Bool.or_eq_true,decide_eq_true_eq,<-hm k'];exact⟨λz=>z.elim id λe=>e▸hk,.inl⟩
 | none =>
 dsimp only
 have hk:S k=false:=by
  cases hk:S k with
  | false=>rfl
  | true=>obtain⟨e,he,hp⟩:=(hm k).mp hk;have:=List.findIdx?_eq_none_iff.mp hr e he;rw[hp]at this;exact Bool.noConfusion this
 have hperm:=layNew_perm t es ((strKind prog w).hash k) (.str k tok);have hfits:=layNew_fits t es ((strKind prog w).hash k) (.str k tok);obtain⟨l1,l2⟩:=pP t es ((strKind prog w).hash k) (.str k tok);generalize hL:layNew t es ((strKind prog w).hash k) (.str k tok)=L at hperm hfits l1 l2 ⊢;obtain⟨es1,t1,wasDummy,gave⟩:=L;dsimp only at hperm hfits l1 l2 ⊢;rw[Array.toList_push]at hperm;have hel1:=(hel.push hkey hsc).perm hperm;have hm1:∀k',(S k' || decide (k'=k))=true↔∃e∈es1.toList,(strKind prog w).is k' e.2=true:=mem_push_iff hkey hm hperm;have hz:es1.size=n+1:=by rw[<-Qu,hperm.length_eq,Qj,Qu,hn];rfl
 have hb1:es1.size<scanBound:=by rw[hz];exact hroom
 rw[hk]at h
 have tail:∀(t2:SetTable) (s1:Shared) (g:Bool->Sem Unit),(∀(b:Bool) (s₁:Shared) (Q':Unit->Shared->Prop),Q' () s₁->wpAny (model prog w) A (g b) Q' E s₁)->s1=s->t2.fits es1.size=true->Led w t2 es1.size ->
   wpAny (model prog w) A (do
    storeSet a es1 t2
    if (!wasDummy&&t2.tooFull)=true then do
      g (relayAll t2 es1 (SetTable.grown es1.size)).2.2
      storeSet a (relayAll t2 es1 (SetTable.grown es1.size)).1 (relayAll t2 es1 (SetTable.grown es1.size)).2.1
      pure (some true)
     else pure (some true)) (λr s'=>∃h' b,r=some b/\s'={ s with heap:=h' }/\Heap.SameBut a s.heap h'/\bQ prog w h' a (λk'=>S k' || decide (k'=k)) (n+1)) E s1:=λt2 s1 g hg e f2 d2=>by
  subst e;refine Qa (wpAny_storeSet_of ho hd ?_ (fits_of_scanBound hb1));obtain⟨ho1,q1⟩:=bQ.put ho hex hd hel1 hm1 hb1 f2 hz d2;have k1:=XD s1.heap a (Obj.putSet es1 t2)
  split
  ·have hp:=relayAll_perm t2 es1 (SetTable.grown es1.size);have hfr:=relayAll_fits t2 es1 (SetTable.grown es1.size);obtain⟨r1,r2⟩:=rC t2 es1 (SetTable.grown es1.size);generalize hRl:relayAll t2 es1 (SetTable.grown es1.size)=Rl at hp hfr r1 r2 ⊢;obtain⟨es2,t3,gave2⟩:=Rl;dsimp only at hp hfr r1 r2 ⊢;have hz2:es2.size=es1.size:=by rw[<-Qu,hp.length_eq,Qu]
   refine Qa (hg _ _ _ (Qa (wpAny_storeSet_of ho1 rfl ?_ (fits_of_scanBound (by rw[hz2];exact hb1)))))
   obtain⟨_,q2⟩:=bQ.put (S:=λk'=>S k' || decide (k'=k)) (n:=n+1) ho1 hex rfl (hel1.perm hp) (λk'=>(hm1 k').trans ⟨λ⟨e,he,q⟩=>⟨e,hp.mem_iff.mpr he,q⟩,λ⟨e,he,q⟩=>⟨e,hp.mem_iff.mp he,q⟩⟩) (by rw[hz2];exact hb1) hfr (hz2.trans hz)
    (d2.imp id λz=>⟨r1.trans z.1,λy=>r2 (z.2 (by rw[<-hz2];exact y))⟩)
   exact Qf ⟨_,true,rfl,rfl,k1.trans (XD _ a _),q2⟩
  exact Qf ⟨_,true,rfl,rfl,k1,q1⟩
 have fin:∀(r:Option Bool) (s':Shared),(∃h' b,r=some b/\s'={ s with heap:=h' }/\Heap.SameBut a s.heap h'/\bQ prog w h' a (λk'=>S k' || decide (k'=k)) (n+1))->∃h' b,r=some b/\s'={ s with heap:=h' }/\Q b s':=λr s' ⟨h',b,e1,e2,e3,e4⟩=>⟨h',b,e1,e2,by rw[e2];exact h h' b e3 (by simpa using e4)⟩
 have gw:∀(b:Bool) {s₁:Shared} {Q':Unit->Shared->Prop},Q' () s₁->wpAny (model prog w) A (match b with|true=>rule "set.scan.the-table-gave-way" | false=>pure ()) Q' E s₁ :=
  λb s₁ Q' hq=>by cases b <;> first|exact Qf hq|exact XR hq
 refine Qa (gw _ ?_)
 split
 ·refine Qa ?_;rw[hashByValue_scannable 8 hsc];refine Qf ?_;refine Xn (tail _ s _ ?_ rfl ?_ ?_) (λr s' z=>?_) λ_ _ z=>z
  ·intro b s₁ Q' hq;cases b <;> first|exact Qf hq|exact XR hq
  ·exact SetTable.fits_plain_off hfits
  ·exact hl.imp id λz=>⟨l1.trans z.1,λ_=>rfl⟩
  obtain⟨h',b,rfl,rfl,q⟩:=fin r s' z;exact Qf q
 rename_i hp
 refine Qa (Qf ?_);simp only[↓reduceIte];refine Xn (tail _ s _ ?_ rfl hfits ?_) (λr s' z=>?_) λ_ _ z=>z
 ·intro b s₁ Q' hq;cases b <;> first|exact Qf hq|exact XR hq
 ·exact hl.imp id λz=>⟨l1.trans z.1,λ_=>by simpa using hp⟩
 obtain⟨h',b,rfl,rfl,q⟩:=fin r s' z;exact Qf q
theorem bQ.congr {h:Heap} {S':Str->Bool} {m:Nat} (q:bQ prog w h a S n) (e:∀k,S k=S' k) (f:n=m):bQ prog w h a S' m:=by
 obtain⟨o,es,ep,t,h1,h2,h3,h4,h5,h6,h7,h8,h9⟩:=q;exact⟨o,es,ep,t,h1,h2,h3,h4,λk=>by rw[<-e k];exact h5 k,h6,h7,h8.trans f,h9⟩
abbrev bare (led:Bool):Obj:={ cls:=.type "set", dict:=none,data:=.set #[] 0 (.fresh 0 0 led) }
theorem bQ.bare {h:Heap} (g:h.get? a=some (bare !(w.params.followText "set-order"))):bQ prog w h a (λ_=>false) 0 :=
 ⟨_,#[],0,_,g,⟨rfl,rfl,rfl⟩,rfl,fun e he=>by simp at he,fun k=>by simp,by decide,rfl,rfl,by
  unfold Led
  cases e:w.params.followText "set-order" with
  | true=>exact .inl rfl
  | false=>exact .inr ⟨rfl,λz=>absurd rfl z⟩⟩
theorem u5 (x:Value) {Q₁:Value->Shared->Prop} (h:Q₁ (.ref s.heap.objs.size) { s with heap:=s.heap.push (LS.bare !(w.params.followText "set-order")) }) :
  codeAny (model prog w) A (.call (.builtin "set.__new__") ⟨[.type "set", x],[]⟩) (wants Q₁ E) s:=by
 refine codeAny_of_tree ?_;show wpAny _ A.in1 (do checkBuiltinCall "set.__new__" ⟨[.type "set", x],[]⟩;again (.builtin "set.__new__" ⟨[.type "set", x],[]⟩)) _ _ s;refine Qa (wpAny_of_eq (F.newCall_set_1 x) (Qf ⟨XX F.plain_set_new _,Xr F.entry_set_new ?_⟩));rw[Xa F.plain_set_new _];unfold Builtin.«set.__new__» Builtin.Frozenset.newClass;have hsub:=sub_set_self;obtain⟨hp,g,d,tk,os⟩:=s;dsimp only
 wp_walk
 refine wpAny_askSetting (Qf ?_);dsimp only;simp only[newObj];exact Qa (wpAny_alloc (Qf (Qf h)))
end
theorem b_:Slot "set_iterator" "__next__" "set_iterator.__next__" :=
 .of (owner := "set_iterator") (n := "__next__") (by rw[typeLookup_type,Xp];kernel_rfl) (by decide +kernel) (by decide +kernel) (by decide +kernel)
  (by first|exact .inl (by decide +kernel)|exact .inr (by decide +kernel)) (by rw[isSubtype_type];kernel_rfl)
theorem gk:Slot "set_iterator" "__iter__" "set_iterator.__iter__" :=
 .of (owner := "set_iterator") (n := "__iter__") (by rw[typeLookup_type,Xp];kernel_rfl) (by decide +kernel) (by decide +kernel) (by decide +kernel)
  (by first|exact .inl (by decide +kernel)|exact .inr (by decide +kernel)) (by rw[isSubtype_type];kernel_rfl)
theorem km:entryFor table "set_iterator.__next__" = some Builtin.«set_iterator.__next__»:=entryFor_of_tree (by kernel_rfl)
theorem kr:entryFor table "set_iterator.__iter__" = some Builtin.«dict_keyiterator.__iter__»:=entryFor_alias (id' := "dict_keyiterator.__iter__") (by kernel_rfl) rfl (by decide +kernel) (by kernel_rfl)
theorem jL:entryFor table "set.__iter__" = some Builtin.«frozenset.__iter__»:=entryFor_alias (id' := "frozenset.__iter__") (by kernel_rfl) rfl (by decide +kernel) (by kernel_rfl)
theorem nV:Manifest.owners.lookup (String.ofList ['r','o','t','a','r','e','t','i','_','t','e','s'].reverse)=some Manifest.sig_set_iterator:=by kernel_rfl
theorem mY (a:Value):argsOk "set_iterator.__next__" ⟨[a],[]⟩:=by
 unfold argsOk;rw[signature?_of (id := "set_iterator.__next__") (n:=['_','_','t','x','e','n','_','_']) (o:=['r','o','t','a','r','e','t','i','_','t','e','s']) (by kernel_rfl) nV];kernel_rfl
theorem mZ (a:Value):argsOk "set_iterator.__iter__" ⟨[a],[]⟩:=by
 unfold argsOk;rw[signature?_of (id := "set_iterator.__iter__") (n:=['_','_','r','e','t','i','_','_']) (o:=['r','o','t','a','r','e','t','i','_','t','e','s']) (by kernel_rfl) nV];kernel_rfl
def fc (h:Heap) (it a:Addr) (first:Value) (i n ep:Nat):Prop:=∃o,h.get? it=some o/\o.cls=.type "set_iterator" /\ o.data=.fields #[first,.int i 0,.ref a,.int n 0,.int ep 0]
def dq (h:Heap) (a:Addr) (es:Array (Int × Value)) (ep:Nat) (t:SetTable):Prop:=∃o,h.get? a=some o/\o.data=.set es ep t/\o.cls=.type "set" /\ t.fits es.size=true
section
variable {prog:Program} {w:World} {A:Around} {E:Value->Shared->Prop} {s:Shared} {a it:Addr} {es:Array (Int × Value)} {ep:Nat} {t:SetTable} {i:Nat} {first:Value}
variable {n:Nat}
theorem fc.typeIs (h:fc s.heap it a first i n ep):s.TypeIs (.ref it) "set_iterator" := let ⟨o,ho,hc,_⟩:=h;⟨o,ho,hc⟩
theorem fc.at {h h':Heap} (x:fc h it a first i n ep) (e:∀o,h.get? it=some o->h'.get? it=some o):fc h' it a first i n ep:=let ⟨o,ho,r⟩:=x;⟨o,e _ ho,r⟩
theorem dq.at {h h':Heap} (x:dq h a es ep t) (e:∀o,h.get? a=some o->h'.get? a=some o):dq h' a es ep t:=let ⟨o,ho,r⟩:=x;⟨o,e _ ho,r⟩
theorem mF {Q:Value->Shared->Prop} (hit:fc s.heap it a first i n ep) (h:Q (.ref it) s):wpAny (model prog w) A (pyIter (.ref it)) Q E s:=by
 refine wpAny_pyIter_slot hit.typeIs gk (XB gk hit.typeIs kr ?_ (mZ _));show wpAny _ _ (ret (.ref it)) _ _ s;exact Qf ⟨_,rfl, "set_iterator", _,hit.typeIs,b_.lookup,h⟩
variable {Q:Option Value->Shared->Prop}
theorem iM (hit:fc s.heap it a first i n ep) (h:wpAny (model prog w) A.in1 (Builtin.«set_iterator.__next__» ⟨[.ref it],[]⟩) (λfin s'=>∃v,fin=Fin.done (Flow.ret v)/\wpAny (model prog w) A (pure (some v)) Q E s')
   (λe s'=>wpAny (model prog w) A (isInstance e (Value.type "StopIteration") >>= λb=>if b=true then pure none else throw e) Q E s') s):wpAny (model prog w) A (pyNext (.ref it)) Q E s :=
 Qa (wpAny_attempt (XW (name:=Str.ofString "__next__") hit.typeIs b_ (XB b_ hit.typeIs km h (mY _))))
theorem wA {h1:Heap} (hh:A.handled=none) (k:Heap.ExtBut it s.heap h1) (h:∀h',Heap.ExtBut it s.heap h'->Q none { s with heap:=h' }) :
  wpAny (model prog w) A.in1 (newExc (Value.type "StopIteration") [] >>= λe=>raiseNew (α:=Fin) e) (λfin s'=>∃v,fin=Fin.done (Flow.ret v)/\wpAny (model prog w) A (pure (some v)) Q E s')
   (λe s'=>wpAny (model prog w) A (isInstance e (Value.type "StopIteration") >>= λb=>if b=true then pure none else throw e) Q E s') { s with heap:=h1 }:=by
 refine Qa ?_;simp only[newExc,newTuple];refine Qa (wpAny_newObj_type ?_ (by size_fits));refine Qa (m:=firstArgMember _ _) (wpAny_of_eq (a:=Value.none) (by first|rfl|(simp only[firstArgMember];rfl)) ?_);refine wpAny_newObj_type ?_ (by size_fits);simp only[raiseNew];refine Qa (wpAny_handled ?_);rw[show A.in1.handled=none from hh];refine Qa (Qf (wpAny_throw ?_));refine Qa (wpAny_isInstance (T := "StopIteration") (b:=true) ⟨_,Qp _ rfl,rfl⟩ isSubtype_stop ?_);exact Qf (h _ ((k.push _).push _))
theorem kO {slot next:Nat} {x:Value} (hit:fc s.heap it a (.int slot 0) i es.size ep) (hs:dq s.heap a es ep t)
  (hw:∀(Q:Option (Value × Nat)->Shared->Prop) (E:Value->Shared->Prop),Q (some (x,next)) s->wpAny (model prog w) A.in1 (setNext a slot i ep) Q E s)
  (h:∀h',fc h' it a (.int next 0) (i+1) es.size ep->Heap.SameBut it s.heap h'->Q (some x) { s with heap:=h' }):wpAny (model prog w) A (pyNext (.ref it)) Q E s:=by
 obtain⟨o,ho,hc,hd⟩:=id hit;obtain⟨os,hos,hds,_,hf⟩:=id hs;refine iM hit ?_;unfold Builtin.«set_iterator.__next__»;refine Qa (Qf (Qa (wpAny_fieldsOf ho hd ?_)));dsimp only;refine Qa (wpAny_setEntries_of hos hds hf ?_);rw[QA (by simp)];refine Qa (hw _ _ ?_);dsimp only;refine Qa (wpAny_setField ho hd (by simp) ?_);have h1:=Xw (Obj.mapFields (·.setIfInBounds 0 (rawInt (next:Int)))) ho (Obj.isFreed_of_fields (XU hd _));have d1:=XU hd (·.setIfInBounds 0 (rawInt (next:Int)));refine Qa (wpAny_setField h1 d1 (by simp) ?_);refine Qf ⟨_,rfl,Qf (h _ ⟨_,Xw _ h1 (Obj.isFreed_of_fields (XU d1 _)),(Obj.cls_mapFields ..).trans ((Obj.cls_mapFields ..).trans hc),by rw[XU d1];simp[rawInt]⟩ ((XD ..).trans (XD ..)))⟩
theorem kP {slot:Nat} (hh:A.handled=none) (hit:fc s.heap it a (.int slot 0) i es.size ep) (hs:dq s.heap a es ep t)
  (hw:∀(Q:Option (Value × Nat)->Shared->Prop) (E:Value->Shared->Prop),Q none s->wpAny (model prog w) A.in1 (setNext a slot i ep) Q E s)
  (h:∀h',Heap.ExtBut it s.heap h'->Q none { s with heap:=h' }):wpAny (model prog w) A (pyNext (.ref it)) Q E s:=by
 obtain⟨o,ho,hc,hd⟩:=id hit;obtain⟨os,hos,hds,_,hf⟩:=id hs;refine iM hit ?_;unfold Builtin.«set_iterator.__next__»;refine Qa (Qf (Qa (wpAny_fieldsOf ho hd ?_)));dsimp only;refine Qa (wpAny_setEntries_of hos hds hf ?_);rw[QA (by simp)];refine Qa (hw _ _ ?_);dsimp only;refine Qa (wpAny_setField ho hd (by simp) ?_);exact wA hh (XD ..).extBut h
theorem pU {tp:Addr} {pl:List Nat} {p:Nat} {e:Int × Value} (hit:fc s.heap it a (.ref tp) i es.size ep) (hs:dq s.heap a es ep t) (ht:s.heap.get? tp=some { cls:=.type "tuple", data:=.seq (pl.map λ(i:Nat)=>rawInt i).toArray })
  (hp:pl[i]?=some p) (he:es[p]?=some e) (h:∀h',fc h' it a (.ref tp) (i+1) es.size ep->Heap.SameBut it s.heap h'->Q (some e.2) { s with heap:=h' }):wpAny (model prog w) A (pyNext (.ref it)) Q E s:=by
 obtain⟨o,ho,hc,hd⟩:=id hit;obtain⟨os,hos,hds,_,hf⟩:=id hs;refine iM hit ?_;unfold Builtin.«set_iterator.__next__»;refine Qa (Qf (Qa (wpAny_fieldsOf ho hd ?_)));dsimp only;refine Qa (wpAny_setEntries_of hos hds hf ?_);rw[QA (by simp)];refine Qa (XG ht rfl ?_);dsimp only;rw[show (List.map (λ(i:Nat)=>rawInt (i:Int)) pl).toArray[(i:Int).toNat]?=some (rawInt (p:Int)) by rw[Xu,List.getElem?_toArray,Qi,hp];rfl];dsimp only[rawInt];unfold setNextDrawn;refine Qa (Qa (wpAny_setState_of hos hds hf ?_));dsimp only;rw[QA (by simp),Xu,he];refine Qa (Qf (Qf ?_));refine Qa (wpAny_setField ho hd (by simp) ?_);exact Qf ⟨_,rfl,Qf (h _ ⟨_,Xw _ ho (Obj.isFreed_of_fields (XU hd _)),(Obj.cls_mapFields ..).trans hc,by rw[XU hd];simp⟩ (XD ..))⟩
theorem pV {tp:Addr} {pl:List Nat} (hh:A.handled=none) (hit:fc s.heap it a (.ref tp) i es.size ep) (hs:dq s.heap a es ep t) (ht:s.heap.get? tp=some { cls:=.type "tuple", data:=.seq (pl.map λ(i:Nat)=>rawInt i).toArray })
  (hp:pl[i]?=none) (h:∀h',Heap.ExtBut it s.heap h'->Q none { s with heap:=h' }):wpAny (model prog w) A (pyNext (.ref it)) Q E s:=by
 obtain⟨o,ho,hc,hd⟩:=id hit;obtain⟨os,hos,hds,_,hf⟩:=id hs;refine iM hit ?_;unfold Builtin.«set_iterator.__next__»;refine Qa (Qf (Qa (wpAny_fieldsOf ho hd ?_)));dsimp only;refine Qa (wpAny_setEntries_of hos hds hf ?_);rw[QA (by simp)];refine Qa (XG ht rfl ?_);dsimp only;have en:(List.map (λ(i:Nat)=>rawInt (i:Int)) pl).toArray[(i:Int).toNat]?=none:=by rw[Xu,List.getElem?_toArray,Qi,hp,Option.map_none]
 rw[en];dsimp only;refine Qa (wpAny_setField ho hd (by simp) ?_);have h1:=Xw (Obj.mapFields (·.setIfInBounds 0 (rawInt 0))) ho (Obj.isFreed_of_fields (XU hd _));have d1:=XU hd (·.setIfInBounds 0 (rawInt 0));refine Qa (wpAny_setField h1 d1 (by simp) ?_);have k2:Heap.ExtBut it s.heap ((s.heap.update it (Obj.mapFields (·.setIfInBounds 0 (rawInt 0)))).update it (Obj.mapFields (·.setIfInBounds 2 .none))):=((XD s.heap it _).trans (XD _ it _)).extBut;exact wA (s:=s) (it:=it) (h1:=(s.heap.update it (Obj.mapFields (·.setIfInBounds 0 (rawInt 0)))).update it (Obj.mapFields (·.setIfInBounds 2 .none))) hh k2 h
end
end LS
set_option maxHeartbeats 400000
namespace LS
open PySem PySem.Spec PyProof.Rows
theorem f6 {α:Type}:∀{l:List α} {i:Nat} (h:i<l.length),(l[i]::l.eraseIdx i).Perm l
 | a::l,0,_=>.refl _
 | a::l,i+1,h=>by
  have hi:i<l.length:=by simpa using h
  have q:=f6 (l:=l) (i:=i) hi;show (l[i]::a::l.eraseIdx i).Perm (a::l);exact(List.Perm.swap _ _ _).trans (q.cons a)
theorem qx {α:Type} (next:Nat->Nat):∀(fuel k:Nat) (left:List α) (out:Array α),left.length=fuel->(pickOrder.go next fuel k left out).toList.Perm (out.toList++left)
 | 0,k,left,out,h=>by
  obtain rfl:left=[]:=List.length_eq_zero_iff.mp h;simp[pickOrder.go]
 | fuel+1,k,left,out,h=>by
  have lt:next k % left.length<left.length:=Nat.mod_lt _ (by omega);have e:left[next k % left.length]?=some left[next k % left.length]:=Qb lt;unfold pickOrder.go;rw[e];refine(qx next fuel (k+1) _ _ (by rw[List.length_eraseIdx_of_lt lt];omega)).trans ?_;rw[Array.toList_push,QZ];exact Xx _ (f6 lt)
theorem pick_perm {α:Type} (next:Nat->Nat) (xs:Array α):(pickOrder next xs).toList.Perm xs.toList:=by
 have:=qx next xs.size 0 xs.toList #[] (by simp);unfold pickOrder;simpa using this
section
variable {prog:Program} {w:World} {A:Around} {E:Value->Shared->Prop} {s:Shared} {a it:Addr} {es:Array (Int × Value)} {ep:Nat} {t:SetTable} {i:Nat}
theorem lx {src:Source} {n:Nat} {Q:Nat->Shared->Prop} (hn:n≠0) (h:∀i d,i<n->Q i { s with drawn:=d }):wpAny (model prog w) A (choose src n) Q E s:=λΓ p hΓ=>by
 show Sem.wp (model prog w) Γ (.choose src n .pure) _ _ p s;rw[Sem.wp_choose];refine⟨hn,?_⟩;rw[Sem.wp_pure];exact h _ _ (Nat.mod_lt _ (Nat.pos_of_ne_zero hn))
theorem eC {α:Type}:∀(n:Nat) (xs:List α) (s:Shared) (Q:List α->Shared->Prop),xs.length=n->(∀ys d,ys.Perm xs->Q ys { s with drawn:=d })->wpAny (model prog w) A (drawOrder n xs) Q E s
 | 0,xs,s,Q,h,q=>by
  obtain rfl:xs=[]:=List.length_eq_zero_iff.mp h;exact Qf (q [] s.drawn .nil)
 | n+1,[],s,Q,h,q=>by cases h
 | n+1,x::xs,s,Q,h,q=>by
  unfold drawOrder;refine Qa (lx (by simp) λi d hi=>?_);rw[Qb hi];dsimp only;refine Qa (eC n _ _ _ (by rw[List.length_eraseIdx_of_lt hi];simp at h ⊢;omega) λys d2 pm=>Qf (q _ d2 ?_));exact(List.Perm.cons _ pm).trans (f6 hi)
variable {Q:Option (Value × Nat)->Shared->Prop}
theorem kN {slot:Nat} (ht:w.params.followText "set-order" = true) (hs:dq s.heap a es ep t) (h:Q (((pickOrder (w.params.setOrder a ep) es)[i]?).map λe=>(e.2,slot)) s):wpAny (model prog w) A (setNext a slot i ep) Q E s:=by
 obtain⟨os,hos,hds,_,hf⟩:=id hs;unfold setNext setsByText;refine Qa (wpAny_setState_of hos hds hf ?_);dsimp only;refine Qa (Qa (wpAny_askSetting (Qf ?_)));rw[Qz (show (Setting.params ⟨(model prog w).prog,(model prog w).w.params⟩).followText "set-order" = true from ht),QA (by simp)];unfold setWalk setsByText;refine Qa (Qa (wpAny_setState_of hos hds hf ?_));dsimp only;refine Qa (Qa (wpAny_askSetting (Qf ?_)));rw[Qz (show (Setting.params ⟨(model prog w).prog,(model prog w).w.params⟩).followText "set-order" = true from ht)];refine Qa (wpAny_askSetting (Qf ?_));exact Qf h
theorem og {slot:Nat} (ht:w.params.followText "set-order" = false) (hs:dq s.heap a es ep t) (h1:es.size<=1) (hl:t.led=true)
  (h:Q (match es[SetTable.below t.place slot]?,t.place[SetTable.below t.place slot]? with|some (_,x),some j=>some (x,j+1)|_,_=>none) s):wpAny (model prog w) A (setNext a slot i ep) Q E s:=by
 obtain⟨os,hos,hds,_,hf⟩:=id hs;unfold setNext setsByText;refine Qa (wpAny_setState_of hos hds hf ?_);dsimp only;refine Qa (Qa (wpAny_askSetting (Qf ?_)));rw[QA (show ¬(Setting.params ⟨(model prog w).prog,(model prog w).w.params⟩).followText "set-order" = true by rw[show (Setting.params ⟨(model prog w).prog,(model prog w).w.params⟩).followText "set-order" = false from ht];exact Qn)];refine wpAny_ite_split (λhab=>?_) λ_=>?_
 ·have hab:(!t.plain&&decide (es.size>1))=true:=hab;simp at hab;omega
 refine Qa ?_;show wpAny _ _ (if (!t.led&&!es.isEmpty)=true then unsupported "set:maker-not-led" else pure ()) _ _ _;rw[QA (by rw[hl];simp)];exact Qf (Qf h)
theorem oW (hh:A.handled=none) (ht:w.params.followText "set-order" = true) (I:Addr) (ne:a≠I):Walks prog w A I [I,a] [I] es.size (λi v=>∃e,(pickOrder (w.params.setOrder a ep) es).toList[i]?=some e/\v=e.2) (λi h=>fc h I a (.int 0 0) i es.size ep/\dq h a es ep t) where
 sub:=λb hb=>by simp at hb;simp[hb]
 frame:=λ_ _ _ st hk=>⟨st.1.at λo e=>hk I (by simp) o e,st.2.at λo e=>hk a (by simp) o e⟩
 item:=λi s Q E hi st hQ=>by
  have z:(pickOrder (w.params.setOrder a ep) es).size=es.size:=by simpa using(pick_perm (w.params.setOrder a ep) es).length_eq
  obtain⟨e,he⟩:∃e,(pickOrder (w.params.setOrder a ep) es)[i]?=some e:=⟨_,QF (by rw[z];exact hi)⟩;refine kO (slot:=0) (next:=0) (x:=e.2) st.1 st.2 (λQ E q=>kN ht st.2 (by rw[he];exact q)) λh' hit' hs'=>?_;exact hQ _ h' s.toks ⟨e,by rw[Qx];exact he,rfl⟩ ⟨hit',st.2.at λo e=>hs'.extBut a o ne e⟩ λb o hb e=>hs'.extBut b o (λh=>hb (by simp[h])) e
 done:=λs Q E st hQ=>by
  have z:(pickOrder (w.params.setOrder a ep) es).size=es.size:=by simpa using(pick_perm (w.params.setOrder a ep) es).length_eq
  exact kP (slot:=0) hh st.1 st.2 (λQ E q=>kN ht st.2 (by rw[Array.getElem?_eq_none (by rw[z];exact Qh _)];exact q)) λh' he'=>hQ h' s.toks λb o hb e=>he' b o (λh=>hb (by simp[h])) e
 self:=λ_ _ _ _ st hQ=>mF st.1 hQ
theorem nk (hh:A.handled=none) (I tp:Addr) (pl:List Nat) (hp:pl.Perm (List.range es.size)) (ne:a≠I) (nt:tp≠I):Walks prog w A I [I,a,tp] [I] es.size (λi v=>∃e,(pl.filterMap λj=>es[j]?)[i]?=some e/\v=e.2)
  (λi h=>fc h I a (.ref tp) i es.size ep/\dq h a es ep t/\h.get? tp=some { cls:=.type "tuple", data:=.seq (pl.map λ(i:Nat)=>rawInt i).toArray }) where
 sub:=λb hb=>by simp at hb;simp[hb]
 frame:=λ_ _ _ st hk=>⟨st.1.at λo e=>hk I (by simp) o e,st.2.1.at λo e=>hk a (by simp) o e,hk tp (by simp) _ st.2.2⟩
 item:=λi s Q E hi st hQ=>by
  have pz:pl.length=es.size:=by simpa using hp.length_eq
  have lt:i<pl.length:=by omega
  have all:∀j∈pl,∃e,es[j]?=some e:=λj hj=>⟨_,QF (by simpa using hp.mem_iff.mp hj)⟩;obtain⟨e,he⟩:=all pl[i] (Xj lt)
  have fm:∀(l:List Nat) (i:Nat) (h:i<l.length),(∀j∈l,∃e,es[j]?=some e)->(l.filterMap λj=>es[j]?)[i]?=es[l[i]]?:=by
   intro l
   induction l with
   | nil=>intro i h;simp at h
   | cons x l ih =>
   intro i h al;obtain⟨e,he⟩:=al x Xd;rw[List.filterMap_cons_some he]
   cases i with
   | zero=>rw[List.getElem?_cons_zero];exact he.symm
   | succ i=>rw[List.getElem?_cons_succ];exact ih i (by simpa using h) λj hj=>al j (Qq _ hj)
  refine pU (p:=pl[i]) st.1 st.2.1 st.2.2 (Qb lt) he λh' hit' hs'=>?_;exact hQ _ h' s.toks ⟨e,by rw[fm pl i lt all];exact he,rfl⟩ ⟨hit',st.2.1.at λo e=>hs'.extBut a o ne e,hs'.extBut tp _ nt st.2.2⟩ λb o hb e=>hs'.extBut b o (λh=>hb (by simp[h])) e
 done:=λs Q E st hQ=>by
  have pz:pl.length=es.size:=by simpa using hp.length_eq
  exact pV hh st.1 st.2.1 st.2.2 (QY (by omega)) λh' he'=>hQ h' s.toks λb o hb e=>he' b o (λh=>hb (by simp[h])) e
 self:=λ_ _ _ _ st hQ=>mF st.1 hQ
theorem lw (j k:Nat):SetTable.below #[j] k=if j<k then 1 else 0:=by
 unfold SetTable.below;simp[SetTable.below.go]
theorem rf (hh:A.handled=none) (ht:w.params.followText "set-order" = false) (h1:es.size<=1) (hl:t.led=true) (I:Addr) (ne:a≠I):Walks prog w A I [I,a] [I] es.size (λi v=>∃e,es.toList[i]?=some e/\v=e.2)
  (λi h=>(∃slot:Nat,fc h I a (.int slot 0) i es.size ep/\(i=0->slot=0)/\(i=1->∃j,t.place=#[j]/\slot=j+1))/\dq h a es ep t) where
 sub:=λb hb=>by simp at hb;simp[hb]
 frame:=λ_ _ _ st hk=>let ⟨⟨sl,x,y⟩,z⟩:=st;⟨⟨sl,x.at λo e=>hk I (by simp) o e,y⟩,z.at λo e=>hk a (by simp) o e⟩
 item:=λi s Q E hi st hQ=>by
  obtain⟨⟨sl,x,y,_⟩,z⟩:=st;obtain rfl:i=0:=by omega
  obtain rfl:=y rfl;have e1:es.size=1:=by omega
  obtain⟨os,hos,hds,_,hf⟩:=id z;have pz:t.place.size=1:=by simp[SetTable.fits]at hf;omega
  obtain⟨j,hj⟩:=Array.size_eq_one_iff.mp pz;obtain⟨e,he⟩:=Array.size_eq_one_iff.mp e1;refine kO (slot:=0) (next:=j+1) (x:=e.2) x z (λQ E q=>og ht z h1 hl (by rw[hj,lw];simp[he];exact q)) λh' hit' hs'=>?_;exact hQ _ h' s.toks ⟨e,by rw[he];rfl,rfl⟩ ⟨⟨j+1,hit',λq=>by omega,λ_=>⟨j,hj,rfl⟩⟩,z.at λo e=>hs'.extBut a o ne e⟩ λb o hb e=>hs'.extBut b o (λh=>hb (by simp[h])) e
 done:=λs Q E st hQ=>by
  obtain⟨⟨sl,x,y1,y2⟩,z⟩:=st;refine kP hh x z (λQ E q=>og ht z h1 hl ?_) λh' he'=>hQ h' s.toks λb o hb e=>he' b o (λh=>hb (by simp[h])) e;by_cases e1:es.size=1
  ·obtain⟨j,hj,rfl⟩:=y2 e1;rw[hj,lw];simpa[e1] using q
  have e0:es=#[]:=by simpa using(show es.size=0 by omega)
  subst e0;simpa using q
 self:=λ_ _ _ _ st hQ=>mF st.1.choose_spec.1 hQ
end
end LS
set_option maxHeartbeats 4000000
namespace LS
open PySem PySem.Spec PyProof.Rows
def met (g:Nat->Str):Nat->List Str
 | 0=>[]
 | i+1=>if g i∈met g i then met g i else met g i++[g i]
theorem uC (g:Nat->Str):∀i,(met g i).length<=i
 | 0=>Qh _
 | i+1=>by
  have q:=uC g i;show (if g i∈met g i then met g i else met g i++[g i]).length<=i+1
  split
  ·omega
  simp;omega
theorem mD (g:Nat->Str) (x:Str):∀i,x∈met g i↔∃j,j<i/\g j=x
 | 0=>by simp[met]
 | i+1=>by
  have q:=mD g x i
  have e:x∈met g (i+1)↔x∈met g i\/x=g i:=by
   show x∈(if g i∈met g i then met g i else met g i++[g i])↔_;by_cases h:g i∈met g i
   ·rw[Qz h];exact⟨.inl,λz=>z.elim id λz=>z▸h⟩
   rw[QA h];simp
  rw[e,q]
  constructor
  ·rintro(⟨j,a,b⟩|a)
   ·exact⟨j,by omega,b⟩
   exact⟨i,by omega,a.symm⟩
  rintro⟨j,a,b⟩;rcases Nat.lt_succ_iff_lt_or_eq.mp a with c|c
  ·exact .inl ⟨j,c,b⟩
  subst c;exact .inr b.symm
section
variable {prog:Program} {w:World} {A:Around} {R:Result->Shared->Prop} {I S:Addr} {fp wr:List Addr} {G:Array GenState->Array GenState->Prop} {n:Nat} {P:Nat->Value->Prop} {St:Nat->Shared->Prop}
abbrev ip (prog:Program) (w:World) (h:Heap) (S:Addr) (g:Nat->Str) (i:Nat):Prop:=bQ prog w h S (λx=>decide (x∈met g i)) (met g i).length
theorem ip.at {h h':Heap} {g:Nat->Str} {i:Nat} (q:ip prog w h S g i) (k:∀o,h.get? S=some o->h'.get? S=some o):ip prog w h' S g i:=by
 obtain⟨o,es,ep,t,e,r⟩:=q;exact⟨o,es,ep,t,k _ e,r⟩
theorem tH (W:WalksS prog w A.in1 I fp wr G n P St) (nS:S∉fp) (g:Nat->Str) (hg:∀i v,P i v->∃t,v=.str (g i) t) (hb:∀i,i<n->(met g i).length+1<scanBound) :
  ∀(m i:Nat) (s:Shared),n-i=m->i<=n->St i s->ip prog w s.heap S g i->(∀s',Moved (S::wr) G s s'->ip prog w s'.heap S g n->R (.ok (.ret .none)) s') ->
   codeAny (model prog w) A (.builtin "set.update.loop" ⟨[.ref S,.ref I],[]⟩) R s:=by
 have nW:S∉wr:=λz=>nS (W.sub _ z);have more:∀b∈wr,b∈S::wr:=λb z=>Qq _ z;intro m
 induction m with
 | zero =>
  intro i s em hi st q fin;obtain rfl:i=n:=by omega
  refine Xr F.entry_set_update_loop ?_;rw[Xa F.plain_set_update_loop _];show wpAny _ A.in1 (pyNext (.ref I) >>= _) _ _ s;exact Qa (W.done s _ _ st λs1 mv=>Qf (fin s1 (mv.mono more) (q.at λo e=>mv.heap S _ nW e)))
 | succ m ih =>
 intro i s em hi st q fin;have lt:i<n:=by omega
 refine Xr F.entry_set_update_loop ?_;rw[Xa F.plain_set_update_loop _];show wpAny _ A.in1 (pyNext (.ref I) >>= _) _ _ s;refine Qa (W.item i s _ _ lt st λv s1 hP st1 mv=>?_);obtain⟨t,rfl⟩:=hg i v hP;have q1:=q.at λo e=>mv.heap S _ nW e;show wpAny _ A.in1 (holding [Value.str (g i) t] (setAdd S (.str (g i) t)) >>= _) _ _ s1;refine Qa (QS ?_);unfold setAdd;refine QS (Qa ((strKind prog w).pyHash (k:=g i) (strKind_is _ _ _ _) ?_));have room:=hb i lt;refine wc (s:={ s1 with toks:=s1.toks+1 }) q1 room λh2 _ sb q2=>?_
 have q3:ip prog w h2 S g (i+1):=by
  refine bQ.congr q2 (λx=>?_) ?_
  ·show (decide (x∈met g i) || decide (x=g i))=decide (x∈(if g i∈met g i then met g i else met g i++[g i]));by_cases z:g i∈met g i
   ·rw[Qz z];by_cases y:x=g i
    ·subst y;simp[z]
    simp[y]
   rw[QA z];simp
  show (if decide (g i∈met g i)=true then _ else _)=(if g i∈met g i then met g i else met g i++[g i]).length;by_cases z:g i∈met g i
  ·simp[z]
  simp[z]
 refine Qf ⟨XX F.plain_set_update_loop _,ih (i+1) _ (by omega) lt (W.frame _ s1 _ _ st1 (Nat.le_succ _) λb z o e=>?_) q3 λs3 mv3 q4=>?_⟩
 ·rw[sb.2 b (λy:b=S=>nS (by rw[<-y];exact z))];exact e
 refine fin s3 (Moved.trans W.gtrans ((mv.mono more).then_heap (Nat.le_succ _) λb o z e=>?_) mv3) q4;rw[sb.2 b (λy:b=S=>z (by rw[y];exact Xd))];exact e
end
section
variable {prog:Program} {w:World} {A:Around} {E:Value->Shared->Prop} {s:Shared}
theorem mP {l:Addr} {its:Array Value} {g:Nat->Str} {Q:Value->Shared->Prop} (hh:A.handled=none) (hl:s.heap.IsList l its) (hi:∀(i:Nat) (v:Value),its[i]?=some v->∃t,v=.str (g i) t) (hb:∀i,i<its.size->(met g i).length+1<scanBound)
  (h:∀(h1:Heap) (tk:Nat),ip prog w h1 s.heap.objs.size g its.size->(∀b o,s.heap.get? b=some o->h1.get? b=some o)->Q (.ref s.heap.objs.size) { s with heap:=h1,toks:=tk }) :
  wpAny (model prog w) A (call (.type "set") [.ref l]) Q E s:=by
 obtain⟨cl,tl,mro⟩:=F.called_set.mro;have y1:=F.called_set.made;have y2:=F.called_set.sub;refine wpAny_call (codeAny_of_tree ?_);show wpAny _ _ (callAny (.type "set") ⟨[.ref l],[]⟩) _ _ _;refine Qf ⟨Code.quiet_builtin _ (by decide +kernel),Xr F.entry_type_call ?_⟩;rw[Around.under_plain (weight_type_call_type "set" [.ref l] []) rfl];have y3:=F.called_set.notType;have y4:=F.called_set.canCreate;have y5:=F.typeCall_set_1 (.ref l)
 repeat (any_goals (first|assumption|wp_step))
 refine codeAny_mono (u5 (.ref l) (E:=E) (Q₁:=λv s1=>∃led:Bool,led=!(w.params.followText "set-order")/\v=.ref s.heap.objs.size/\s1={ s with heap:=s.heap.push (bare led) }) ⟨_,rfl,rfl,rfl⟩) λr s1 hr=>?_
 cases r with
 | error e=>exact hr
 | ok fl =>
 cases fl with
 | ret obj =>
  obtain⟨led,hled,rfl,rfl⟩:=hr;have hS:(s.heap.push (bare led)).get? s.heap.objs.size=some (bare led):=Qp _ rfl;have hT:Shared.TypeIs { s with heap:=s.heap.push (bare led) } (.ref s.heap.objs.size) "set" := ⟨_,hS,rfl⟩;have y6:=F.called_set.init.lookup;have y7:=F.called_set.init.bind (.ref s.heap.objs.size)
  repeat (any_goals (first|assumption|wp_step))
  refine codeAny_mono (codeAny_call_builtin (R:=wants (λv s2=>v=.none/\∃h1 tk,s2={ s with heap:=h1,toks:=tk }/\ip prog w h1 s.heap.objs.size g its.size/\∀b o,s.heap.get? b=some o->h1.get? b=some o) E) F.called_set.init.plain F.entry_set_init (check_set_init_1 hT ?_)) λr2 s2 hr2=>?_
  ·obtain⟨ol,hol,hcl,nl,hdl⟩:=hl;obtain⟨ocls,odict,odata,oslots⟩:=ol;simp only at hcl hdl;subst hcl;subst hdl;have hol1:(s.heap.push (bare led)).get? l=some { cls:=.type "list", dict:=odict,data:=.seq its nl,slots:=oslots }:=Qd _ hol;have y8:=F.sub_list_set;have y9:=F.sub_list_frozenset;have y0:(Value.type "list" == Value.type "dict")=false:=by decide
   have hl1:(s.heap.push (bare led)).IsList l its:=⟨_,hol1,rfl,nl,rfl⟩;unfold Builtin.«set.__init__» noKeywords Builtin.Frozenset.updateFrom;generalize hPI:pyIter=PI
   wp_walk
   subst hPI;refine wpAny_pyIter_list hl1 ?_;refine Qa (wpAny_runValue ?_);have lS:l<s.heap.objs.size:=Qm hol
   have nI:l≠(s.heap.push (bare led)).objs.size:=by
    rw[Q5];exact QB (Nat.lt_succ_of_lt lS)
   have nF:s.heap.objs.size∉[(s.heap.push (bare led)).objs.size,l]:=by
    rw[Q5];simp only[QQ,Q3,List.not_mem_nil,or_false,not_or];exact⟨QB (Nat.lt_succ_self _),Nat.ne_of_gt lS⟩
   refine tH ((Walks.list (show A.in1.in1.in1.handled=none by simp[hh]) _ l nI its).toS) nF g hi hb (its.size-0) 0 _ (by omega) (QM _) ⟨⟨_,Qp _ rfl,rfl,rfl⟩,(hl1.push _)⟩ ?_ λs3 mv q=>?_
   ·have e:((s.heap.push (bare led)).push { cls:=.type "list_iterator", data:=.fields #[.ref l,.int 0 0] }).get? s.heap.objs.size=some (bare led):=Qd _ hS;exact bQ.congr (bQ.bare (by rw[e,hled])) (λ_=>by simp[met]) rfl
   obtain⟨h3,g3,d3,tk3,os3⟩:=s3;obtain rfl:g3=s.gens:=mv.gens;obtain rfl:d3=s.drawn:=mv.drawn;obtain rfl:os3=s.os:=mv.os;show wpAny _ _ _ _ _ _;refine Qf ?_;show wpAny _ _ (ret Value.none) _ _ _;refine Qf ⟨rfl,h3,tk3,rfl,q,λb o e=>?_⟩;have lb:=Qm e;have z1:b≠s.heap.objs.size:=QB lb
   have z2:b≠(s.heap.push (bare led)).objs.size:=by
    rw[Q5];exact QB (Nat.lt_succ_of_lt lb)
   exact mv.heap b o (by simp only[QQ,Q3,List.not_mem_nil,or_false,not_or];exact⟨z1,z2⟩) (Qd _ (Qd _ e))
  cases r2 with
  | error e=>exact hr2
  | ok fl2 =>
  cases fl2 with
  | ret r =>
   obtain⟨rfl,h1,tk,rfl,q,k⟩:=hr2
   repeat (any_goals (first|assumption|wp_step))
   exact h _ _ q k
  | _=>exact hr2.elim
 | _=>exact hr.elim
end
end LS
namespace L2
open PySem PySem.Spec PyProof.Rows
section
variable {X:Cx} {a:Expr} {ta:TA} {p p1 pos pos1:Pos}
end
end L2
namespace LS
open PySem
end LS
namespace L2
open PySem
end L2
set_option maxHeartbeats 400000
namespace LS
open PySem PySem.Spec PyProof.Rows PySem.Calls
theorem tq {prog:Program} {w:World} {k:Str} {v:Value} (h:(PySem.strKind prog w).is k v=true):∃t,v=.str k t:=by
 cases v <;> simp[PySem.strKind,Value.isStrOf]at h;exact⟨_,by rw[h]⟩
section
variable {prog:Program} {w:World} {A:Around} {E:Value->Shared->Prop} {s:Shared} {a:Addr} {S:Str->Bool} {n:Nat}
structure Ord (S:Str->Bool) (n:Nat) (od:List (Int × Value)):Prop where
 len:od.length=n
 txt:∀e∈od,∃x t,e.2=.str x t
 mem:∀x,S x=true↔∃e∈od,∃t,e.2=.str x t
variable {Q:Value->Shared->Prop}
theorem tI (hh:A.handled=none) (q:bQ prog w s.heap a S n)
  (h:∀h' d I od fp St,Ord S n od->(∀b o,s.heap.get? b=some o->h'.get? b=some o)->s.heap.objs.size<=I->(∀b∈fp,b=a\/s.heap.objs.size<=b)->Walks prog w A I fp [I] n (λi v=>∃e,od[i]?=some e/\v=e.2) St->St 0 h'->Q (.ref I) { s with heap:=h',drawn:=d }) :
  wpAny (model prog w) A (pyIter (.ref a)) Q E s:=by
 obtain⟨o,es,ep,t,ho,hex,hd,hel,hm,hb,hf,hn,hl⟩:=q;have hT:s.TypeIs (.ref a) "set" := ⟨o,ho,hex.1⟩
 have od:∀l:List (Int × Value),l.Perm es.toList->Ord S n l:=λl p=>⟨by rw[p.length_eq,Qu];exact hn,λe he=>by
   obtain⟨⟨k,hk,_⟩,_⟩:=hel e (p.mem_iff.mp he);obtain⟨t,ht⟩:=tq hk
   exact⟨k,t,ht⟩,λx=>(hm x).trans ⟨λ⟨e,he,z⟩=>⟨e,p.mem_iff.mpr he,tq z⟩,λ⟨e,he,t,z⟩=>⟨e,p.mem_iff.mp he,by rw[z];exact strKind_is _ _ _ _⟩⟩⟩
 have hlt:=Qm ho;subst hn;refine wpAny_pyIter_slot hT F.slot_set_iter (XB F.slot_set_iter hT jL ?_ (F.args_set_iter_1 _));unfold Builtin.«frozenset.__iter__» Builtin.Frozenset.slot0 slotArgs;simp only[List.isEmpty_nil,Bool.not_true,QK,↓reduceIte,bind_assoc,Xq,bne_self_eq_false];unfold Builtin.Frozenset.addrOf Builtin.Frozenset.sizeOf;refine Qa (Qf ?_)
 try dsimp only
 refine Qa (Qf ?_);refine Qa (Qa (wpAny_setEntries_of ho hd hf (Qf ?_)));unfold setDrawn setsByText;refine Qa (Qa (wpAny_setState_of ho hd hf ?_));dsimp only;refine Qa (Qa (wpAny_askSetting (Qf ?_)));show wpAny _ _ (pure (!(w.params.followText "set-order")&&(!t.plain&&decide (es.size>1)))) _ _ _;refine Qf ?_;have hs0:dq s.heap a es ep t:=⟨o,ho,hd,hex.1,hf⟩
 have plainway:∀(oI:Obj),oI={ cls:=.type "set_iterator", data:=.fields #[.int 0 0,.int 0 0,.ref a,.int es.size 0,.int ep 0] }->fc (s.heap.push oI) s.heap.objs.size a (.int ((0:Nat):Int) 0) 0 es.size ep/\dq (s.heap.push oI) a es ep t:=λoI e=>by
  subst e;exact⟨⟨_,Qp _ rfl,rfl,rfl⟩,hs0.at λo e=>Qd _ e⟩
 refine wpAny_ite_split (λhab=>?_) λhab=>?_
 ·simp only[XA,Bool.not_eq_true',decide_eq_true_eq]at hab;refine Qa (eC es.size (List.range es.size) s _ (by simp) λpl d pm=>?_);refine Qa (wpAny_newTuple ?_ (by rw[Qc,pm.length_eq,Xl];exact fits_of_scanBound hb));unfold setEpoch;have ho1:(s.heap.push { cls:=.type "tuple", data:=.seq (pl.map λ(i:Nat)=>rawInt i).toArray }).get? a=some o:=Qd _ ho;refine Qa (Qa (wpAny_setState_of (s:={ s with heap:=s.heap.push { cls:=.type "tuple", data:=.seq (pl.map λ(i:Nat)=>rawInt i).toArray },drawn:=d }) ho1 hd hf (Qf ?_)));unfold newFields;refine Qa (wpAny_newObj_type ?_ (by size_fits));refine Qf ⟨_,rfl, "set_iterator", _,⟨_,Qp _ rfl,rfl⟩,b_.lookup,?_⟩;have ne:a≠(s.heap.push { cls:=.type "tuple", data:=.seq (pl.map λ(i:Nat)=>rawInt i).toArray }).objs.size:=by rw[Q5];exact QB (Nat.lt_succ_of_lt hlt)
  have nt:s.heap.objs.size≠(s.heap.push { cls:=.type "tuple", data:=.seq (pl.map λ(i:Nat)=>rawInt i).toArray }).objs.size:=by rw[Q5];exact QB (Nat.lt_succ_self _)
  refine h _ _ _ (pl.filterMap λj=>es[j]?) _ _ (od _ ((pm.filterMap _).trans (by rw[filterMap_getElem?_range]))) (λb o e=>Qd _ (Qd _ e)) (by rw[Q5];exact Nat.le_succ _) (λb hb=>?_) (nk (ep:=ep) (t:=t) hh _ _ pl pm ne nt) ?_
  ·simp only[QQ,List.not_mem_nil,or_false]at hb;rcases hb with rfl|rfl|rfl
   ·exact .inr (by rw[Q5];exact Nat.le_succ _)
   ·exact .inl rfl
   exact .inr (Qh _)
  exact⟨⟨_,Qp _ rfl,rfl,rfl⟩,hs0.at λo e=>Qd _ (Qd _ e),Qd _ (Qp _ rfl)⟩
 refine Qa (Qf ?_);unfold setEpoch;refine Qa (Qa (wpAny_setState_of ho hd hf (Qf ?_)));unfold newFields;refine Qa (wpAny_newObj_type ?_ (by size_fits));refine Qf ⟨_,rfl, "set_iterator", _,⟨_,Qp _ rfl,rfl⟩,b_.lookup,?_⟩;obtain⟨i0,s0⟩:=plainway _ rfl;have ne:a≠s.heap.objs.size:=QB hlt
 have fpok:∀b∈[s.heap.objs.size,a],b=a\/s.heap.objs.size<=b:=λb hb=>by
  simp only[QQ,List.not_mem_nil,or_false]at hb;rcases hb with rfl|rfl
  ·exact .inr (Qh _)
  exact .inl rfl
 cases ht:w.params.followText "set-order" with
 | true=>exact h _ s.drawn _ _ _ _ (od _ (pick_perm (w.params.setOrder a ep) es)) (λb o e=>Qd _ e) (Qh _) fpok (oW (ep:=ep) (t:=t) hh ht _ ne) ⟨i0,s0⟩
 | false =>
 rcases hl with z|⟨z1,z2⟩
 ·rw[ht]at z;cases z
 have h1:es.size<=1:=by
  rw[ht]at hab;by_cases e0:es.size=0
  ·omega
  rw[z2 e0]at hab;simp at hab;omega
 exact h _ s.drawn _ _ _ _ (od _ (.refl _)) (λb o e=>Qd _ e) (Qh _) fpok (rf (ep:=ep) hh ht h1 z1 _ ne) ⟨⟨0,i0,λ_=>rfl,λz=>by cases z⟩,s0⟩
theorem uO {r:Addr} {Q:Bool->Shared->Prop} (hT:s.TypeIs (.ref r) "set") (h:Q false s):wpAny (model prog w) A (Builtin.List.listLengthHint (.ref r)) Q E s:=by
 unfold Builtin.List.listLengthHint;refine Qa (wpAny_specialOf hT PySem.F.slot_set_len.lookup ?_);generalize hid:("set.__len__" : String)=id0
 wp_delta
 rw[show splitId id0=some ("set", "__len__") from by subst hid;decide +kernel];subst hid;refine Qa (wpAny_isInstance (T := "set") (b:=true) hT (by rw[isSubtype_type];kernel_rfl) ?_);refine wpAny_ite_split (λhab=>absurd hab (by decide)) (λ_=>?_);refine wpAny_ite_split (λ_=>?_) (λhab=>absurd (by decide +kernel) hab);refine Qa (wpAny_typeOf hT ?_);exact Qf h
theorem oG {R:List Value->Shared->Prop} (hh:A.handled=none) (q:bQ prog w s.heap a S n)
  (h:∀g tk d od,Ord S n od->(∀b o,s.heap.get? b=some o->g.get? b=some o)->s.heap.objs.size<=g.objs.size->R (od.map (·.2)) { s with heap:=g,toks:=tk,drawn:=d }):wpAny (model prog w) A (collect (.ref a)) R E s:=by
 obtain⟨o,es,ep,t,ho,hex,hd,hel,hm,hb,hf,hn,hl⟩:=id q;have hlt:=Qm ho;have nz:n<=sizeLine:=fits_of_scanBound (by rw[<-hn];exact hb);unfold collect;refine Qa (wpAny_runValue (Xr entry_proto_collect' ?_));rw[Xa PySem.F.plain_proto_collect _];refine Qa (wpAny_newObj_type (Qf ⟨XX PySem.F.plain_list_iadd _,Xr entry_list_iadd' ?_⟩));rw[Xa PySem.F.plain_list_iadd _];show wpAny _ _ (Builtin.List.listExtendWith (.ref s.heap.objs.size) (.ref a) (.ref s.heap.objs.size)) _ _ { s with heap:=s.heap.push { cls:=.type "list", data:=.seq ([]:List Value).toArray } };generalize hL:({ cls:=.type "list", data:=.seq ([]:List Value).toArray }:Obj)=L;have ho1:(s.heap.push L).get? a=some o:=Qd _ ho;have q1:bQ prog w (s.heap.push L) a S n:=⟨o,es,ep,t,ho1,hex,hd,hel,hm,hb,hf,hn,hl⟩;have hS:(s.heap.push L).get? s.heap.objs.size=some L:=Qp _ (by rw[<-hL];rfl);have nS:s.heap.objs.size≠a:=Nat.ne_of_gt hlt;unfold Builtin.List.listExtendWith;refine Qa (wpAny_typeOf (T := "set") (s:={ s with heap:=s.heap.push L }) ⟨o,ho1,hex.1⟩ ?_);have h1:Builtin.List.listSameRef (.ref s.heap.objs.size) (.ref a)=false:=by simp[Builtin.List.listSameRef,nS]
 have h2:(Value.type "set" == Value.type "list")=false:=by decide
 have h3:(Value.type "set" == Value.type "tuple")=false:=by decide
 simp only[h1,h2,h3,Bool.or_false,QK,XV];refine Qa (tI (A:=A.in1) (s:={ s with heap:=s.heap.push L }) hh q1 λh' d I od fp St om k hI hfp W st=>?_);have k':∀b o,s.heap.get? b=some o->h'.get? b=some o:=λb o e=>k b o (Qd _ e);have szL:(s.heap.push L).objs.size=s.heap.objs.size+1:=Q5 ..;have nI:s.heap.objs.size≠I:=by have:=hI;simp only[szL]at this;omega
 have hI':s.heap.objs.size<=I:=by simp only[szL]at hI;omega
 have nF:s.heap.objs.size∉fp:=λz=>by
  rcases hfp _ z with y|y
  ·exact nS y
  simp only[szL]at y;omega
 have hS1:h'.get? s.heap.objs.size=some L:=k _ _ hS;refine Qa (QS (uO (s:={ s with heap:=h',drawn:=d }) ⟨o,k' a o ho,hex.1⟩ ?_))
 have key:∀(g:Heap) (c₁ tk:Nat),St 0 g->(∀b o,b≠s.heap.objs.size->h'.get? b=some o->g.get? b=some o)->g.get? s.heap.objs.size=some { cls:=.type "list", data:=.seq #[] c₁ } ->
   codeAny (model prog w) A (.builtin "list.extend.loop" ⟨[.ref s.heap.objs.size,.ref I,.ref s.heap.objs.size],[]⟩) (λr s'=>∃(g:Heap) (tk:Nat) (acc:Array Value) (c:Nat),r=.ok (.ret (.ref s.heap.objs.size))/\s'={ s with heap:=g,toks:=tk,drawn:=d } /\
   (∀b o,s.heap.get? b=some o->g.get? b=some o)/\g.get? s.heap.objs.size=some { cls:=.type "list", dict:=none,data:=.seq acc c,slots:=#[] }/\PySem.ItemsOf (λi v=>∃e,od[i]?=some e/\v=e.2) acc n) { s with heap:=g,toks:=tk,drawn:=d }:=by
  intro g c₁ tk hst hk hS₁;refine codeAny_extend_loopS W.toS nz _ nF _ n 0 _ #[] c₁ rfl (QM _) hst hS₁ (ItemsOf.nil _) λs' acc' c' hm hS' hacc=>?_;rw[Moved.eq_with hm];refine⟨s'.heap,s'.toks,acc',c',rfl,rfl,λb o e=>hm.heap b o (λhmem=>?_) (hk b o (QB (Qm e)) (k' b o e)),hS',hacc⟩;rcases QQ.mp hmem with e'|hmem
  ·exact absurd (Qm e) (by rw[e'];exact XF _)
  exact absurd (Qm e) (by rw[Q3.mp hmem];exact Nat.not_lt.mpr hI')
 have all:∀(acc:Array Value),PySem.ItemsOf (λi v=>∃e,od[i]?=some e/\v=e.2) acc n->acc.toList=od.map (·.2):=λacc ⟨z1,z2⟩=>by
  refine List.ext_getElem? λi=>?_;rw[Qx,Qi];by_cases hi:i<n
  ·obtain⟨e,e1,e2⟩:=z2 i acc[i] (QF (by omega));rw[QF (by omega),e1,e2];rfl
  rw[Array.getElem?_eq_none (by omega),QY (by rw[om.len];omega)];rfl
 subst hL;refine wpAny_ite_split (λ_=>?_) (λ_=>Qf ⟨XX PySem.F.plain_extend_loop _,codeAny_mono (key h' 0 s.toks st (λb o _ e=>e) hS1) λr s' y=>?_⟩)
 ·refine Qa (XR ?_);refine Qa ?_;show wpAny _ _ (updateSeq s.heap.objs.size (·.push .none) >>= λ_=>updateSeq s.heap.objs.size (·.pop)) _ _ _;refine Qa (wpAny_updateSeq hS1 rfl ?_);have hS₂:=Xw (Obj.mapSeq (·.push Value.none)) hS1 rfl;refine wpAny_updateSeq (hz:=by seq_fits) hS₂ rfl ?_;have hS₃:=Xw (Obj.mapSeq (·.pop)) hS₂ rfl;refine Qf ⟨XX PySem.F.plain_extend_loop _,codeAny_mono (key _ _ s.toks ?_ (λb o hb e=>?_) hS₃) λr s' y=>?_⟩
  ·refine W.frame 0 _ _ st λb hb o e=>?_;have hbS:b≠s.heap.objs.size:=λh=>nF (h▸hb);exact(Q4 _ _ (XI hbS)).trans ((Q4 _ _ (XI hbS)).trans e)
  ·exact(Q4 _ _ (XI hb)).trans ((Q4 _ _ (XI hb)).trans e)
  obtain⟨g,tk,acc,c,rfl,rfl,kk,at',it⟩:=y;exact Qa (wpAny_load at' (Qf (by rw[all acc it];exact h g tk d od om kk (XH (Qm at')))))
 obtain⟨g,tk,acc,c,rfl,rfl,kk,at',it⟩:=y;exact Qa (wpAny_load at' (Qf (by rw[all acc it];exact h g tk d od om kk (XH (Qm at')))))
theorem ig:∀(as bs:List Str),as.Nodup->(∀x∈as,x∈bs)->bs.length<=as.length->as.Perm bs
 | [],bs,_,_,h=>by
  obtain rfl:bs=[]:=List.length_eq_zero_iff.mp (by simpa using h);exact .nil
 | a::as,bs,nd,h,z=>by
  obtain⟨n1,n2⟩:=Xi.mp nd;have ha:=h a Xd;have p:=List.perm_cons_erase ha;have q:=ig as (bs.erase a) n2 (λx hx=>(List.mem_erase_of_ne λ(e:x=a)=>n1 (e▸hx)).mpr (h x (Qq _ hx))) (by rw[List.length_erase_of_mem ha];simp at z;omega);exact(q.cons a).trans p.symm
theorem o9 {ts:List Str} (hh:A.handled=none) (nd:ts.Nodup) (q:bQ prog w s.heap a (λx=>decide (x∈ts)) ts.length)
  (h:∀D h' tk d (out:Array Value) m ss,(∀b o,s.heap.get? b=some o->h'.get? b=some o)->s.heap.objs.size<=D->h'.get? D=some (seqObj "list" out m)->StrsAre out.toList ss->ss.Perm ts->ss.Pairwise L2.leT->Q (.ref D) { s with heap:=h',toks:=tk,drawn:=d }) :
  wpAny (model prog w) A (call (.builtin "sorted") [.ref a]) Q E s:=by
 obtain⟨_,es,_,_,_,_,_,_,_,hb,_,hn,_⟩:=id q;refine Calls.call_function_entry kind_sorted plain_sorted entry_sorted (args_sorted1 _) ?_;unfold Builtin.«sorted»;refine Qa (m:=checkCount "sorted" 1 1 _) (Qf ?_);refine Qa (oG (A:=A.in1) hh q λh1 tk d od om k1 z1=>?_);have len:(od.map (·.2)).length=ts.length:=by rw[Qc,om.len]
 have len':(od.map (·.2)).length<=100000:=by unfold scanBound at hb;omega
 have alls:∀v∈od.map (·.2),∃x t,v=.str x t:=λv hv=>by
  obtain⟨e,he,rfl⟩:=Qo.mp hv;exact om.txt e he
 have sa:=strsAre_map _ alls
 have pm:((od.map (·.2)).map strOf).Perm ts:=(ig ts _ nd (λx hx=>by
  obtain⟨e,he,t,z⟩:=(om.mem x).mp (by simpa using hx)
  exact Qo.mpr ⟨e.2,Qo.mpr ⟨e,he,rfl⟩,by rw[z];rfl⟩) (by rw[Qc,len];exact Qh _)).symm
 generalize hv:od.map (·.2)=vs at len len' alls sa pm ⊢;refine Qa (wpAny_newList ?_ (by rw[sizeLine_eq];omega));have hoL:(h1.push (seqObj "list" vs.toArray 0)).get? h1.objs.size=some (seqObj "list" vs.toArray 0):=Qp _ rfl;refine Qa (QS (XB (s:={ s with heap:=h1.push (seqObj "list" vs.toArray 0),toks:=tk,drawn:=d }) slot_list_sort ⟨_,hoL,rfl⟩ entry_list_sort (Tm.jz hoL (Tm.jT sa) len' λout p1 p2=>⟨_,rfl,?_⟩) (args_list_sort _)));obtain⟨m,at'⟩:=Tm.fI (vs:=vs) (out:=out) hoL;obtain⟨ss,so,pm2,st⟩:=L2.i3 sa p1 p2;exact Qf ⟨_,rfl,h _ _ _ _ out m ss (λb o e=>Tm.eP (QB (QE (Qm e) z1)) (Qd _ (k1 b o e))) z1 at' so (pm2.trans pm) st⟩
end
theorem g_ (g:Nat->Str):∀i,(met g i).Nodup
 | 0=>List.nodup_nil
 | i+1=>by
  have q:=g_ g i;show (if g i∈met g i then met g i else met g i++[g i]).Nodup
  split
  ·exact q
  rename_i h
  exact List.nodup_append.mpr ⟨q,by simp,λx hx y hy e=>h (by simp at hy;rw[<-hy,<-e];exact hx)⟩
end LS
namespace L2
open PySem PySem.Spec PyProof.Rows
theorem Inv.drawn {X:Cx} {pins:List (Addr × Obj)} {σ:List (Option V)} {H:Hp} {s:Shared} (I:Inv X pins σ H s) (d:Drawn):Inv X pins σ H { s with drawn:=d }:=⟨I.ok,I.os,I.bare,I.base,I.loc,I.cell,I.free,I.freeC,I.pin,I.hok,I.len⟩
section
variable {X:Cx} {a:Expr} {ta:TA} {p p1 pos pos1:Pos}
def wf (ts ss:List Str):Prop:=ss.Nodup/\(∀x,x∈ss↔x∈ts)/\ss.Pairwise leT
def rm (K:PySem.W.Frag) (ta:TA):TE:=λσ H Q=>ta σ H λvs H1=>∃l ts,vs=[.ref l]/\SqL K H1 l (ts.map V.str)/\ts.length<=100000/\(∀us:List Str,us.Nodup->(∀x∈us,x∈ts)->us.length<4000)/\∀(p:Addr) (ss:List Str),H1 p=none->wf ts ss->Q (.ref p) (upd H1 p (.lst (ss.map V.str)))
def nu (K:PySem.W.Frag) (ta:TA):TE:=λσ H Q=>ta σ H λvs H1=>∃l ts,vs=[.ref l]/\SqL K H1 l (ts.map V.str)/\ts.length<4000/\∀(p:Addr) (ss:List Str),H1 p=none->wf ts ss->Q (.ref p) (upd H1 p (.lst (ss.map V.str)))
theorem xf:∀(us ts:List Str),us.Nodup->(∀x∈us,x∈ts)->us.length<=ts.length
 | [],_,_,_=>QM _
 | x::us,ts,nd,h=>by
  have hx:=h x (by simp);have:=xf us (ts.erase x) (Xi.mp nd).2 λy hy=>(List.mem_erase_of_ne λe:y=x=>(Xi.mp nd).1 (by rw[<-e];exact hy)).mpr (h y (Qq _ hy));rw[List.length_erase_of_mem hx]at this;have:=List.length_pos_of_mem hx;simp only[Q0];omega
theorem nQ (hc:X.calm=true) (hg:Gl X "sorted") (hm:X.mg "sorted" = none) (hg1:Gl X "set") (hm1:X.mg "set" = none) (ha:PA X [a] ta) (hs:starEach [a] X.env=[(false,eval a X.env)]:=by rfl)
  (he:starEach [.Call (.Name "set" p1) [a] [] pos1] X.env=[(false,eval (.Call (.Name "set" p1) [a] [] pos1) X.env)]:=by rfl) :
  PE X (.Call (.Name "sorted" p) [.Call (.Name "set" p1) [a] [] pos1] [] pos) (rm X.K ta):=by
 intro pins s σ H Q I h;refine wpAny_Call_Name_kw (ck I hg hm PyProof.Rows.boot_sorted ?_);refine PyProof.Rows.callWith_builtin1 ?_ he rfl;rw[he];show wpAny _ _ (spliced ((false,eval (.Call (.Name "set" p1) [a] [] pos1) X.env)::backTo pos [])) _ _ s;refine XQ ?_;refine Call_ (ck I hg1 hm1 PyProof.Rows.boot_set (QV (thn (ha pos1 pins s σ H _ I h) λus s1 z=>?_) hs rfl));obtain⟨vs,H1,I1,r1,l,ts,e,hl,hsm,hfw,q⟩:=z;subst e;obtain⟨u1,e,ru1⟩:=dy r1;subst e;cases ru1;obtain⟨its,rv,pl,_⟩:=I1.list hl;have hlen:its.length=ts.length:=by rw[<-rv.length,Qc]
 refine LS.mP (its:=its.toArray) (g:=λi=>ts.getD i Str.empty) (I1.ok.hd hc) pl.isList (λi v hv=>?_) (λi hi=>?_) λh3 tk q3 kept=>?_
 ·have hv':its[i]?=some v:=by simpa using hv
  have hi:i<ts.length:=by
   have:=(Qe.mp hv').1;omega
  have e1:(ts.map V.str)[i]?=some (.str (ts.getD i Str.empty)):=by
   rw[Qi,Qb hi,Ql,Qb hi];rfl
  obtain⟨u,hu,ru⟩:=rv.get e1;rw[hv']at hu;cases hu;obtain⟨t,e2⟩:=ru;exact⟨t,e2⟩
 ·rw[Qk,hlen]at hi
  have:=hfw _ (LS.g_ (λi=>ts.getD i Str.empty) i) λx hx=>by
   obtain⟨j,hj,e⟩:=(LS.mD _ x i).mp hx;rw[<-e,Ql,Qb (show j<ts.length by omega)];exact Xj _
  unfold scanBound;omega
 refine Calls.spliced_nil ?_;have hz:its.toArray.size=ts.length:=by rw[Qk];exact hlen
 rw[hz]at q3
 have mm:∀x,x∈LS.met (λi=>ts.getD i Str.empty) ts.length↔x∈ts:=λx=>by
  rw[LS.mD]
  constructor
  ·rintro⟨j,hj,rfl⟩;rw[Ql,Qb hj];exact Xj hj
  intro hx;obtain⟨j,hj,e⟩:=List.getElem_of_mem hx;exact⟨j,hj,by rw[Ql,Qb hj];exact e⟩
 have nd:=LS.g_ (λi=>ts.getD i Str.empty) ts.length;have ml:=LS.uC (λi=>ts.getD i Str.empty) ts.length;have q3:LS.bQ X.prog X.w h3 s1.heap.objs.size (λx=>decide (x∈LS.met (λi=>ts.getD i Str.empty) ts.length)) (LS.met (λi=>ts.getD i Str.empty) ts.length).length:=q3;generalize LS.met (λi=>ts.getD i Str.empty) ts.length=us at q3 mm nd ml;have I2:=I1.kept (t':=tk) kept;refine LS.o9 (s:={ s1 with heap:=h3,toks:=tk }) (I1.ok.hd hc) nd q3 λD h' tk2 d out m ss k2 hD at' so pm st=>?_;have lo:ss.length<=ts.length:=by rw[pm.length_eq];exact ml
 exact⟨.ref D,_,(I2.drawn d).laid (o:=.lst (ss.map V.str)) (t':=tk2) k2 hD ⟨by rw[Qc,sizeLine_eq];omega,out.toList,m,fO so,at'⟩,rfl,q _ ss (I2.hok.fresh hD) ⟨pm.nodup_iff.mpr nd,λx=>(pm.mem_iff).trans (mm x),st⟩⟩
theorem pA (hc:X.calm=true) (hg:Gl X "sorted") (hm:X.mg "sorted" = none) (hg1:Gl X "set") (hm1:X.mg "set" = none) (ha:PA X [a] ta) (hs:starEach [a] X.env=[(false,eval a X.env)]:=by rfl)
  (he:starEach [.Call (.Name "set" p1) [a] [] pos1] X.env=[(false,eval (.Call (.Name "set" p1) [a] [] pos1) X.env)]:=by rfl) :
  PE X (.Call (.Name "sorted" p) [.Call (.Name "set" p1) [a] [] pos1] [] pos) (nu X.K ta):=by
 have ha2:PA X [a] (λσ H R=>∃A:List V->Hp->Prop,ta σ H A/\∀vs H1,A vs H1->R vs H1):=λpos pins s σ H R I ⟨A,h,k⟩=>Xn (ha pos pins s σ H A I h) (λus s1 ⟨vs,H1,I1,r,q⟩=>⟨vs,H1,I1,r,k _ _ q⟩) λ_ _ z=>z;intro pins s σ H Q I h;exact nQ hc hg hm hg1 hm1 ha2 hs he pins s σ H Q I ⟨_,h,λvs H1 ⟨l,ts,e,hl,z,q⟩=>⟨l,ts,e,hl,by omega,λus nd su=>XO (xf us ts nd su) z,q⟩⟩
end
end L2
set_option maxHeartbeats 4000000
namespace L2
open PySem PySem.Spec PyProof.Rows Builtin Builtin.Str
section
variable {X:Cx} {pins:List (Addr × Obj)} {σ:St} {H:Hp} {s:Shared}
end
end L2
namespace L2
open PySem PySem.Spec PyProof.Rows
theorem sL {H1:Hp} {D:Addr} {σ0:St} {g:TG} {te:TE} {QD:Hp->Prop} {a:Addr} {o:Obj} {kvs:List (Key × V)} (Pv:Nat->Hp->List V->Prop) (h0:Pv 0 (upd H1 D (.lst [])) []) (hD:∀i H ys,Pv i H ys->H D=some (.lst ys)/\H a=some (.frz o (.dK kvs)))
  (hs:∀i k v H ys,kvs[i]?=some (k,v)->Pv i H ys->g (kV k) σ0 H λσ2 H2=>wk σ0 σ2/\fF σ2 H2 λb H3=>if b=true then te σ2 H3 (bM Pv kvs.length D i ys) else ∃m',m'<kvs.length-i/\(m'=kvs.length-(i+1)/\i+1<=kvs.length/\Pv (i+1) H3 ys)) (hd:∀H ys,Pv kvs.length H ys->QD H) :
  ∃W:Nat->Nat->Hp->List V->Prop,(∃m,W 0 m (upd H1 D (.lst [])) [])/\∀i m H ys,W i m H ys->H D=some (.lst ys)/\(((Itd a o kvs).stop i H/\QD H)\/((Itd a o kvs).go i H/\∀x H',(Itd a o kvs).yld i H x H'->g x σ0 H' λσ2 H2=>wk σ0 σ2/\fF σ2 H2 λb H3 =>
   if b=true then te σ2 H3 λv H4=>H4 D=some (.lst ys)/\ys.length<sizeLine/\∃m',m'<m/\W (i+1) m' (upd H4 D (.lst (ys++[v]))) (ys++[v]) else ∃m',m'<m/\W (i+1) m' H3 ys)):=by
 refine⟨λi m H ys=>m=kvs.length-i/\i<=kvs.length/\Pv i H ys,⟨kvs.length,by simp,QM _,h0⟩,?_⟩;rintro i m H ys ⟨rfl,hi,p⟩;obtain⟨d1,d2⟩:=hD i H ys p;refine⟨d1,?_⟩;by_cases hlt:i<kvs.length
 ·refine .inr ⟨⟨d2,hlt⟩,λx H' y=>?_⟩;obtain⟨e,k,v,hk,ex⟩:=y;subst e ex;exact hs i k v _ ys hk p
 have e:i=kvs.length:=by exact om0 hi hlt
 subst e;exact .inl ⟨⟨d2,Qh _⟩,hd H ys p⟩
end L2
namespace LY
open PySem LZ
section
variable {prog:Program} {w:World} {A:Around} {E:Value->Shared->Prop} {s:Shared}
end
structure ApartM (z TI TO i1 i2 l m d:Addr):Prop extends ApartD z TI TO i1 i2 l d where
 mz:m≠z
 mTO:m≠TO
 mi1:m≠i1
 mi2:m≠i2
 dm:d≠m
structure ZS (h:Heap) (z TI TO i1 i2 l d:Addr) (m:Addr) (xs ys:Array Value) (k:Nat):Prop where
 zf:(IsZ h z TI TO .none false/\∃a b,IsPair h TO a b)\/∃(T:Addr) (f1:Bool) (oT:Obj),IsZ h z TI TO (rawInt (T:Nat)) f1/\h.get? T=some oT/\T≠z/\T≠i1/\T≠i2/\T≠d
 ti:IsPair h TI (.ref i1) (.ref i2)
 a1:h.IsListIter i1 l k
 a2:h.IsListIter i2 m k
 li:h.IsList l xs
 mi:h.IsList m ys
section
variable {prog:Program} {w:World} {K:Type} [DecidableEq K] {knd:KeyKind prog w K} {A:Around} {R:Result->Shared->Prop}
end
end LY
namespace L2
open PySem PySem.Spec PyProof.Rows
section
variable {X:Cx} {elts:List Expr} {k:Nat} {tpos:Pos}
end
section
variable {X:Cx}
end
section
variable {X:Cx}
def nv (ta:TA):TE:=λσ H Q=>ta σ H λvs H1=>∃(n:Nat),vs=[.int (n:Int)]/\n<=1000/\∀l,H1 l=none->Q (.ref l) (upd H1 l (.lst ((List.range n).map λ(i:Nat)=>V.int (i:Int))))
theorem pB {a:Expr} {ta:TA} {p1 p2 pos1 pos2:Pos} (hc:X.calm=true) (hg:Gl X "list") (hm:X.mg "list" = none) (hg2:Gl X "range") (hm2:X.mg "range" = none) (ha:PA X [a] ta)
  (hs:starEach [a] X.env=[(false,eval a X.env)]:=by rfl)
  (hs0:starEach [.Call (.Name "range" p2) [a] [] pos2] X.env=[(false,eval (.Call (.Name "range" p2) [a] [] pos2) X.env)]:=by rfl) :
  PE X (.Call (.Name "list" p1) [.Call (.Name "range" p2) [a] [] pos2] [] pos1) (nv ta):=by
 intro pins s σ H Q I h;refine Call_ (ck I hg hm PyProof.Rows.boot_list (QV ?_ hs0 rfl));rw[hs0];show wpAny _ _ (spliced [(false,eval (.Call (.Name "range" p2) [a] [] pos2) X.env)]) _ _ s;refine XQ ?_;refine Call_ (ck I hg2 hm2 boot_range (QV (thn (ha pos2 pins s σ H _ I h) λws s1 ⟨vs,H1,I1,r1,q1⟩=>?_) hs rfl));obtain⟨n,e,hn,q⟩:=q1;subst e;obtain⟨u1,e,t',ru1⟩:=dy r1;subst e ru1;refine call_range_1 ?_;refine Calls.spliced_nil ?_;have I2:Inv X pins σ H1 { s1 with heap:=s1.heap.push { cls:=.type "range", data:=.fields #[.int 0 s1.toks,.int n t',.int 1 (s1.toks+1)] },toks:=s1.toks+1+1 }:=I1.kept λb o e=>Qd _ e;have hr:IsRange (s1.heap.push { cls:=.type "range", data:=.fields #[.int 0 s1.toks,.int n t',.int 1 (s1.toks+1)] }) s1.heap.objs.size 0 n 1 s1.toks t' (s1.toks+1):=IsRange.new ..;refine call_list_range (n:=n) (I2.ok.hd hc) hr (small_one (by omega) (by omega) (by omega) (by omega)) (by rw[rangeSize_one];split <;> omega) (by omega) λh' tk acc' c' hk hS' hacc=>?_
 have r:aY ((List.range n).map λ(i:Nat)=>V.int (i:Int)) acc'.toList:=by
  refine paired_get (by rw[Qc,Xl,Qu,hacc.1]) λj x y e1 e2=>?_;obtain⟨t2,e3⟩:=hacc.2 j y (by simpa using e2);rw[Qi]at e1
  cases e4:(List.range n)[j]? with
  | none=>rw[e4]at e1;cases e1
  | some j' =>
  rw[e4]at e1;cases e1
  have:j'=j:=by
   have:=Qe.mp e4;obtain⟨h1,h2⟩:=this;rw[List.getElem_range]at h2;exact h2.symm
  subst this;exact⟨t2,by rw[e3];simp⟩
 have big:1000<sizeLine:=by decide
 exact⟨.ref _,_,I2.laid (t':=tk) hk (Qh _) (show bj X.prog X.w _ h' _ (.lst _) from⟨by rw[Qc,Xl];omega,acc'.toList,c',r,by simpa using hS'⟩),rfl,q _ (I2.hok.fresh (Qh _))⟩
end
theorem x_ {X:Cx}:OpR X (compareOp .Is) (λx y H Q=>∃b c,x=.bl b/\y=.bl c/\Q (.bl (b==c)) H):=by
 intro pins s σ H x y v u Q I rx ry h;obtain⟨b,c,rfl,rfl,q⟩:=h;cases rx;cases ry;exact is_bool (a7 I q rfl)
end L2
namespace K2
open PySem L2
abbrev IvF:=Nat->St->Hp->Prop
abbrev IvC:=Nat->Hp->List V->Prop
abbrev IvJ:=St->Hp->Prop
variable {X:Cx}
theorem gC {K:PySem.W.Frag} (h:X.K=K):IxR X (pj K):=by subst h;exact aH
variable {H H' H1 H2:Hp} {σ:St} {td ty tx tv tl:TE}
theorem vY {Q:VK} (q:td σ H λx H1=>∃a,x=.ref a/\IsD H1 a/\ty σ H1 λy H2=>tx σ H2 λz H3=>∃kvs k,H3 a=some (.dK kvs)/\y=kV k/\(∀v,bn kvs k=some v->Q v H3)/\(bn kvs k=none->kvs.length<sizeLine/\Q z (upd H3 a (.dK (bN kvs k z))))):s_ td ty tx σ H Q:=q
theorem pf {D:Ends} (q:tv σ H λv H1=>td σ H1 λx H2=>ty σ H2 λy H3=>∃a H4,x=.ref a/\oU H3 a y v H4/\D.nx σ H4):wC td ty tv D σ H:=q
theorem BU {Q:VK} (q:ty σ H λy H1=>td σ H1 λx H2=>∃a o,x=.ref a/\cC H2 a y o/\Q (.bl o.isSome) H2):yT ty td σ H Q:=q
theorem uM {Q:VK} (q:ty σ H λy H1=>td σ H1 λx H2=>∃a o,x=.ref a/\cC H2 a y o/\Q (.bl (!o.isSome)) H2):qk ty td σ H Q:=q
theorem tJ {t:TS} {D:Ends} {a:Addr} {u:HO} (r:Rd H a u) (f:Fz u) (q:∀o,t (wn D H a o u) σ (upd H a (.frz o u))):yP t D σ H:=⟨a,u,r,f,q⟩
theorem iK {R:It->Hp->Prop} (q:tl σ H λx H1=>∃a o kvs,x=.ref a/\H1 a=some (.frz o (.dK kvs))/\R (Itd a o kvs) H1):uN tl σ H R:=q
theorem uJ {K:PySem.W.Frag} (h:X.K=K):IxR X (vz K):=by subst h;exact bo
structure Txt (K:PySem.W.Frag) (mg:Str->Option Value) (TT:Addr):Prop where
 n_len:mg "len" = none
 n_range:mg "range" = none
 n_max:mg "max" = none
 n_min:mg "min" = none
 n_int:mg "int" = none
 n_list:mg "list" = none
 n_str:mg "str" = none
 n_isinstance:mg "isinstance" = none
 n_all:mg "all" = none
 n_set:mg "set" = none
 n_dict:mg "dict" = none
 n_enumerate:mg "enumerate" = none
 n_sorted:mg "sorted" = none
 n_tuple:mg "tuple" = none
 n_bool:mg "bool" = none
 n_zip:mg "zip" = none
 n_reversed:mg "reversed" = none
 tURNED:mg "TURNED" = some (.ref TT)
 tab:qh K TT [("0", .flat (.str "1")),("1", .flat (.str "0"))]
structure Dk where
 d:Addr
def Dk.own (D:Dk) (b:Addr):Prop:=b=D.d
def Dk.At (D:Dk) (H:Hp):Prop:=∃a b c:Int,H D.d=some (.lst [.int a,.int b,.int c])
structure Kp (D:Dk) (H H':Hp):Prop where
 old:∀b o,H b=some o->¬D.own b->H' b=some o
 dk:D.At H'
def dR:Sp:=λvs H Q _=>∃(D:Dk) (m:Int),vs=[.ref D.d,.int m]/\D.At H/\1<=m/\m<=100000/\∀(r:Int) H',0<=r->r<m->Kp D H H'->Q (.int r) H'
variable {D:Dk}
theorem xh {a b c:Int}:Kp D H (upd H D.d (.lst [.int a,.int b,.int c])):=⟨λb o e nb=>by rw[aq nb];exact e,⟨_,_,_,ag⟩⟩
inductive Rl where
 | w (n:Str)|no (r:Rl)|an (a b:Rl)|orr (a b:Rl)
def Rl.ok (ns:List Str):Rl->Prop
 | .w n=>n∈ns
 | .no r=>r.ok ns
 | .an a b=>a.ok ns/\b.ok ns
 | .orr a b=>a.ok ns/\b.ok ns
def Rl.dep:Rl->Nat
 | .w _=>1
 | .no r=>r.dep+1
 | .an a b=>max a.dep b.dep+1
 | .orr a b=>max a.dep b.dep+1
def Rl.val (f:Str->Bool):Rl->Bool
 | .w n=>f n
 | .no r=>!r.val f
 | .an a b=>a.val f&&b.val f
 | .orr a b=>a.val f || b.val f
inductive RAt (H:Hp):V->Rl->Prop where
 | w {a:Addr} {n:Str}:H a=some (.tup [.str "wire", .str n])->RAt H (.ref a) (.w n)
 | no {a:Addr} {v:V} {r:Rl}:H a=some (.tup [.str "not", v])->RAt H v r->RAt H (.ref a) (.no r)
 | an {a:Addr} {v u:V} {r s:Rl}:H a=some (.tup [.str "and", v,u])->RAt H v r->RAt H u s->RAt H (.ref a) (.an r s)
 | orr {a:Addr} {v u:V} {r s:Rl}:H a=some (.tup [.str "or", v,u])->RAt H v r->RAt H u s->RAt H (.ref a) (.orr r s)
def cr (H H':Hp):Prop:=∀b xs,H b=some (.tup xs)->H' b=some (.tup xs)
theorem aw.tups (S:aw H H'):cr H H':=λb xs e=>S b _ e
theorem RAt.mono (hs:cr H H') {v:V} {r:Rl} (h:RAt H v r):RAt H' v r:=by
 induction h with
 | w e=>exact .w (hs _ _ e)
 | no e _ ih=>exact .no (hs _ _ e) ih
 | an e _ _ i1 i2=>exact .an (hs _ _ e) i1 i2
 | orr e _ _ i1 i2=>exact .orr (hs _ _ e) i1 i2
theorem Dk.At.same (S:aw H H') (h:D.At H):D.At H':=let ⟨a,b,c,e⟩:=h;⟨a,b,c,S _ _ e⟩
theorem Kp.of (h:D.At H) (S:aw H H'):Kp D H H':=⟨λb o e _=>S b o e,h.same S⟩
theorem Kp.trans (a:Kp D H H1) (b:Kp D H1 H2):Kp D H H2:=⟨λc o e n=>b.old c o (a.old c o e n) n,b.dk⟩
variable {o:HO} {b l L:Addr}
theorem dr (DA:D.At H) (h:H b=some o) (hi:∀xs,o=.lst xs->∀i:Int,V.int i∉xs):¬D.own b:=by
 obtain⟨x,y,z,e⟩:=DA;intro q;cases q;rw[e]at h;exact hi _ (QX h).symm x (by simp)
theorem Kp.tups (DA:D.At H) (k:Kp D H H'):cr H H':=λb xs e=>k.old b _ e (dr DA e (λ_ z=>nomatch z))
theorem jm (ns:List Str):∀i:Int,V.int i∉ns.map V.str:=λi h=>by
 obtain⟨x,_,e⟩:=Qo.mp h;cases e
variable {ns ins:List Str}
theorem Kp.strs (DA:D.At H) (k:Kp D H H') (h:H l=some (.lst (ns.map V.str))):H' l=some (.lst (ns.map V.str)) :=
 k.old l _ h (dr DA h (λxs e=>by cases e;exact jm ns))
variable {xs vs:List V}
theorem jo (h:∀x∈xs,∃a,x=V.ref a):∀i:Int,V.int i∉xs:=λi hi=>by
 obtain⟨a,e⟩:=h _ hi;cases e
theorem Kp.refs (DA:D.At H) (k:Kp D H H') (h:H l=some (.lst xs)) (hr:∀x∈xs,∃a,x=V.ref a):H' l=some (.lst xs) :=
 k.old l _ h (dr DA h (λys e=>by cases e;exact jo hr))
theorem Kp.fresh (DA:D.At H) (hL:H L=none) (k:Kp D H H'):Kp D H (upd H' L o):=by
 obtain⟨a0,b0,c0,e0⟩:=DA;obtain⟨a,b,c,e⟩:=k.dk;exact⟨λb u e nb=>by rw[aq (av e hL)];exact k.old b u e nb,⟨a,b,c,by rw[aq (av e0 hL)];exact e⟩⟩
theorem Kp.new {p:Addr} (k:Kp D H H') (hp:H' p=none):Kp D H (upd H' p o):=k.trans (Kp.of k.dk (ap hp))
theorem Kp.free (k:Kp D H H') (h:H' l=none):H l=none:=by
 cases e:H l with
 | none=>rfl
 | some o =>
 exfalso;by_cases c:D.own l
 ·obtain⟨a,b,z,q⟩:=k.dk;cases c;rw[q]at h;cases h
 rw[k.old l o e c]at h;cases h
theorem mw {p:Addr} (DA:D.At H) (hp:H p=none):¬D.own p:=λz=>by
 obtain⟨a,b,c,e⟩:=DA;cases z;rw[e]at hp;cases hp
def GAt (H:Hp) (v:V) (g:Str × Rl):Prop:=∃b rv,v=.ref b/\H b=some (.tup [.str g.1,rv])/\RAt H rv g.2
theorem GAt.mono (hs:cr H H') {v:V} {g:Str × Rl} (h:GAt H v g):GAt H' v g:=let ⟨b,rv,e,h1,h2⟩:=h;⟨b,rv,e,hs _ _ h1,h2.mono hs⟩
structure NAt (H:Hp) (a li lg:Addr) (ins:List Str) (vs:List V) (gs:List (Str × Rl)):Prop where
 ha:H a=some (.tup [.ref li,.ref lg])
 hi:H li=some (.lst (ins.map V.str))
 hg:H lg=some (.lst vs)
 gates:Paired (GAt H) vs gs
theorem d6 {H:Hp}:∀{vs:List V} {gs:List (Str × Rl)},Paired (GAt H) vs gs->∀x∈vs,∃a,x=V.ref a
 | _,_,.nil=>λx hx=>nomatch hx
 | _,_,.cons h t=>λx hx=>by
  rcases QQ.mp hx with e|hx
  ·obtain⟨b,_,e',_⟩:=h;exact⟨b,e.trans e'⟩
  exact d6 t x hx
theorem bi {H H':Hp} (hs:cr H H'):∀{vs:List V} {gs:List (Str × Rl)},Paired (GAt H) vs gs->Paired (GAt H') vs gs
 | _,_,.nil=>.nil
 | _,_,.cons h t=>.cons (h.mono hs) (bi hs t)
variable {gs:List (Str × Rl)}
theorem NAt.same {a li lg:Addr} (S:aw H H') (h:NAt H a li lg ins vs gs):NAt H' a li lg ins vs gs:=⟨S _ _ h.ha,S _ _ h.hi,S _ _ h.hg,bi (aw.tups S) h.gates⟩
theorem NAt.kp {a li lg:Addr} (DA:D.At H) (k:Kp D H H') (h:NAt H a li lg ins vs gs):NAt H' a li lg ins vs gs :=
 ⟨k.tups DA _ _ h.ha,k.strs DA h.hi,k.refs DA h.hg (d6 h.gates),bi (k.tups DA) h.gates⟩
def aj (ins:List Str) (gs:List (Str × Rl)):List Str:=ins++gs.map (·.1)
structure NetOk (ins:List Str) (gs:List (Str × Rl)):Prop where
 nd:(aj ins gs).Nodup
 i4:ins.length<=4
 g1:1<=gs.length
 g7:gs.length<=7
 rules:∀g∈gs,g.2.ok (aj ins gs)/\g.2.dep<=10
structure StOk (n:Nat) (z:Str):Prop where
 len:z.cps.size=n
 signs:∀c∈z.cps.toList,c=48\/c=49
def sg (b:Bool):V:=if b then .str "1" else .str "0"
def sgn (names:List Str) (z:Str) (n:Str):Bool:=z.cps.getD (names.idxOf n) 0==49
def DFn (kvs:List (Key × V)) (names:List Str) (f:Str->Bool):Prop:=∀n∈names,bn kvs (Sum.inr n:Key)=some (sg (f n))
theorem ku {K:PySem.W.Frag} (h:X.K=K):dN X (.builtin "len") (λxs H Q=>∃p ys,xs=[.ref p]/\(SqL K H p ys\/SqT K H p ys)/\Q (.int ys.length) H):=by subst h;exact aN
theorem kh {K:PySem.W.Frag} (h:X.K=K):OpR X (compareOp .NotIn) (rIn K true):=by subst h;exact dX
variable {pos p:Pos} {es a:List Expr}
theorem me {K:PySem.W.Frag} {k:Nat} {t:TGs} {n:Nat} (hK:X.K=K) (hc:X.calm=true) (h:PGs X es t)
  (hn:(assignEach es X.env).length=n:=by rfl) (hst:(assignEach es X.env).findIdx? (·.1)=none:=by rfl):PG X (.Tuple es k pos) (BW K n t):=by subst hK;exact jh hc h hn hst
theorem gn {A B:TS} {D:Ends} (J:St->Hp->Prop) (h:∀(R:St->Hp->Prop),(∀σ H,J σ H->R σ H)->A { D with nx:=R } σ H) (hJ:∀σ H,J σ H->B D σ H):vp A B D σ H:=h (B D) hJ
theorem fD {α β:Type} (f:α->β):∀(xs:List α) (k:Nat),(xs.map f).eraseIdx k=(xs.eraseIdx k).map f
 | [],_=>rfl
 | _::_,0=>rfl
 | x::xs,k+1=>by
  rw[QC,List.eraseIdx_cons_succ,List.eraseIdx_cons_succ,QC,fD f xs k]
variable {env:Env}
theorem se_tup {n:Nat}:starEach (.Tuple a n p::es) env=(false,eval (.Tuple a n p) env)::starEach es env:=by rfl
theorem aS {f:Expr} {k:List Keyword}:starEach (.Call f a k p::es) env=(false,eval (.Call f a k p) env)::starEach es env:=by rfl
theorem aA {c:Const} {n:Nat}:starEach (.Constant c n p::es) env=(false,eval (.Constant c n p) env)::starEach es env:=by rfl
theorem ae {x:Str}:starEach (.Name x p::es) env=(false,eval (.Name x p) env)::starEach es env:=by rfl
theorem se_bin {a b:Expr} {o:Operator}:starEach (.BinOp a o b p::es) env=(false,eval (.BinOp a o b p) env)::starEach es env:=by rfl
theorem se_lc {a:Expr} {g:List Comprehension} {sc:Scope}:starEach (.ListComp a g sc p::es) env=(false,eval (.ListComp a g sc p) env)::starEach es env:=by rfl
theorem se_sub {a b:Expr}:starEach (.Subscript a b p::es) env=(false,eval (.Subscript a b p) env)::starEach es env:=by rfl
theorem oi {a:Addr} (h1:H a=some o) (h2:H b=none):b≠a:=λz=>by rw[z,h1]at h2;cases h2
theorem eW {α β:Type} {F:α->β->Prop}:∀{xs:List α} {ys:List β} {x:α} {y:β},Paired F xs ys->F x y->Paired F (xs++[x]) (ys++[y])
 | _,_,_,_,.nil,h=>.cons h .nil
 | _,_,_,_,.cons h t,g=>.cons h (eW t g)
theorem bd {α β:Type} {F G:α->β->Prop} (h:∀a b,F a b->G a b):∀{xs:List α} {ys:List β},Paired F xs ys->Paired G xs ys
 | _,_,.nil=>.nil
 | _,_,.cons a t=>.cons (h _ _ a) (bd h t)
theorem paired_get {α β:Type} {F:α->β->Prop}:∀{xs:List α} {ys:List β} {i:Nat} {x:α},Paired F xs ys->xs[i]?=some x->∃y,ys[i]?=some y/\F x y
 | _,_,_,_,.nil,e=>by simp at e
 | _,_,0,_,.cons r _,e=>by simp at e;subst e;exact⟨_,rfl,r⟩
 | _,_,i+1,x,.cons _ t,e=>by
  obtain⟨u,h1,h2⟩:=paired_get (i:=i) (x:=x) t (by simpa using e);exact⟨u,by simpa using h1,h2⟩
theorem ifT {c:Bool} {A B:Prop} (hc:c=true) (h:A):if c=true then A else B:=by rw[Qz hc];exact h
theorem ifF {c:Bool} {A B:Prop} (hc:c=false) (h:B):if c=true then A else B:=by subst hc;exact iteF h
theorem bp {D:Addr} (S:aw H H') (hD:H D=none):aw H (upd H' D o):=λb u e=>by rw[aq (av e hD)];exact S b u e
theorem ay {p:Addr} (h:H p=none) (e:upd H p o=H'):aw H H'/\H' p=some o:=by
 subst e;exact⟨ap h,ag⟩
theorem aQ {α β:Type} {F:α->β->Prop}:∀{xs:List α} {ys:List β},Paired F xs ys->xs.length=ys.length
 | _,_,.nil=>rfl
 | _,_,.cons h t=>by simp[aQ t]
end K2
namespace K2
open PySem L2
abbrev SqLofQ:=@SqL.of
abbrev i_cQ:=@i_c
abbrev i_callQ:=@aW
abbrev i_consQ:=@ao
abbrev i_ixTQ:=@bA
abbrev i_nilQ:=@aG
abbrev i_opQ:=@a_
abbrev i_varQ:=@ah
abbrev iteTQ:=@bV
abbrev pa_consQ:=@ad
abbrev pa_nilQ:=@af
abbrev pe_intQ:=@ak
abbrev pe_strQ:=@aE
abbrev pe_tupQ:=@be
abbrev pss_oneQ:=@aI
abbrev s_asgQ:=@bE
abbrev s_nameQ:=@ax
abbrev se_callQ:=@aS
abbrev se_conQ:=@aA
abbrev se_nameQ:=@ae
local macro_rules | `(tactic| walk_at "vc") => `(tactic| first
 | ((refine' (?zz : (?zA → ?zG) → ?zA → ?zG) ?zr ?_); (case zr => with_reducible exact s_seqT); (case zz => exact fun _ q => q); intro D') | ((refine' (?zz : (?zA → ?zG) → ?zA → ?zG) ?zr ?_); (case zr => with_reducible first | exact s_asgQ | exact s_drop | exact s_ret | exact s_if | exact s_sub | exact s_next | exact i_cQ | exact i_opQ | exact i_test | exact i_tB | exact i_and | exact i_or | exact i_not | exact i_andV | exact i_orV | exact i_notV | exact i_ifE | exact i_nilQ | exact i_consQ | exact i_cb | exact i_tup | exact i_lst | exact i_bm | exact i_sl | exact i_nopart | exact i_part | exact s_for | exact s_rng1 | exact s_list | exact s_str | exact i_comp | exact i_dget | exact i_yes); (case zz => exact fun _ q => q))   | (with_reducible refine s_nameQ ?_)
 | ((with_reducible refine' i_varQ ?hv ?_); (case hv => exact rfl))   | (with_reducible first | refine i_rI0 ?_ | refine i_callQ ?_ | refine s_strI ?_ | refine iteF ?_ | refine iteTQ ?_)
 | ((with_reducible show ∃ i, V.int _ = V.int i ∧ _); (refine ⟨_, rfl, ?_⟩)) | ((with_reducible show ∃ k, V.bl _ = V.bl k ∧ _); (refine ⟨_, rfl, ?_⟩)) | ((with_reducible show (∃ i, [V.bl _] = [V.int i] ∧ _) ∨ _); (refine Or.inr ⟨_, rfl, ?_⟩))
 | ((with_reducible refine' i_ixL ?ha ?hb ?_); (case ha => exact SqLofQ (by assumption)); (case hb => exact rfl)) | ((with_reducible refine' i_ixTQ ?ha ?hb ?_); (case ha => assumption); (case hb => exact rfl))
 | ((with_reducible show ∃ p _, [V.ref _] = [V.ref p] ∧ (SqL _ _ _ _ ∨ SqT _ _ _ _) ∧ _); (refine' ⟨_, _, rfl, Or.inl (SqLofQ ?ha), ?_⟩); (case ha => assumption)) | ((with_reducible refine' s_setL ?ha ?hb ?_); (case ha => assumption); (case hb => exact rfl))
 | ((with_reducible refine' i_eq ?ha ?_); (case ha => exact rfl)) | ((with_reducible refine' i_ne ?ha ?_); (case ha => exact rfl))
 | ((with_reducible show ∃ z, V.str _ = V.str z ∧ _); (refine ⟨_, rfl, ?_⟩)))
local macro_rules | `(tactic| walk_at "p") => `(tactic| repeat' (with_reducible first | (refine' pss_oneQ ?_; rotate_left 1) | (refine' pss_cons ?_ ?_; rotate_left 2) | exact pss_nil | (refine' ps_if ?_ ?_ ?_; rotate_left 3)))
local macro_rules | `(tactic| walk_at "b") => `(tactic| (refine' pss_cons ?_ ?_; rotate_left 2; walk_at "p"))
local macro_rules | `(tactic| walk_at "f") => `(tactic| (refine' ps_for XN rfl ?_ ?_ ?_ (fun _ => rfl); rotate_left 3))
local macro_rules | `(tactic| walk_at "q") => `(tactic| repeat' (with_reducible first | exact pe_strQ | exact pe_intQ | exact pa_nilQ | (refine' pe_tupQ ?_; rotate_left 1) | (refine' pe_lst ?_; rotate_left 1) | (refine' pa_consQ ?_ ?_ se_conQ; rotate_left 2) | (refine' pa_consQ ?_ ?_ se_tup; rotate_left 2) | (refine' pa_consQ ?_ ?_ se_nameQ; rotate_left 2) | (refine' pa_consQ ?_ ?_ se_sub; rotate_left 2) | (refine' pa_consQ ?_ ?_ se_bin; rotate_left 2) | (refine' pa_consQ ?_ ?_ se_lst; rotate_left 2) | (refine' pa_consQ ?_ ?_ se_callQ; rotate_left 2) | (refine' pa_consQ ?_ ?_ se_lc; rotate_left 2)))
local macro_rules | `(tactic| walk_at "l") => `(tactic| (intro vs H Q E h; repeat (first | (obtain ⟨e, _⟩ := h; subst e; rfl) | (obtain ⟨_, h⟩ := h))))
local macro_rules | `(tactic| walk_at "e") => `(tactic| ((try dsimp only [cxOf, Cx.nox, Cx.wish]); (conv in (L2.start _ _) => simp only [L2.start, QC, List.map_nil, Q0, Xq, List.replicate_succ, List.replicate_zero, List.cons_append, List.nil_append, Nat.reduceAdd, Nat.reduceSub]); have big : 100000 < sizeLine := by decide))
local macro_rules | `(tactic| walk_at "s") => `(tactic| (with_reducible first | refine s_seq ?_ | refine s_if ?_ | refine s_next ?_ | refine i_or ?_ | refine s_nameQ ?_ | refine s_ret ?_))
local macro_rules|`(tactic|walk_at "w")=>`(tactic|repeat walk_at "vc")
local macro_rules|`(tactic|walk_at "k")=>`(tactic|exact⟨rfl,rfl,rfl,by decide +kernel,rfl,by decide +kernel,by decide +kernel⟩)
local macro_rules|`(tactic|walk_at "d")=>`(tactic|try dsimp only[cxOf,Cx.nox,Cx.wish])
def fj:Sp:=λvs H Q _=>∃a li lg ins gvs gs,vs=[.ref a]/\NAt H a li lg ins gvs gs/\NetOk ins gs/\∀l H',aw H H'->H l=none->H' l=some (.lst ((aj ins gs).map V.str))->Q (.ref l) H'
def lN:Sp:=λvs H Q _=>∃a li lg ins gvs gs,vs=[.ref a]/\NAt H a li lg ins gvs gs/\NetOk ins gs/\∀l H',aw H H'->H l=none->H' l=some (.lst ((gs.map (·.1)).map V.str))->Q (.ref l) H'
variable {i n:Nat}
theorem sK {K:PySem.W.Frag} {σ:St} {H:Hp} {Q:VK} {c:Int} {a li lg:Addr} {gvs vals:List V} (hσ:σ[i]?=some (some (.ref a))) (ha:H a=some (.tup [.ref li,.ref lg])) (hg:H lg=some (.lst gvs)) (hs:gvs.length<=1000)
  (hx:∀(j:Nat) x,gvs[j]?=some x->∃b ys v,x=.ref b/\H b=some (.tup ys)/\atI ys c=some v/\vals[j]?=some v) (hl:vals.length=gvs.length)
  (q:∀D H',H D=none->aw H H'->H' D=some (.lst vals)->Q (.ref D) H') :
  kH (qO K (tOp (pj K) (eN i) (tC (V.int 1)))) (eJ 0) fF (tOp (pj K) (eN 0) (tC (V.int c))) (bH [Str.ofString "gate"] []) σ H Q:=by
 refine i_comp (s_list (a_ (ah hσ (i_c (bA ha rfl ⟨lg,rfl,⟨_,SqL.of hg⟩,λD hD=>?_⟩)))));have big:1000<sizeLine:=by decide
 refine bD (xs:=gvs) (λn H' ys=>aw H H'/\H' D=some (.lst ys)/\ys=vals.take n) ⟨ap hD,ag,by simp⟩ (λn H' ys p=>⟨p.2.1,SqL.of (p.1 _ _ hg)⟩) (λn x H' ys e p=>?_) (λH' ys p=>?_)
 ·obtain⟨S,hd,rfl⟩:=p;obtain⟨b,zs,v,rfl,hb,hv,hv2⟩:=hx n x e;have hn:n<gvs.length:=(Qe.mp e).1;refine ax ⟨trivial,?_⟩;refine i_yes (bV ?_);refine a_ (ah rfl (i_c (bA (S _ _ hb) hv (bM.mk hd hn (by rw[Qv];omega) ⟨bp S hD,ag,?_⟩))));rw[QO,hv2];rfl
 obtain⟨S,hd,rfl⟩:=p;exact q D H' hD S (by rw[hd,Qs (by omega)])
theorem cV {α β:Type} {F:α->β->Prop}:∀{xs:List α} {ys:List β},Paired F xs ys->∀(j:Nat) x,xs[j]?=some x->∃y,ys[j]?=some y/\F x y
 | _,_,.nil=>λj x e=>by simp at e
 | _,_,.cons (a:=a) (b:=b) h t=>λj x e=>by
  cases j with
  | zero=>simp at e;subst e;exact⟨_,rfl,h⟩
  | succ j=>simp at e;obtain⟨y,e',f⟩:=cV t j x e;exact⟨y,by simpa using e',f⟩
variable {gs:List (Str × Rl)} {ins ns:List Str}
theorem pY {K:PySem.W.Frag} {σ:St} {H:Hp} {Q:VK} {a li lg:Addr} {gvs:List V} (hσ:σ[i]?=some (some (.ref a))) (NA:NAt H a li lg ins gvs gs) (ok:NetOk ins gs)
  (q:∀D H',H D=none->aw H H'->H' D=some (.lst ((gs.map (·.1)).map V.str))->Q (.ref D) H') :
  kH (qO K (tOp (pj K) (eN i) (tC (V.int 1)))) (eJ 0) fF (tOp (pj K) (eN 0) (tC (V.int 0))) (bH [Str.ofString "gate"] []) σ H Q:=by
 have l:=aQ NA.gates;have g7:=ok.g7;refine sK (vals:=(gs.map (·.1)).map V.str) hσ NA.ha NA.hg (by omega) (λj x e=>?_) (by simp[l]) q;obtain⟨g,e',b,rv,rfl,hb,hr⟩:=cV NA.gates j x e;exact⟨b,_,_,rfl,hb,rfl,by simp[e']⟩
theorem re (ok:NetOk ins gs):(ins.map V.str).length+((gs.map (·.1)).map V.str).length<=sizeLine:=by
 have g7:=ok.g7;have i4:=ok.i4;have big:1000<sizeLine:=by decide
 simp only[Qc];omega
theorem rc (ins:List Str) (gs:List (Str × Rl)):ins.map V.str++(gs.map (·.1)).map V.str=(aj ins gs).map V.str:=by unfold aj;rw[Qw]
variable {P:Program} {w:World} {K:PySem.W.Frag} {mg:Str->Option Value} {base:Heap} {TT:Addr}
section
theorem nM:FnScope ["net"] ["net"] (au (top 6)):=by walk_at "k"
theorem uv {f:Addr} {fd:FuncData} (Fu:Fun K "gates_of" "gates_of" (top 6) f fd) (T:Txt K mg TT):FnOk P w K mg base CX0 1 f fd ["net"] lN:=by
 have S:=nM;refine Fu.ok S (by walk_at "l") (λcdv A outer s H vs Q E hr h=>?_);obtain⟨a,li,lg,ins,gvs,gs,rfl,NA,ok,k⟩:=h;refine⟨_,(aI (aB (c7 "gate" [] (bq (aD aH (pv 0) ak)) (λ_ _ _ _=>(aD (gC (K:=K) rfl) (pv 0) ak))))),?_⟩;walk_at "e";refine pY (Q:=Q) rfl NA ok λD H2 hD s2 h2=>?_;exact k D H2 s2 hD h2
theorem ny:FnScope ["net"] ["net"] (au (top 7)):=by walk_at "k"
theorem uk {f:Addr} {fd:FuncData} (Fu:Fun K "wires_of" "wires_of" (top 7) f fd) (T:Txt K mg TT) (f_gates_of:Fn P w K mg base "gates_of" ["net"] 1 lN):FnOk P w K mg base CX0 2 f fd ["net"] fj:=by
 have S:=ny;refine Fu.ok S (by walk_at "l") (λcdv A outer s H vs Q E hr h=>?_);obtain⟨a,li,lg,ins,gvs,gs,rfl,NA,ok,k⟩:=h;obtain⟨ha,hi,hg,gts⟩:=id NA;refine⟨_,(aI (aB (a8 t_ (cU d_ (by rfl) T.n_list PyProof.Rows.boot_list (ad (aD aH (pv 0) ak) af)) (aF f_gates_of hr (ad (pv 0) af))))),?_⟩;walk_at "e";walk_at "w";intro l hl;have s1:=ap (o:=.lst (ins.map V.str)) hl;have NA1:=NA.same s1;walk_at "w";refine⟨a,li,lg,ins,gvs,gs,rfl,NA1,ok,λD H2 s2 hD h2=>?_⟩;have hl2:H2 l=some (.lst (ins.map V.str)):=s2 _ _ ag;refine xm hl2 h2 (re ok) λp hp=>?_;have hs:aw H (upd H2 p (HO.lst (ins.map V.str++(gs.map (·.1)).map V.str))):=s1.trans (s2.trans (ap hp));refine k p _ hs (aw.free (s1.trans s2) hp) ?_;rw[ag,rc]
end
def iY (v:V):Sp:=λvs H Q _=>∃a li lg ins gvs gs z,vs=[.ref a,.str z]/\NAt H a li lg ins gvs gs/\NetOk ins gs/\StOk (aj ins gs).length z/\∀H',aw H H'->Q v H'
def stB (n:Nat) (z:Str):Bool:=decide (z.cps.size=n)&&z.cps.toList.all λc=>c==48 || c==49
theorem lD {z:Str}:stB n z=true↔StOk n z:=by
 unfold stB;rw[XA,decide_eq_true_iff,QJ];exact⟨λh=>⟨h.1,λc hc=>by simpa using h.2 c hc⟩,λh=>⟨h.len,λc hc=>by simpa using h.signs c hc⟩⟩
def tD:Sp:=λvs H Q _=>∃(z:Str) (m:Nat),vs=[.str z,.int (m:Int)]/\z.length<=1000/\∀H',aw H H'->Q (.bl (stB m z)) H'
def iH:Sp:=λvs H Q _=>∃a li lg ins gvs gs z,vs=[.ref a,.str z]/\NAt H a li lg ins gvs gs/\NetOk ins gs/\z.length<=1000/\∀H',aw H H'->Q (.bl (stB (aj ins gs).length z)) H'
theorem yA (c:Nat):PyProof.Rows.KTD.inKeys (⟨#[c]⟩:Str) [(("0" : Str),PyProof.Rows.KTD.Dat.flat (PyData.str "1")),("1", .flat (.str "0"))]=(c==48 || c==49):=by
 by_cases h:c=48
 ·subst h;decide +kernel
 by_cases h2:c=49
 ·subst h2;decide +kernel
 rw[beq_false_of_ne h,beq_false_of_ne h2];have e:∀d:Nat,c≠d->decide ((⟨#[c]⟩:Str)=⟨#[d]⟩)=false:=λd n=>QI λz=>n (by cases z;rfl);show (decide ((⟨#[c]⟩:Str)=⟨#[48]⟩) || (decide ((⟨#[c]⟩:Str)=⟨#[49]⟩) || false))=false;rw[e 48 h,e 49 h2];rfl
section
theorem rB:FnScope ["thing", "many"] ["thing", "many"] (au (top 5)):=by walk_at "k"
variable {fd:FuncData} {f:Addr}
theorem yo (Fu:Fun K "is_row" "is_row" (top 5) f fd) (T:Txt K mg TT):FnOk P w K mg base CX0 1 f fd ["thing", "many"] tD:=by
 have S:=rB;refine Fu.ok S (by walk_at "l") (λcdv A outer s H vs Q E hr h=>?_);obtain⟨z,m,rfl,hz,k⟩:=h
 refine⟨_,(pss_cons (ps_if (PW.pt (je (dS (c6 (aK io (by rfl) T.n_isinstance PyProof.Rows.boot_isinstance (ad (pv 0) (ad (qC (v:=.ty "str") (by rfl) T.n_str PyProof.Rows.boot_str rfl) af))))) (fT (aL ii (aK mQ (by rfl) T.n_len Q7 (ad (pv 0) af)) (pv 1) (aZ _))))) (aI (aB dF)) pss_nil)
  (aI (aB (aK (gI rfl) (by rfl) T.n_all PyProof.Rows.boot_all (ad (c7 "sign" [] (tU (pv 0)) (λ_ _ _ _=>(cD (rM T.tab) (pv 0) (qz (v:=.ref TT) (by rfl) T.tURNED rfl) rfl))) af))))),?_⟩
 walk_at "e";walk_at "w";refine⟨_,_,_,_,rfl,TyOf.str z,ot "str", ?_⟩;refine⟨_,rfl,iteF ?_⟩;have big:1000<sizeLine:=by decide
 walk_at "w";refine⟨_,rfl,(by omega),?_⟩;walk_at "w";by_cases cz:z.length=m
 case neg =>
  refine ifT (by rw[QI λh=>cz (by injection h with h;omega)];rfl) ?_;walk_at "w"
  have e:stB m z=false:=by
   unfold stB;rw[QI (show ¬z.cps.size=m from cz)];rfl
  have:=k H (aw.refl _);rwa [e]at this
 refine ifF (by rw[cz];simp) ?_;walk_at "w";intro D hD;let I1:IvC:=λn H' ys=>aw H H'/\H' D=some (.lst ys)/\ys=((z.cps.toList.take n).map λc=>c==48 || c==49).map V.bl;refine oF I1 ⟨ap hD,ag,rfl⟩ (λn H' ys p=>p.2.1) (λn H' ys hn p=>?_) (λH' ys p=>?_)
 ·obtain⟨Sm,hd,rfl⟩:=p;refine ax ⟨trivial,i_yes (bV ?_)⟩;refine a_ (ah rfl (i_c ⟨_,rfl,rfl,?_⟩));have zl:z.cps.size=z.length:=rfl;refine bM.mk hd hn (by rw[Qc,Qc,Qv];omega) ⟨bp Sm hD,ag,?_⟩
  have e:z.cps.toList[n]?=some (z.cps.getD n 0):=by
   rw[Qx,QF hn];simp[Array.getD,hn]
  rw[QO,e,Q8,Qw,Qw];exact congrArg (λb=>((z.cps.toList.take n).map λc=>c==48 || c==49).map V.bl++[V.bl b]) (yA _)
 obtain⟨Sm,hd,rfl⟩:=p;refine aG ⟨_,_,rfl,SqL.of hd,?_⟩
 have e:(((z.cps.toList.take z.cps.size).map λc=>c==48 || c==49)).all id=stB m z:=by
  unfold stB;rw[QU (show z.cps.size=m from cz),Bool.true_and,List.all_map,Qs (by rw[Qu];exact Qh _)];rfl
 rw[e];exact k H' Sm
theorem jc:FnScope ["net", "thing"] ["net", "thing"] (au (top 8)):=by walk_at "k"
theorem vQ (Fu:Fun K "is_standing" "is_standing" (top 8) f fd) (T:Txt K mg TT) (f_is_row:Fn P w K mg base "is_row" ["thing", "many"] 1 tD):FnOk P w K mg base CX0 2 f fd ["net", "thing"] iH:=by
 have S:=jc;refine Fu.ok S (by walk_at "l") (λcdv A outer s H vs Q E hr h=>?_);obtain⟨a,li,lg,ins,gvs,gs,z,rfl,NA,ok,st,k⟩:=h;obtain⟨ha,hi,hg,gts⟩:=id NA;refine⟨_,(aI (aB (aF f_is_row hr (ad (pv 1) (ad (a8 cu (aK aN (by rfl) T.n_len Q7 (ad (aD aH (pv 0) ak) af)) (aK aN (by rfl) T.n_len Q7 (ad (aD aH (pv 0) ak) af))) af))))),?_⟩;walk_at "e"
 have hz:(aj ins gs).length=ins.length+gs.length:=by
  unfold aj;rw[Qj,Qc]
 have lg:=aQ NA.gates;walk_at "w";refine⟨z,(aj ins gs).length,?_,st,λH' Sm=>k H' Sm⟩;rw[Qc,lg,hz];rfl
theorem gq:FnScope ["net", "thing"] ["net", "thing"] (au (top 9)):=by walk_at "k"
theorem ux (Fu:Fun K "check_standing" "check_standing" (top 9) f fd) (T:Txt K mg TT) (f_is_standing:Fn P w K mg base "is_standing" ["net", "thing"] 2 iH):FnOk P w K mg base CX0 3 f fd ["net", "thing"] (iY .non):=by
 have S:=gq;refine Fu.ok S (by walk_at "l") (λcdv A outer s H vs Q E hr h=>?_);obtain⟨a,li,lg,ins,gvs,gs,z,rfl,NA,ok,st,k⟩:=h;refine⟨_,(aI (ps_if (dS (c6 (aF f_is_standing hr (ad (pv 0) (ad (pv 1) af))))) rH pss_nil)),?_⟩;walk_at "e";walk_at "w";have w11:(aj ins gs).length<=11:=by unfold aj;rw[Qj,Qc];have:=ok.i4;have:=ok.g7;omega
 have zl:z.length=(aj ins gs).length:=st.len;refine⟨a,li,lg,ins,gvs,gs,z,rfl,NA,ok,by omega,λH' Sm=>⟨_,rfl,?_⟩⟩;rw[lD.mpr st];exact iteF (k H' Sm)
def iI (d:Nat):Sp:=λvs H Q _=>∃v a kvs r ns g,vs=[v,.ref a]/\RAt H v r/\r.dep<=d/\r.ok ns/\H a=some (.dK kvs)/\DFn kvs ns g/\Q (.bl (r.val g)) H
theorem fX {k:Nat} {ps:List Str} {sp:Sp} (h:∀vs H Q E,sp vs H Q E->False):FnOk P w K mg base CX0 k f fd ps sp :=
 ⟨λvs H Q E q=>(h vs H Q E q).elim,λ_ _ _ _ _ _ vs Q E _ _ _ _ q=>(h _ _ _ _ q).elim⟩
theorem mM (r:Rl):1<=r.dep:=by cases r <;> simp[Rl.dep]
theorem xE (b:Bool):decide (sg b=V.str "1")=b:=by
 cases b
 ·decide +kernel
 decide +kernel
theorem j9:FnScope ["rule", "signs", "kind"] ["rule", "signs"] (au (top 10)):=by walk_at "k"
theorem n9 {f:Addr} {fd:FuncData} (Fu:Fun K "rule_holds" "rule_holds" (top 10) f fd) (T:Txt K mg TT) (hm:mg "rule_holds" = some (.ref f)) (hk:PySem.W.keepIn K (.ref f)=true) (hb:fM K fd ["rule", "signs"] []):∀d,FnOk P w K mg base CX0 d f fd ["rule", "signs"] (iI d)
 | 0=>fX λvs H Q E ⟨v,a,kvs,r,ns,g,_,_,h,_⟩=>by have:=mM r;omega
 | d+1=>by
  have S:=j9;have f_rule_holds:Fn P w K mg base "rule_holds" ["rule", "signs"] d (iI d):=⟨f,fd,n9 Fu T hm hk hb d,hm,hk,hb⟩;refine Fu.ok S (λvs H Q E h=>?_) (λcdv A outer s H vs Q E hr h=>?_)
  ·obtain⟨v,a,kvs,r,ns,g,rfl,_⟩:=h;rfl
  obtain⟨v,a,kvs,r,ns,g,rfl,ra,hd,rok,ha,hf,q⟩:=h;have hu:=eI hr
  refine⟨_,(pss_cons (aO 2 S.nd (aD aH (pv 0) ak))
  (pss_cons (ps_if (aL eF (pv 2) aE (aZ _)) (aI (aB (cD eF (bO hu (pv 1) (aD aH (pv 0) ak)) aE (aZ _)))) pss_nil)
  (pss_cons (ps_if (aL eF (pv 2) aE (aZ _)) (aI (aB (xQ (aF f_rule_holds hr (ad (aD aH (pv 0) ak) (ad (pv 1) af)))))) pss_nil)
  (pss_cons (ps_if (aL eF (pv 2) aE (aZ _)) (aI (aB (tZ (aF f_rule_holds hr (ad (aD aH (pv 0) ak) (ad (pv 1) af))) (mf (aF f_rule_holds hr (ad (aD aH (pv 0) ak) (ad (pv 1) af))))))) pss_nil)
  (aI (aB (wI (aF f_rule_holds hr (ad (aD aH (pv 0) ak) (ad (pv 1) af))) (mf (aF f_rule_holds hr (ad (aD aH (pv 0) ak) (ad (pv 1) af))))))))))),?_⟩
  walk_at "e"
  cases ra with
  | @w b n hb =>
   walk_at "w";refine ifT (by decide +kernel) ?_;walk_at "w";have hv:bn kvs (Sum.inr n:Key)=some (sg (g n)):=hf n rok;refine⟨a,sg (g n),rfl,by rw[<-hv];exact cC.k (k:=Sum.inr n) ha,?_⟩;walk_at "w";refine i_eq (by cases g n <;> rfl) ?_;rw[xE];exact q
  | @no b u r hb hr1 =>
   walk_at "w";refine ifF (by decide +kernel) ?_;walk_at "w";refine ifT (by decide +kernel) ?_;walk_at "w";exact⟨u,a,kvs,r,ns,g,rfl,hr1,by simp only[Rl.dep]at hd;omega,rok,ha,hf,⟨_,rfl,q⟩⟩
  | @an b u x r1 r2 hb hr1 hr2 =>
   walk_at "w";refine ifF (by decide +kernel) ?_;walk_at "w";refine ifF (by decide +kernel) ?_;walk_at "w";refine ifT (by decide +kernel) ?_;walk_at "w";simp only[Rl.dep]at hd;refine⟨u,a,kvs,r1,ns,g,rfl,hr1,by omega,rok.1,ha,hf,⟨_,rfl,?_⟩⟩;have e:Rl.val g (Rl.an r1 r2)=(r1.val g&&r2.val g):=rfl;rw[e]at q
   cases hv:r1.val g with
   | false=>rw[hv]at q;exact iteF q
   | true =>
   rw[hv]at q;refine bV ?_;walk_at "w";exact⟨x,a,kvs,r2,ns,g,rfl,hr2,by omega,rok.2,ha,hf,q⟩
  | @orr b u x r1 r2 hb hr1 hr2 =>
  walk_at "w";refine ifF (by decide +kernel) ?_;walk_at "w";refine ifF (by decide +kernel) ?_;walk_at "w";refine ifF (by decide +kernel) ?_;walk_at "w";simp only[Rl.dep]at hd;refine⟨u,a,kvs,r1,ns,g,rfl,hr1,by omega,rok.1,ha,hf,⟨_,rfl,?_⟩⟩;have e:Rl.val g (Rl.orr r1 r2)=(r1.val g || r2.val g):=rfl;rw[e]at q
  cases hv:r1.val g with
  | true=>rw[hv]at q;exact bV q
  | false =>
  rw[hv]at q;refine iteF ?_;walk_at "w";exact⟨x,a,kvs,r2,ns,g,rfl,hr2,by omega,rok.2,ha,hf,q⟩
def lG (d:Nat):Sp:=λvs H Q _=>∃v a kvs r ns g,vs=[v,.ref a]/\RAt H v r/\r.dep<=d/\r.ok ns/\H a=some (.dK kvs)/\DFn kvs ns g/\Q (sg (r.val g)) H
theorem j8:FnScope ["rule", "signs"] ["rule", "signs"] (au (top 11)):=by walk_at "k"
theorem uh (Fu:Fun K "rule_worth" "rule_worth" (top 11) f fd) (T:Txt K mg TT) (f_rule_holds:Fn P w K mg base "rule_holds" ["rule", "signs"] 10 (iI 10)):FnOk P w K mg base CX0 11 f fd ["rule", "signs"] (lG 10):=by
 have S:=j8;refine Fu.ok S (by walk_at "l") (λcdv A outer s H vs Q E hr h=>?_);obtain⟨v,a,kvs,r,ns,g,rfl,ra,hd,rok,ha,hf,q⟩:=h;refine⟨_,(aI (aB (nR (c6 (aF f_rule_holds hr (ad (pv 0) (ad (pv 1) af)))) aE aE))),?_⟩;walk_at "e";walk_at "w";refine⟨v,a,kvs,r,ns,g,rfl,ra,hd,rok,ha,hf,⟨_,rfl,?_⟩⟩
 cases hv:r.val g with
 | true=>rw[hv]at q;exact bV q
 | false=>rw[hv]at q;exact iteF q
end
theorem eD {k:Key}:∀{qs kvs:List (Key × V)},k∉qs.map (·.1)->bn (bG kvs qs) k=bn kvs k
 | [],kvs,_=>rfl
 | q::qs,kvs,h=>by
  simp only[QC,QQ,not_or]at h;show bn (bG (bN kvs q.1 q.2) qs) k=_;rw[eD h.2,eL,QA h.1]
theorem eK {k:Key} {v:V}:∀{qs kvs:List (Key × V)},(qs.map (·.1)).Nodup->(k,v)∈qs->bn (bG kvs qs) k=some v
 | [],kvs,_,h=>nomatch h
 | q::qs,kvs,nd,h=>by
  rw[QC,Xi]at nd;show bn (bG (bN kvs q.1 q.2) qs) k=_;rcases QQ.mp h with e|h
  ·subst e;rw[eD nd.1,eL,Qz rfl]
  exact eK nd.2 h
theorem ng (ns:List Str) (z:Str):(cJ ns z).map (·.1)=ns.map Sum.inr:=by
 unfold cJ;rw[QW];have e:((λx:Key × V=>x.1)∘λp:Str × Nat=>((Sum.inr p.1:Key),eQ z p.2))=(λp:Str × Nat=>(Sum.inr p.1:Key)):=rfl;rw[e];have e2:(λp:Str × Nat=>(Sum.inr p.1:Key))=(Sum.inr:Str->Key)∘Prod.fst:=rfl;rw[e2,<-QW,List.zipIdx_map_fst]
theorem rX (h:ns.Nodup):(ns.map (Sum.inr:Str->Key)).Nodup:=by
 induction ns with
 | nil=>exact List.nodup_nil
 | cons a r ih =>
 rw[Xi]at h;rw[QC,Xi];refine⟨λm=>?_,ih h.2⟩;obtain⟨x,hx,e⟩:=Qo.mp m;cases e;exact h.1 hx
theorem lT {z:Str} (st:StOk n z) (hi:i<n):eQ z i=sg (z.cps.getD i 0==49):=by
 have hl:=st.len;have e:z.cps.getD i 0=z.cps[i]'(by omega):=by simp[Array.getD,hl,hi]
 have:z.cps.getD i 0=48\/z.cps.getD i 0=49:=by
  rw[e];exact st.signs _ (by simp)
 unfold eQ;rcases this with e|e
 ·rw[e];decide +kernel
 rw[e];decide +kernel
theorem v7 {z:Str} (nd:ns.Nodup) (st:StOk ns.length z):DFn (bG [] (cJ ns z)) ns (sgn ns z):=λn hn=>by
 have hi:ns.idxOf n<ns.length:=Xy hn;have e:ns[ns.idxOf n]?=some n:=by rw[Qb hi];exact congrArg some (List.getElem_idxOf hi)
 have hm:((Sum.inr n:Key),eQ z (ns.idxOf n))∈cJ ns z:=by
  unfold cJ;refine Qo.mpr ⟨(n,ns.idxOf n),?_,rfl⟩;rw[List.mem_zipIdx_iff_getElem?];exact e
 rw[eK (by rw[ng];exact rX nd) hm,lT st hi];rfl
def gO:Sp:=λvs H Q _=>∃a li lg ins gvs gs z,vs=[.ref a,.str z]/\NAt H a li lg ins gvs gs/\NetOk ins gs/\StOk (aj ins gs).length z /\
 ∀d H' kvs,aw H H'->H' d=some (.dK kvs)->DFn kvs (aj ins gs) (sgn (aj ins gs) z)->Q (.ref d) H'
section
theorem nA:FnScope ["net", "standing"] ["net", "standing"] (au (top 12)):=by walk_at "k"
theorem pE {f:Addr} {fd:FuncData} (Fu:Fun K "signs_in" "signs_in" (top 12) f fd) (T:Txt K mg TT) (f_wires_of:Fn P w K mg base "wires_of" ["net"] 2 fj):FnOk P w K mg base CX0 3 f fd ["net", "standing"] gO:=by
 have S:=nA;refine Fu.ok S (by walk_at "l") (λcdv A outer s H vs Q E hr h=>?_);obtain⟨a,li,lg,ins,gvs,gs,z,rfl,NA,ok,st,k⟩:=h;refine⟨_,(aI (aB (vF rfl (by rfl) T.n_dict (by rfl) T.n_zip (ad (aF f_wires_of hr (ad (pv 0) af)) (ad (pv 1) af))))),?_⟩;walk_at "e"
 have wl:(aj ins gs).length<1000:=by
  have i4:=ok.i4;have g7:=ok.g7;unfold aj;rw[Qj,Qc];omega
 walk_at "w";show cE _ _ _ _ _;walk_at "w";refine⟨a,li,lg,ins,gvs,gs,rfl,NA,ok,λl H1 S1 hl h1=>?_⟩;walk_at "w";refine⟨l,aj ins gs,z,rfl,SqL.of h1,by rw[st.len];omega,wl,λd hd=>?_⟩;exact k d _ _ (S1.trans (ap hd)) ag (v7 ok.nd st)
end
end K2
namespace K2
open PySem L2
local macro_rules | `(tactic| walk_at "vc") => `(tactic| first
 | ((refine' (?zz : (?zA → ?zG) → ?zA → ?zG) ?zr ?_); (case zr => with_reducible exact s_seqT); (case zz => exact fun _ q => q); intro D') | ((refine' (?zz : (?zA → ?zG) → ?zA → ?zG) ?zr ?_); (case zr => with_reducible first | exact s_asgQ | exact s_drop | exact s_ret | exact s_if | exact s_sub | exact s_next | exact i_cQ | exact i_opQ | exact i_test | exact i_tB | exact i_and | exact i_or | exact i_not | exact i_andV | exact i_orV | exact i_notV | exact i_ifE | exact i_nilQ | exact i_consQ | exact i_cb | exact i_tup | exact i_lst | exact i_bm | exact i_sl | exact i_nopart | exact i_part | exact s_for | exact s_rng1 | exact s_list | exact s_str | exact i_dget | exact i_yes | exact i_un); (case zz => exact fun _ q => q))   | (with_reducible refine s_nameQ ?_)
 | ((with_reducible refine' i_varQ ?hv ?_); (case hv => exact rfl))   | (with_reducible first | refine i_rI0 ?_ | refine i_callQ ?_ | refine s_strI ?_ | refine iteF ?_ | refine iteTQ ?_ | refine i_rU ?_)
 | ((with_reducible show ∃ i, V.int _ = V.int i ∧ _); (refine ⟨_, rfl, ?_⟩)) | ((with_reducible show ∃ k, V.bl _ = V.bl k ∧ _); (refine ⟨_, rfl, ?_⟩)) | ((with_reducible show (∃ i, [V.bl _] = [V.int i] ∧ _) ∨ _); (refine Or.inr ⟨_, rfl, ?_⟩))
 | ((with_reducible refine' i_ixL ?ha ?hb ?_); (case ha => exact SqLofQ (by assumption)); (case hb => exact rfl)) | ((with_reducible refine' i_ixTQ ?ha ?hb ?_); (case ha => assumption); (case hb => exact rfl))
 | ((with_reducible show ∃ p _, [V.ref _] = [V.ref p] ∧ (SqL _ _ _ _ ∨ SqT _ _ _ _) ∧ _); (refine' ⟨_, _, rfl, Or.inl (SqLofQ ?ha), ?_⟩); (case ha => assumption)) | ((with_reducible refine' s_setL ?ha ?hb ?_); (case ha => assumption); (case hb => exact rfl))
 | ((with_reducible refine' i_eq ?ha ?_); (case ha => exact rfl)) | ((with_reducible refine' i_ne ?ha ?_); (case ha => exact rfl))
 | ((with_reducible show ∃ z, V.str _ = V.str z ∧ _); (refine ⟨_, rfl, ?_⟩))
 | ((with_reducible refine' i_rI ?hv ?_); (case hv => first | decide | (dsimp only; omega) | exact .inl ⟨by omega, by omega⟩ | exact .inr ⟨by omega, by omega⟩ | exact ⟨by decide, by decide⟩ | exact ⟨by decide, by decide, by decide⟩ | exact ⟨by omega, by omega⟩))
 | ((with_reducible show ∃ i, [V.int _] = [V.int i] ∧ _); (refine ⟨_, rfl, ?_⟩))
 | ((with_reducible show tyV _ "list" _ _ ∧ _); (refine' ⟨i_tyL ?ha, ?_⟩); (case ha => assumption)))
local macro_rules | `(tactic| walk_at "p") => `(tactic| repeat' (with_reducible first | (refine' pss_oneQ ?_; rotate_left 1) | (refine' pss_cons ?_ ?_; rotate_left 2) | exact pss_nil | (refine' ps_if ?_ ?_ ?_; rotate_left 3)))
local macro_rules | `(tactic| walk_at "b") => `(tactic| (refine' pss_cons ?_ ?_; rotate_left 2; walk_at "p"))
local macro_rules | `(tactic| walk_at "f") => `(tactic| (refine' ps_for XN rfl ?_ ?_ ?_ (fun _ => rfl); rotate_left 3))
local macro_rules | `(tactic| walk_at "q") => `(tactic| repeat' (with_reducible first | exact pe_strQ | exact pe_intQ | exact pa_nilQ | (refine' pe_tupQ ?_; rotate_left 1) | (refine' pe_lst ?_; rotate_left 1) | (refine' pa_consQ ?_ ?_ se_conQ; rotate_left 2) | (refine' pa_consQ ?_ ?_ se_tup; rotate_left 2) | (refine' pa_consQ ?_ ?_ se_nameQ; rotate_left 2) | (refine' pa_consQ ?_ ?_ se_sub; rotate_left 2) | (refine' pa_consQ ?_ ?_ se_bin; rotate_left 2) | (refine' pa_consQ ?_ ?_ se_lst; rotate_left 2) | (refine' pa_consQ ?_ ?_ se_callQ; rotate_left 2) | (refine' pa_consQ ?_ ?_ se_lc; rotate_left 2)))
local macro_rules | `(tactic| walk_at "l") => `(tactic| (intro vs H Q E h; repeat (first | (obtain ⟨e, _⟩ := h; subst e; rfl) | (obtain ⟨_, h⟩ := h))))
local macro_rules | `(tactic| walk_at "e") => `(tactic| ((try dsimp only [cxOf, Cx.nox, Cx.wish]); (conv in (L2.start _ _) => simp only [L2.start, QC, List.map_nil, Q0, Xq, List.replicate_succ, List.replicate_zero, List.cons_append, List.nil_append, Nat.reduceAdd, Nat.reduceSub]); have big : 100000 < sizeLine := by decide))
local macro_rules | `(tactic| walk_at "s") => `(tactic| (with_reducible first | refine s_seq ?_ | refine s_if ?_ | refine s_next ?_ | refine i_or ?_ | refine s_nameQ ?_ | refine s_ret ?_))
local macro_rules|`(tactic|walk_at "w")=>`(tactic|repeat walk_at "vc")
local macro_rules|`(tactic|walk_at "k")=>`(tactic|exact⟨rfl,rfl,rfl,by decide +kernel,rfl,by decide +kernel,by decide +kernel⟩)
local macro_rules|`(tactic|walk_at "d")=>`(tactic|try dsimp only[cxOf,Cx.nox,Cx.wish])
def dG (z:Str) (i:Nat):Str:=if (z.cps.getD i 0==49)=true then "0" else "1"
def bW (z:Str) (i:Nat):Str:=(Txt.slice z none (some (i:Int))++dG z i)++Txt.slice z (some ((i:Int)+1)) none
def iV:Sp:=λvs H Q _=>∃(z:Str) (n i:Nat),vs=[.str z,.int (i:Int)]/\StOk n z/\i<n/\n<=11/\Q (.str (bW z i)) H
section
variable {P:Program} {w:World} {K:PySem.W.Frag} {mg:Str->Option Value} {base:Heap} {TT:Addr}
theorem qW {n:Nat} {z:Str} (st:StOk n z) {i:Nat} (hi:i<n):atI z.cps.toList ((i:Nat):Int)=some (z.cps.getD i 0):=by
 have hl:=st.len;refine dj ?_;simp[Array.getD,hl,hi]
theorem lU:FnScope ["standing", "place"] ["standing", "place"] (au (top 13)):=by walk_at "k"
theorem rP {f:Addr} {fd:FuncData} (Fu:Fun K "turned_at" "turned_at" (top 13) f fd) (T:Txt K mg TT):FnOk P w K mg base CX0 1 f fd ["standing", "place"] iV:=by
 have S:=lU;refine Fu.ok S (by walk_at "l") (λcdv A outer s H vs Q E hr h=>?_);obtain⟨z,n,i,rfl,st,hi,hn,k⟩:=h;refine⟨_,(aI (aB (a8 fU (a8 fU (eU o_ (pv 0) gu (gt (pv 1))) (aD (vV T.tab) (qz (v:=.ref TT) (by rfl) T.tURNED rfl) (aD jG (pv 0) (pv 1)))) (eU o_ (pv 0) (gt (a8 cu (pv 1) ak)) gu)))),?_⟩;walk_at "e";have hz:z.length=n:=st.len;have big:1000<sizeLine:=by decide
 walk_at "w";have s1:=Txt.slice_le z none (some (i:Int));have s2:=Txt.slice_le z (some ((i:Int)+1)) none
 have fl:(dG z i).length=1:=by
  unfold dG
  split
  ·decide +kernel
  decide +kernel
 refine uK (by omega) ?_;refine a_ (i_c ?_);refine a_ (ah rfl (ah rfl (qN (by omega) (qW st hi) ?_)));have e:=lT st hi;unfold eQ at e;rw[e]
 have step:∀(b:Bool) (G:VK),G (.str (if b=true then "0" else "1")) H->qt TT (.ref TT) (sg b) H G:=λb G g=>by
  cases b
  ·exact⟨rfl,.inl ⟨rfl,g⟩⟩
  exact⟨rfl,.inr ⟨rfl,g⟩⟩
 refine step _ _ ?_;show ∃i_1 j,V.str _=V.str i_1/\V.str (dG z i)=V.str j/\_;have l1:(Txt.slice z none (some (i:Int))++dG z i).length=(Txt.slice z none (some (i:Int))).length+(dG z i).length:=XE;refine⟨_,_,rfl,rfl,by omega,?_⟩;walk_at "w";refine uK (by omega) ?_;exact⟨_,_,rfl,rfl,by rw[l1];omega,k⟩
end
theorem jJ {xs:Array Nat}:∀(j a:Nat),a+j<=xs.size->((List.range j).map λk=>a+k).filterMap (xs[·]?)=(xs.toList.drop a).take j
 | 0,a,_=>by simp
 | j+1,a,h=>by
  rw[List.range_succ,Qw,List.filterMap_append,jJ j a (by omega),QO];have e:(xs.toList.drop a)[j]?=xs[a+j]?:=by rw[XT];simp
  rw[e];have q:xs[a+j]?=some (xs[a+j]'(by omega)):=by rw[QF]
  simp[q]
theorem i7 {z:Str} {a b:Nat} {lo hi:Option Int} (hl:PySem.Builtin.Str.strSliceIndices lo hi 1 z.length=(List.range (b-a)).map λk=>a+k) (hb:b<=z.cps.size) (hab:a<=b):(Txt.slice z lo hi).cps.toList=(z.cps.toList.drop a).take (b-a):=by
 unfold Txt.slice;rw[hl]
 split
 ·rename_i h
  have h:b-a=z.length:=by simpa using h
  have h':z.length=z.cps.size:=rfl;have a0:a=0:=by omega
  subst a0;rw[List.drop_zero,Qs (by rw[Qu];omega)]
 exact jJ (b-a) a (by omega)
theorem i6 {z:Str} {j:Nat} (h:j<=z.cps.size):(Txt.slice z none (some (j:Int))).cps.toList=z.cps.toList.take j:=by
 have h':z.length=z.cps.size:=rfl;refine(i7 (a:=0) (b:=j) ?_ h (QM _)).trans (by simp);unfold PySem.Builtin.Str.strSliceIndices sliceRange
 have e:max 0 (min (if (j:Int)<0 then (j:Int)+z.length else (j:Int)) (z.length:Int))=(j:Int):=by
  rw[QA (Int.not_lt.mpr (Int.natCast_nonneg _)),Int.min_eq_left (show _<=(z.length:Int) from Int.ofNat_le.mpr h),Int.max_eq_right (Int.natCast_nonneg _)]
 simp only[show (1:Int)>0 from by decide,if_true,e]
 have c:(if (0:Int)<(j:Int) then ((j:Int)-0+1-1) / 1 else 0).toNat=j-0:=by
  rw[Int.ediv_one,Int.add_sub_cancel,Int.sub_zero,Nat.sub_zero]
  split
  ·rfl
  omega
 rw[c];refine List.map_congr_left λk _=>?_;omega
theorem i8 {z:Str} {a:Nat} (h:a<=z.cps.size):(Txt.slice z (some (a:Int)) none).cps.toList=z.cps.toList.drop a:=by
 have h':z.length=z.cps.size:=rfl;refine(i7 (a:=a) (b:=z.cps.size) ?_ (Qh _) h).trans (by rw[Qs (by rw[Xc,Qu];omega)]);unfold PySem.Builtin.Str.strSliceIndices sliceRange
 have e:max 0 (min (if (a:Int)<0 then (a:Int)+z.length else (a:Int)) (z.length:Int))=(a:Int):=by
  rw[QA (Int.not_lt.mpr (Int.natCast_nonneg _)),Int.min_eq_left (show _<=(z.length:Int) from Int.ofNat_le.mpr h),Int.max_eq_right (Int.natCast_nonneg _)]
 simp only[show (1:Int)>0 from by decide,if_true,e]
 have c:(if (a:Int)<(z.length:Int) then ((z.length:Int)-(a:Int)+1-1) / 1 else 0).toNat=z.cps.size-a:=by
  rw[Int.ediv_one,Int.add_sub_cancel,h']
  split
  ·rw[<-Int.ofNat_sub h];rfl
  omega
 rw[c];refine List.map_congr_left λk _=>?_;omega
variable {i n:Nat}
theorem fh {z:Str} (st:StOk n z) (hi:i<n):StOk n (bW z i):=by
 have hl:=st.len;have a:=i6 (z:=z) (j:=i) (by omega);have b:=i8 (z:=z) (a:=i+1) (by omega);rw[show ((i+1:Nat):Int)=(i:Int)+1 from by omega]at b
 have f:(dG z i).cps.toList=[48]\/(dG z i).cps.toList=[49]:=by
  unfold dG
  split
  ·exact .inl (by decide +kernel)
  exact .inr (by decide +kernel)
 have e:(bW z i).cps.toList=(z.cps.toList.take i++(dG z i).cps.toList)++z.cps.toList.drop (i+1):=by
  unfold bW;show ((_++_)++_:Array Nat).toList=_;rw[QG,QG,a,b]
 refine⟨?_,λc hc=>?_⟩
 ·rw[<-Qu,e,Qj,Qj,Qv,Xc,Qu];have:(dG z i).cps.toList.length=1:=by rcases f with f|f <;> rw[f] <;> rfl
  omega
 rw[e]at hc;rcases QH.mp hc with h|h
 ·rcases QH.mp h with h|h
  ·exact st.signs c (List.mem_of_mem_take h)
  rcases f with f|f
  ·rw[f]at h;exact .inl (by simpa using h)
  rw[f]at h;exact .inr (by simpa using h)
 exact st.signs c (List.mem_of_mem_drop h)
theorem turn_list {z:Str} (st:StOk n z) (hi:i<n):(bW z i).cps.toList=z.cps.toList.take i++(if (z.cps.getD i 0==49)=true then 48 else 49)::z.cps.toList.drop (i+1):=by
 have hl:=st.len;have a:=i6 (z:=z) (j:=i) (by omega);have b:=i8 (z:=z) (a:=i+1) (by omega);rw[show ((i+1:Nat):Int)=(i:Int)+1 from by omega]at b
 have f:(dG z i).cps.toList=[if (z.cps.getD i 0==49)=true then 48 else 49]:=by
  unfold dG
  split
  ·decide +kernel
  decide +kernel
 unfold bW;show ((_++_)++_:Array Nat).toList=_;rw[QG,QG,a,b,f];simp
end K2
namespace K2
open PySem L2
local macro_rules | `(tactic| walk_at "vc") => `(tactic| first
 | ((refine' (?zz : (?zA → ?zG) → ?zA → ?zG) ?zr ?_); (case zr => with_reducible exact s_seqT); (case zz => exact fun _ q => q); intro D') | ((refine' (?zz : (?zA → ?zG) → ?zA → ?zG) ?zr ?_); (case zr => with_reducible first | exact s_asgQ | exact s_drop | exact s_ret | exact s_if | exact s_sub | exact s_next | exact i_cQ | exact i_opQ | exact i_test | exact i_tB | exact i_and | exact i_or | exact i_not | exact i_andV | exact i_orV | exact i_notV | exact i_ifE | exact i_nilQ | exact i_consQ | exact i_cb | exact i_tup | exact i_lst | exact i_bm | exact i_sl | exact i_nopart | exact i_part | exact s_for | exact s_rng1 | exact s_list | exact s_str | exact i_comp | exact i_dget | exact i_yes); (case zz => exact fun _ q => q))   | (with_reducible refine s_nameQ ?_)
 | ((with_reducible refine' i_varQ ?hv ?_); (case hv => exact rfl))   | (with_reducible first | refine i_rI0 ?_ | refine i_callQ ?_ | refine s_strI ?_ | refine iteF ?_ | refine iteTQ ?_)
 | ((with_reducible show ∃ i, V.int _ = V.int i ∧ _); (refine ⟨_, rfl, ?_⟩)) | ((with_reducible show ∃ k, V.bl _ = V.bl k ∧ _); (refine ⟨_, rfl, ?_⟩)) | ((with_reducible show (∃ i, [V.bl _] = [V.int i] ∧ _) ∨ _); (refine Or.inr ⟨_, rfl, ?_⟩))
 | ((with_reducible refine' i_ixL ?ha ?hb ?_); (case ha => exact SqLofQ (by assumption)); (case hb => exact rfl)) | ((with_reducible refine' i_ixTQ ?ha ?hb ?_); (case ha => assumption); (case hb => exact rfl))
 | ((with_reducible show ∃ p _, [V.ref _] = [V.ref p] ∧ (SqL _ _ _ _ ∨ SqT _ _ _ _) ∧ _); (refine' ⟨_, _, rfl, Or.inl (SqLofQ ?ha), ?_⟩); (case ha => assumption)) | ((with_reducible refine' s_setL ?ha ?hb ?_); (case ha => assumption); (case hb => exact rfl))
 | ((with_reducible refine' i_eq ?ha ?_); (case ha => exact rfl)) | ((with_reducible refine' i_ne ?ha ?_); (case ha => exact rfl))
 | ((with_reducible show ∃ z, V.str _ = V.str z ∧ _); (refine ⟨_, rfl, ?_⟩)))
local macro_rules | `(tactic| walk_at "p") => `(tactic| repeat' (with_reducible first | (refine' pss_oneQ ?_; rotate_left 1) | (refine' pss_cons ?_ ?_; rotate_left 2) | exact pss_nil | (refine' ps_if ?_ ?_ ?_; rotate_left 3)))
local macro_rules | `(tactic| walk_at "b") => `(tactic| (refine' pss_cons ?_ ?_; rotate_left 2; walk_at "p"))
local macro_rules | `(tactic| walk_at "f") => `(tactic| (refine' ps_for XN rfl ?_ ?_ ?_ (fun _ => rfl); rotate_left 3))
local macro_rules | `(tactic| walk_at "q") => `(tactic| repeat' (with_reducible first | exact pe_strQ | exact pe_intQ | exact pa_nilQ | (refine' pe_tupQ ?_; rotate_left 1) | (refine' pe_lst ?_; rotate_left 1) | (refine' pa_consQ ?_ ?_ se_conQ; rotate_left 2) | (refine' pa_consQ ?_ ?_ se_tup; rotate_left 2) | (refine' pa_consQ ?_ ?_ se_nameQ; rotate_left 2) | (refine' pa_consQ ?_ ?_ se_sub; rotate_left 2) | (refine' pa_consQ ?_ ?_ se_bin; rotate_left 2) | (refine' pa_consQ ?_ ?_ se_lst; rotate_left 2) | (refine' pa_consQ ?_ ?_ se_callQ; rotate_left 2) | (refine' pa_consQ ?_ ?_ se_lc; rotate_left 2)))
local macro_rules | `(tactic| walk_at "l") => `(tactic| (intro vs H Q E h; repeat (first | (obtain ⟨e, _⟩ := h; subst e; rfl) | (obtain ⟨_, h⟩ := h))))
local macro_rules | `(tactic| walk_at "e") => `(tactic| ((try dsimp only [cxOf, Cx.nox, Cx.wish]); (conv in (L2.start _ _) => simp only [L2.start, QC, List.map_nil, Q0, Xq, List.replicate_succ, List.replicate_zero, List.cons_append, List.nil_append, Nat.reduceAdd, Nat.reduceSub]); have big : 100000 < sizeLine := by decide))
local macro_rules | `(tactic| walk_at "s") => `(tactic| (with_reducible first | refine s_seq ?_ | refine s_if ?_ | refine s_next ?_ | refine i_or ?_ | refine s_nameQ ?_ | refine s_ret ?_))
local macro_rules|`(tactic|walk_at "w")=>`(tactic|repeat walk_at "vc")
local macro_rules|`(tactic|walk_at "k")=>`(tactic|exact⟨rfl,rfl,rfl,by decide +kernel,rfl,by decide +kernel,by decide +kernel⟩)
local macro_rules|`(tactic|walk_at "d")=>`(tactic|try dsimp only[cxOf,Cx.nox,Cx.wish])
def cs (f:Str->Bool) (z:Str) (p:(Str × Rl) × Nat):Option (Str × Str):=if (p.1.2.val f==(z.cps.getD p.2 0==49))=true then none else some (p.1.1,bW z p.2)
def az (ins:List Str) (gs:List (Str × Rl)) (z:Str):List (Str × Str):=(gs.zipIdx ins.length).filterMap (cs (sgn (aj ins gs) z) z)
def oR (H:Hp) (v:V) (p:Str × Str):Prop:=∃b,v=.ref b/\H b=some (.tup [.str p.1,.str p.2])
theorem oR.mono {H H':Hp} (hs:cr H H') {v:V} {p:Str × Str} (h:oR H v p):oR H' v p:=let ⟨b,e,q⟩:=h;⟨b,e,hs _ _ q⟩
theorem cY {H H':Hp} (hs:cr H H'):∀{vs:List V} {ps:List (Str × Str)},Paired (oR H) vs ps->Paired (oR H') vs ps
 | _,_,.nil=>.nil
 | _,_,.cons h t=>.cons (h.mono hs) (cY hs t)
theorem cf {α β:Type} {F:α->β->Prop}:∀{xs:List α} {ys:List β} {x:α} {y:β},Paired F xs ys->F x y->Paired F (xs++[x]) (ys++[y])
 | _,_,_,_,.nil,h=>.cons h .nil
 | _,_,_,_,.cons a t,h=>.cons a (cf t h)
def fk:Sp:=λvs H Q _=>∃a li lg ins gvs gs z,vs=[.ref a,.str z]/\NAt H a li lg ins gvs gs/\NetOk ins gs/\StOk (aj ins gs).length z /\
 ∀l vs' H',aw H H'->H l=none->H' l=some (.lst vs')->Paired (oR H') vs' (az ins gs z)->Q (.ref l) H'
theorem yV (a b:Bool):decide (sg a=sg b)=(a==b):=by
 cases a <;> cases b <;> decide +kernel
section
variable {P:Program} {w:World} {K:PySem.W.Frag} {mg:Str->Option Value} {base:Heap} {TT:Addr}
theorem j7:FnScope ["net", "standing", "signs", "steps", "place", "gate"] ["net", "standing"] (au (top 14)):=by walk_at "k"
theorem uo {f:Addr} {fd:FuncData} (Fu:Fun K "steps_from" "steps_from" (top 14) f fd) (T:Txt K mg TT) (f_signs_in:Fn P w K mg base "signs_in" ["net", "standing"] 3 gO) (f_rule_worth:Fn P w K mg base "rule_worth" ["rule", "signs"] 11 (lG 10)) (f_turned_at:Fn P w K mg base "turned_at" ["standing", "place"] 1 iV) :
  FnOk P w K mg base CX0 12 f fd ["net", "standing"] fk:=by
 have S:=j7;refine Fu.ok S (by walk_at "l") (λcdv A outer s H vs Q E hr h=>?_);obtain⟨a,li,lg,ins,gvs,gs,z,rfl,NA,ok,st,k⟩:=h
 refine⟨_,(pss_cons (aO 2 S.nd (aF f_signs_in hr (ad (pv 0) (ad (pv 1) af))))
  (pss_cons (aO 3 S.nd (pe_lst af))
  (pss_cons (ps_for XN rfl (tV (by rfl) T.n_enumerate (ad (aD aH (pv 0) ak) af) (vC (aK aN (by rfl) T.n_len Q7 (ad (aD aH (pv 0) ak) af)) xO)) (jh rfl (bz (cK 4 S.nd) (bz (cK 5 S.nd) dU)))
  (aI (ps_if (aL ii (aF f_rule_worth hr (ad (aD aH (pv 5) ak) (ad (pv 2) af))) (aD jG (pv 1) (pv 4)) (aZ _)) (aI (cO (eV Xs PySem.F.slot_list_append PySem.F.type_list_append cw (pv 3) (ad (be (ad (aD aH (pv 5) ak) (ad (aF f_turned_at hr (ad (pv 1) (ad (pv 4) af))) af))) af)))) pss_nil)))
  (aI (aB (pv 3)))))),?_⟩
 walk_at "e";have i4:=ok.i4;have g7:=ok.g7;have lgn:=aQ NA.gates;have wl:(aj ins gs).length=ins.length+gs.length:=by unfold aj;rw[Qj,Qc]
 have big:1000<sizeLine:=by decide
 walk_at "w";refine⟨a,li,lg,ins,gvs,gs,z,rfl,NA,ok,st,λd H1 kvs S1 hd df=>?_⟩;walk_at "w";refine⟨by simp[sizeLine],λl hl=>?_⟩;generalize hE:upd _ l _=H2;have S2:aw H1 H2:=by rw[<-hE];exact ap hl
 have q2:H2 l=some (.lst []):=by rw[<-hE];exact ag
 clear hE;have S12:=S1.trans S2;have hlH:H l=none:=aw.free S1 hl;have NA2:=NA.same S12;have hd2:=S2 _ _ hd;have dl:d≠l:=av hd hl;obtain⟨ha,hi,hg,gts⟩:=id NA2;walk_at "w";show cE _ _ _ _ _;walk_at "w";refine⟨lg,_,rfl,rfl,by rw[Qc];omega,⟨_,SqL.of hg⟩,?_⟩;have nlg:lg≠l:=av NA.hg hlH;let I2:IvF:=λi σ H'=>(∃x4 x5 vs',σ=[some (.ref a),some (.str z),some (.ref d),some (.ref l),x4,x5]/\H' l=some (.lst vs')/\vs'.length<=i/\Paired (oR H') vs' (((gs.zipIdx ins.length).take i).filterMap (cs (sgn (aj ins gs) z) z)))/\aw H H'/\H' d=some (.dK kvs)
 refine sD (xs:=gvs) I2
  ⟨⟨_,_,[],rfl,q2,by simp,by simp;exact .nil⟩,S12,hd2⟩ (λi σ H' _ pv=>SqL.of (pv.2.1 _ _ NA.hg)) (λi x σ H' t hx pv ht=>?_) (λσ H' pv=>?_)
 ·obtain⟨⟨x4,x5,vs',rfl,hl',hlen,hp⟩,SS,hd'⟩:=pv;have hig:i<gvs.length:=(Qe.mp hx).1;obtain⟨g,hgi,b,rv,rfl,hb,hrv⟩:=cV NA.gates i x hx;have S3:=ap (o:=.tup [.int (((ins.map V.str).length:Int)+(i:Nat)),.ref b]) ht;refine⟨t,_,rfl,SqT.of ag,rfl,?_⟩;refine⟨_,_,rfl,ax ⟨_,_,rfl,ax ?_⟩⟩;have hl3:=S3 _ _ hl';have hd3:=S3 _ _ hd';have SS3:=SS.trans S3;have hp3:=cY (aw.tups S3) hp;generalize upd H' t (.tup [.int (((ins.map V.str).length:Int)+(i:Nat)),.ref b])=H3 at *;have hb3:=SS3 _ _ hb;have hr3:=hrv.mono (aw.tups SS3);have gm:g∈gs:=Qg hgi;have ep:(((ins.map V.str).length:Int)+(i:Nat))=((ins.length+i:Nat):Int):=by rw[Qc];omega
  rw[ep];obtain⟨rok,rdep⟩:=ok.rules g gm;have hpl:ins.length+i<(aj ins gs).length:=by omega
  have hzi:(gs.zipIdx ins.length)[i]?=some (g,ins.length+i):=by rw[List.getElem?_zipIdx,hgi];rfl
  refine⟨rfl,?_⟩;walk_at "w";refine⟨rv,d,kvs,g.2,_,_,rfl,hr3,rdep,rok,hd3,df,?_⟩;generalize hv:g.2.val (sgn (aj ins gs) z)=bv;have e:=lT st hpl;unfold eQ at e;have zl:z.length=(aj ins gs).length:=st.len;walk_at "w";refine qN (by omega) (qW st hpl) ?_;rw[e];refine i_ne (by cases bv <;> cases (z.cps.getD (ins.length+i) 0==49) <;> rfl) ?_;rw[yV];refine⟨_,rfl,?_⟩
  have tk:((gs.zipIdx ins.length).take (i+1)).filterMap (cs (sgn (aj ins gs) z) z)=((gs.zipIdx ins.length).take i).filterMap (cs (sgn (aj ins gs) z) z)++(cs (sgn (aj ins gs) z) z (g,ins.length+i)).toList:=by
   rw[QO,hzi,List.filterMap_append];cases h:cs (sgn (aj ins gs) z) z (g,ins.length+i) <;> simp[h]
  have so:cs (sgn (aj ins gs) z) z (g,ins.length+i)=if (bv==(z.cps.getD (ins.length+i) 0==49))=true then none else some (g.1,bW z (ins.length+i)):=by
   unfold cs;rw[hv]
  cases hc:(bv==(z.cps.getD (ins.length+i) 0==49)) with
  | true =>
   refine iteF ?_;rw[hc]at so;refine⟨⟨_,_,vs',rfl,hl3,by omega,?_⟩,SS3,hd3⟩;rw[tk,so];simpa using hp3
  | false =>
  refine bV ?_;rw[hc]at so;walk_at "w";refine⟨i_tyL hl3,?_⟩;walk_at "w";refine⟨z,_,ins.length+i,rfl,st,hpl,by omega,?_⟩;walk_at "w";refine⟨by simp[sizeLine],λq hq=>?_⟩;generalize hE:upd _ q _=H4;have S4:aw H3 H4:=by rw[<-hE];exact ap hq
  have q4:H4 q=some (.tup [.str g.1,.str (bW z (ins.length+i))]):=by rw[<-hE];exact ag
  clear hE;have hl4:=S4 _ _ hl3;have hd4:=S4 _ _ hd3;have nql:q≠l:=λe=>by rw[e,hl3]at hq;cases hq
  walk_at "w";refine ou hl4 (by omega) ?_
  have kt:cr H4 (upd H4 l (.lst (vs'++[.ref q]))):=λb xs e=>by
   have:b≠l:=λx=>by rw[x,hl4]at e;cases e
   rw[aq this];exact e
  refine⟨⟨_,_,vs'++[.ref q],rfl,ag,by simp;omega,?_⟩,bp (SS3.trans S4) hlH,by rw[aq dl];exact hd4⟩;rw[tk,so];exact cf (cY kt (cY (aw.tups S4) hp3)) ⟨q,rfl,kt _ _ q4⟩
 obtain⟨⟨x4,x5,vs',rfl,hl',hlen,hp⟩,SS,hd'⟩:=pv;refine s_ret (te:=eN 3) (D:={ nx:=λx H'=>Q V.non H',rt:=Q }) (ah rfl ?_);refine k l vs' H' SS hlH hl' ?_;have e:(gs.zipIdx ins.length).length=gvs.length:=by rw[List.length_zipIdx,lgn]
 rw[<-e,List.take_length]at hp;exact hp
end
end K2
namespace K2
open PySem L2
local macro_rules | `(tactic| walk_at "vc") => `(tactic| first
 | ((refine' (?zz : (?zA → ?zG) → ?zA → ?zG) ?zr ?_); (case zr => with_reducible exact s_seqT); (case zz => exact fun _ q => q); intro D') | ((refine' (?zz : (?zA → ?zG) → ?zA → ?zG) ?zr ?_); (case zr => with_reducible first | exact s_asgQ | exact s_drop | exact s_ret | exact s_if | exact s_sub | exact s_next | exact i_cQ | exact i_opQ | exact i_test | exact i_tB | exact i_and | exact i_or | exact i_not | exact i_andV | exact i_orV | exact i_notV | exact i_ifE | exact i_nilQ | exact i_consQ | exact i_cb | exact i_tup | exact i_lst | exact i_bm | exact i_sl | exact i_nopart | exact i_part | exact s_for | exact s_rng1 | exact s_list | exact s_str | exact i_dget | exact i_yes | exact i_un); (case zz => exact fun _ q => q))   | (with_reducible refine s_nameQ ?_)
 | ((with_reducible refine' i_varQ ?hv ?_); (case hv => exact rfl))   | (with_reducible first | refine i_rI0 ?_ | refine i_callQ ?_ | refine s_strI ?_ | refine iteF ?_ | refine iteTQ ?_ | refine i_rU ?_)
 | ((with_reducible show ∃ i, V.int _ = V.int i ∧ _); (refine ⟨_, rfl, ?_⟩)) | ((with_reducible show ∃ k, V.bl _ = V.bl k ∧ _); (refine ⟨_, rfl, ?_⟩)) | ((with_reducible show (∃ i, [V.bl _] = [V.int i] ∧ _) ∨ _); (refine Or.inr ⟨_, rfl, ?_⟩))
 | ((with_reducible refine' i_ixL ?ha ?hb ?_); (case ha => exact SqLofQ (by assumption)); (case hb => exact rfl)) | ((with_reducible refine' i_ixTQ ?ha ?hb ?_); (case ha => assumption); (case hb => exact rfl))
 | ((with_reducible show ∃ p _, [V.ref _] = [V.ref p] ∧ (SqL _ _ _ _ ∨ SqT _ _ _ _) ∧ _); (refine' ⟨_, _, rfl, Or.inl (SqLofQ ?ha), ?_⟩); (case ha => assumption)) | ((with_reducible refine' s_setL ?ha ?hb ?_); (case ha => assumption); (case hb => exact rfl))
 | ((with_reducible refine' i_eq ?ha ?_); (case ha => exact rfl)) | ((with_reducible refine' i_ne ?ha ?_); (case ha => exact rfl))
 | ((with_reducible show ∃ z, V.str _ = V.str z ∧ _); (refine ⟨_, rfl, ?_⟩))
 | ((with_reducible refine' i_rI ?hv ?_); (case hv => first | decide | (dsimp only; omega) | exact .inl ⟨by omega, by omega⟩ | exact .inr ⟨by omega, by omega⟩ | exact ⟨by decide, by decide⟩ | exact ⟨by decide, by decide, by decide⟩ | exact ⟨by omega, by omega⟩))
 | ((with_reducible show ∃ i, [V.int _] = [V.int i] ∧ _); (refine ⟨_, rfl, ?_⟩))
 | ((with_reducible show tyV _ "list" _ _ ∧ _); (refine' ⟨i_tyL ?ha, ?_⟩); (case ha => assumption)))
local macro_rules | `(tactic| walk_at "p") => `(tactic| repeat' (with_reducible first | (refine' pss_oneQ ?_; rotate_left 1) | (refine' pss_cons ?_ ?_; rotate_left 2) | exact pss_nil | (refine' ps_if ?_ ?_ ?_; rotate_left 3)))
local macro_rules | `(tactic| walk_at "b") => `(tactic| (refine' pss_cons ?_ ?_; rotate_left 2; walk_at "p"))
local macro_rules | `(tactic| walk_at "f") => `(tactic| (refine' ps_for XN rfl ?_ ?_ ?_ (fun _ => rfl); rotate_left 3))
local macro_rules | `(tactic| walk_at "q") => `(tactic| repeat' (with_reducible first | exact pe_strQ | exact pe_intQ | exact pa_nilQ | (refine' pe_tupQ ?_; rotate_left 1) | (refine' pe_lst ?_; rotate_left 1) | (refine' pa_consQ ?_ ?_ se_conQ; rotate_left 2) | (refine' pa_consQ ?_ ?_ se_tup; rotate_left 2) | (refine' pa_consQ ?_ ?_ se_nameQ; rotate_left 2) | (refine' pa_consQ ?_ ?_ se_sub; rotate_left 2) | (refine' pa_consQ ?_ ?_ se_bin; rotate_left 2) | (refine' pa_consQ ?_ ?_ se_lst; rotate_left 2) | (refine' pa_consQ ?_ ?_ se_callQ; rotate_left 2) | (refine' pa_consQ ?_ ?_ se_lc; rotate_left 2)))
local macro_rules | `(tactic| walk_at "l") => `(tactic| (intro vs H Q E h; repeat (first | (obtain ⟨e, _⟩ := h; subst e; rfl) | (obtain ⟨_, h⟩ := h))))
local macro_rules | `(tactic| walk_at "e") => `(tactic| ((try dsimp only [cxOf, Cx.nox, Cx.wish]); (conv in (L2.start _ _) => simp only [L2.start, QC, List.map_nil, Q0, Xq, List.replicate_succ, List.replicate_zero, List.cons_append, List.nil_append, Nat.reduceAdd, Nat.reduceSub]); have big : 100000 < sizeLine := by decide))
local macro_rules | `(tactic| walk_at "s") => `(tactic| (with_reducible first | refine s_seq ?_ | refine s_if ?_ | refine s_next ?_ | refine i_or ?_ | refine s_nameQ ?_ | refine s_ret ?_))
local macro_rules|`(tactic|walk_at "w")=>`(tactic|repeat walk_at "vc")
local macro_rules|`(tactic|walk_at "k")=>`(tactic|exact⟨rfl,rfl,rfl,by decide +kernel,rfl,by decide +kernel,by decide +kernel⟩)
local macro_rules|`(tactic|walk_at "d")=>`(tactic|try dsimp only[cxOf,Cx.nox,Cx.wish])
def a9 (H:Hp) (a:Addr) (sts:List (V × Key)):Prop:=∃vs,H a=some (.lst vs)/\Paired (λv (s:V × Key)=>∃b,v=.ref b/\H b=some (.tup [s.1,kV s.2])) vs sts
variable {a f c T b F:Addr} {H H' H1 H2:Hp}
theorem a9.same {sts:List (V × Key)} (S:aw H H') (h:a9 H a sts):a9 H' a sts:=by
 obtain⟨vs,h1,h2⟩:=h;exact⟨vs,S _ _ h1,bd (λv s ⟨b,e,q⟩=>⟨b,e,S _ _ q⟩) h2⟩
def wm (F W N:Addr) (H H':Hp):Prop:=∀b o,H b=some o->b≠F->b≠W->b≠N->H' b=some o
def fdK (xs:List Key) (as:List Addr):List (Key × V):=(xs.zip as).map λp=>(p.1,V.ref p.2)
def knK (xs:List Key):List (Key × V):=xs.map λx=>(x,V.bl true)
variable {as ls:List Addr}
theorem mL {xs:List Key} (h:as.length<=xs.length):(fdK xs as).length=as.length:=by
 unfold fdK;rw[Qc,List.length_zip];omega
theorem gG (xs:List Key) (as:List Addr):(fdK xs as).map (·.1)=xs.take as.length:=by
 unfold fdK;rw[QW];show (xs.zip as).map (λp=>p.1)=_
 induction xs generalizing as with
 | nil=>simp
 | cons x xs ih =>
 cases as with
 | nil=>simp
 | cons a as=>simp[ih]
theorem uS {xs:List Key} {x:Key} (h:xs[as.length]?=some x):fdK xs (as++[a])=fdK xs as++[(x,V.ref a)]:=by
 unfold fdK
 induction xs generalizing as with
 | nil=>simp at h
 | cons y xs ih =>
 cases as with
 | nil=>simp at h;subst h;simp
 | cons b as=>simp at h;simp[ih h]
theorem uU {xs ys:List Key} (h:as.length<=xs.length) (p:xs <+: ys):fdK ys as=fdK xs as:=by
 obtain⟨t,rfl⟩:=p;unfold fdK
 induction xs generalizing as with
 | nil =>
  have:as=[]:=by simpa using h
  subst this;simp
 | cons y xs ih =>
 cases as with
 | nil=>simp
 | cons b as=>simp at h;simpa using ih h
variable {kvs:List (Key × V)}
theorem fg {k:Key}:bn kvs k=none↔k∉kvs.map (·.1):=by
 refine⟨sW,λh=>?_⟩
 cases e:bn kvs k with
 | none=>rfl
 | some v=>exact absurd (vh e) h
theorem qM {xs:List Key} {k:Key}:bn (knK xs) k=none↔k∉xs:=by
 rw[fg];unfold knK;rw[QW];show k∉xs.map (λx=>x)↔_;rw[List.map_id']
def nxK (steps:Key->List (V × Key)) (x:Key):List Key:=(steps x).map (·.2)
def lO (P:Program) (w:World) (K:PySem.W.Frag) (mg:Str->Option Value) (base:Heap) (k:Nat):Sp:=λvs H Q _=>∃(start:Key) (f:Addr) (l:Lm) (cl:List (Str × Addr)) (c:Addr) (r:V->Hp->VK->Prop) (steps:Key->List (V × Key)) (B:Nat),
 vs=[kV start,.ref f]/\H f=some (hZ f l cl c)/\Calls P w K mg base k f r/\B<=100000 /\
 (∀x H1 (Q1:VK),Bf.Reach (nxK steps) start x->aw H H1->(∀a H2,aw H1 H2->a9 H2 a (steps x)->Q1 (.ref a) H2)->r (kV x) H1 Q1) /\
 (∀xs:List Key,xs.Nodup->(∀x∈xs,Bf.Reach (nxK steps) start x)->xs.length<=B) /\
 ∀(F:Addr) (as:List Addr) (n:Nat) (H':Hp),aw H H'->H F=none->(Bf.bfs (nxK steps) start n).length=n->as.length=n->H' F=some (.dK (fdK (Bf.bfs (nxK steps) start n) as)) ->
  (∀(i:Nat) x a,(Bf.bfs (nxK steps) start n)[i]?=some x->as[i]?=some a->a9 H' a (steps x))->Q (.ref F) H'
variable {l:Lm} {Q:VK} {σ:St} {i n j I:Nat} {K:PySem.W.Frag}
theorem vZ {P:Program} {w:World} {mg:Str->Option Value} {base:Heap} {k:Nat} {te:TE} {cl:List (Str × Addr)} {r:V->Hp->VK->Prop} (hi:σ[i]?=some (some (.ref f))) (C:Calls P w K mg base k f r) (hf:H f=some (hZ f l cl c))
  (q:te σ H λv H1=>H1 f=some (hZ f l cl c)/\r v H1 Q):tf P w K mg base k i te σ H Q:=⟨f,l,cl,c,r,hi,C,hf,q⟩
variable {P:Program} {w:World} {K:PySem.W.Frag} {mg:Str->Option Value} {base:Heap} {TT:Addr}
section
theorem kb:FnScope ["start", "steps_of", "found", "waiting", "known", "at", "here", "steps", "step"] ["start", "steps_of"] (au (top 16)):=by walk_at "k"
theorem uw {kl:Nat} {f:Addr} {fd:FuncData} (Fu:Fun K "found_from" "found_from" (top 16) f fd) (T:Txt K mg TT):FnOk P w K mg base CX0 (kl+1) f fd ["start", "steps_of"] (lO P w K mg base kl):=by
 have S:=kb;refine Fu.ok S (by walk_at "l") (λcdv A outer s H vs Q E hr h=>?_);obtain⟨start,fl,l,cl,c,r,steps,B,rfl,hfl,hC,hB,hst,hfew,k⟩:=h;have hu:=eI hr;refine'⟨?_,?bb,?_⟩
 case bb =>
  walk_at "b";exact aO 2 S.nd jj;exact aO 3 S.nd (pe_lst (ad (pv 0) af ae));exact aO 4 S.nd (vG (tR (pv 0) dF vB) rfl rfl (by simp) (by decide));exact aO 5 S.nd ak;refine' jf XN ?_ ?_;rotate_left 2;exact(aL kL (pv 5) (aK aN (by rfl) T.n_len Q7 (ad (pv 3) af ae)) (aZ _));walk_at "p";exact aO 6 S.nd (aD bo (pv 3) (pv 5));exact aO 7 S.nd (tY (k:=kl) (i:=1) (hr.mono (by omega)) wK (pv 1) (pv 6));exact(ma hu (pv 2) (pv 6) (pv 7) rfl);walk_at "f";exact(bq (pv 7));exact(cK 8 S.nd);walk_at "p";exact(xM (rL hu (aD aH (pv 8) ak) (pv 4)));exact(ma hu (pv 4) (aD aH (pv 8) ak) dF rfl);exact(cO (eV Xs PySem.F.slot_list_append PySem.F.type_list_append cw (pv 3) (ad (aD aH (pv 8) ak) af)));exact(xN (i:=5) S.nd rfl (by walk_at "z") ak yz);exact(aB (pv 2))
 walk_at "e";refine s_seq (bE ?_);intro F hF;refine ax ?_;generalize hE:upd H F _=H1;obtain⟨S1,q1⟩:=ay hF hE;clear hE;walk_at "w";refine⟨by simp[sizeLine],λW hW=>?_⟩;generalize hE:upd H1 W _=H2;obtain⟨S2,q2⟩:=ay hW hE;clear hE;walk_at "w";refine λN hN=>?_;refine⟨_,rfl,?_⟩;refine⟨ag,[(start,.bl true)],rfl,by simp,?_⟩;rw[vi];refine ax ?_;generalize hE:upd H2 N _=H3;obtain⟨S3,q3⟩:=ay hN hE;clear hE;walk_at "w";have S03:aw H H3:=S1.trans (S2.trans S3);have FW:F≠W:=av q1 hW;have FN:F≠N:=av (S2 _ _ q1) hN;have WN:W≠N:=av q2 hN
 have W0:H W=none:=by
  cases e:H W with
  | none=>rfl
  | some o=>rw[S1 _ _ e]at hW;cases hW
 have N0:H N=none:=by
  cases e:H N with
  | none=>rfl
  | some o=>rw[(S1.trans S2) _ _ e]at hN;cases hN
 have off:∀{Ha Hb:Hp},aw H Ha->wm F W N Ha Hb->aw H Hb:=λsa o b u e=>o b u (sa b u e) (av e hF) (av e W0) (av e N0);let nx:=nxK steps;let bf:=Bf.bfs nx start;have reach:∀n x,x∈bf n->Bf.Reach nx start x:=λn x h=>Bf.bw n x h;have fewB:∀n,(bf n).length<=B:=λn=>hfew _ (Bf.bx n) (reach n);let I3:IvF:=λm σ H'=>∃(n:Nat) (as:List Addr) (x6 x7 x8:Option V),σ=[some (kV start),some (.ref fl),some (.ref F),some (.ref W),some (.ref N),some (.int (n:Int)),x6,x7,x8]/\m=B+1-n/\n<=(bf n).length/\aw H H'/\H' F=some (.dK (fdK (bf n) as))/\as.length=n/\H' W=some (.lst ((bf n).map kV))/\H' N=some (.dK (knK (bf n)))/\∀(i:Nat) x a,(bf n)[i]?=some x->as[i]?=some a->a9 H' a (steps x)
 refine⟨I3,
  ⟨_,0,[],none,none,none,rfl,rfl,QM _,S03,S3 _ _ (S2 _ _ q1),rfl,S3 _ _ q2,q3,λi x a _ e=>nomatch e⟩,?_⟩
 rintro m σ H' ⟨n,as,x6,x7,x8,rfl,rfl,hn,SH,hF',las,hW',hN',hsts⟩;walk_at "w";rw[Qc];by_cases cn:n<(bf n).length
 case neg =>
  refine ifF (QI (by omega)) ?_;walk_at "w";have e:(bf n).length=n:=by omega
  exact k F as n H' SH hF e las hF' hsts
 refine ifT (QU (by omega)) ?_;let I4:IvJ:=λσ' H''=>∃(as:List Addr) (x6 x7 x8:Option V),σ'=[some (kV start),some (.ref fl),some (.ref F),some (.ref W),some (.ref N),some (.int ((n+1:Nat):Int)),x6,x7,x8]/\n+1<=(bf (n+1)).length/\aw H H''/\H'' F=some (.dK (fdK (bf (n+1)) as))/\as.length=n+1/\H'' W=some (.lst ((bf (n+1)).map kV))/\H'' N=some (.dK (knK (bf (n+1))))/\∀(i:Nat) x a,(bf (n+1))[i]?=some x->as[i]?=some a->a9 H'' a (steps x);refine⟨I4,λσ' H'' h=>?_,?_⟩
 ·obtain⟨as,x6,x7,x8,e1,e2,e3,e4,e5,e6,e7,e8⟩:=h;exact⟨B+1-(n+1),by have:=fewB n;omega,n+1,as,x6,x7,x8,e1,rfl,e2,e3,e4,e5,e6,e7,e8⟩
 obtain⟨x,hx⟩:∃x,(bf n)[n]?=some x:=⟨_,Qb cn⟩;have hbs:bf (n+1)=Bf.aV (bf n) (nx x):=Bf.cI hx;walk_at "w";refine i_ixL (v:=kV x) (SqL.of hW') (dj (by rw[Qi,hx];rfl)) ?_;walk_at "w";refine vZ rfl hC (SH _ _ hfl) (ah rfl ⟨SH _ _ hfl,hst x H' _ (reach n x (Qg hx)) SH λa H4 S4 st4=>?_⟩);walk_at "w";refine pf (ah rfl (ah rfl (ah rfl ?_)));refine⟨F,_,rfl,oU.k (k:=x) (S4 _ _ hF') (by rw[mL (by omega)];have:=fewB n;omega),?_⟩
 have pn:bN (fdK (bf n) as) x (V.ref a)=fdK (bf n) (as++[a]):=by
  rw[uS (by rw[las];exact hx)];refine dE _ (fg.mpr ?_);rw[gG,las];intro hm;obtain⟨i,hi,e⟩:=Qr.mp hm;rw[Qv]at hi;rw[List.getElem_take]at e;have e2:=(Qe.mp hx).2;have:=(List.getElem_inj (Bf.bx (nx:=nx) (s:=start) n)).mp (e.trans e2.symm);omega
 rw[pn]
 -- what the steps' list is not
 obtain⟨vs,ha,pr⟩:=id st4
 have neW:∀{Hx:Hp} {ws:List Key},Hx W=some (.lst (ws.map kV))->ws≠[]->∀{b:Addr} {sts:List (V × Key)},a9 Hx b sts->b≠W:=λ{Hx ws} hw ne {b sts} ⟨us,hb,pu⟩ z=>by
  rw[z,hw]at hb;cases hb
  cases ws with
  | nil=>exact ne rfl
  | cons y ws =>
  cases pu with
  | cons h _ =>
  obtain⟨c,e,_⟩:=h;cases y <;> cases e
 have neD:∀{Hx:Hp} {D:Addr} {kvs:List (Key × V)},Hx D=some (.dK kvs)->∀{b:Addr} {sts:List (V × Key)},a9 Hx b sts->b≠D:=λ{Hx D kvs} hd {b sts} ⟨us,hb,_⟩ z=>by
  rw[z,hd]at hb;cases hb
 have keepS:∀{Ha Hb:Hp} {ws:List Key} {k1 k2:List (Key × V)},Ha W=some (.lst (ws.map kV))->ws≠[]->Ha F=some (.dK k1)->Ha N=some (.dK k2)->wm F W N Ha Hb->∀{b:Addr} {sts:List (V × Key)},a9 Ha b sts->a9 Hb b sts:=λ{Ha Hb ws k1 k2} hw ne h1 h2 o {b sts} st=>by
  have n1:=neW hw ne st;have n2:=neD h1 st;have n3:=neD h2 st;obtain⟨us,hb,pu⟩:=st;refine⟨us,o b _ hb n2 n1 n3,bd (λv s ⟨c,e,q⟩=>⟨c,e,o c _ q (λz=>?_) (λz=>?_) λz=>?_⟩) pu⟩
  ·rw[z,h1]at q;cases q
  ·rw[z,hw]at q;cases q
  rw[z,h2]at q;cases q
 have bne:bf n≠[]:=λz=>by rw[z]at cn;simp at cn
 have hF4:=S4 _ _ hF';have hW4:=S4 _ _ hW';have hN4:=S4 _ _ hN';have off4:wm F W N H4 (upd H4 F (.dK (fdK (bf n) (as++[a])))):=λb o e h1 _ _=>by rw[aq h1];exact e
 have hF5:upd H4 F (.dK (fdK (bf n) (as++[a]))) F=some (.dK (fdK (bf n) (as++[a]))):=ag;have hW5:upd H4 F (.dK (fdK (bf n) (as++[a]))) W=some (.lst ((bf n).map kV)):=by rw[aq FW.symm];exact hW4
 have hN5:upd H4 F (.dK (fdK (bf n) (as++[a]))) N=some (.dK (knK (bf n))):=by rw[aq FN.symm];exact hN4
 have st5:=keepS hW4 bne hF4 hN4 off4 st4
 have sts5:∀(i:Nat) y b,(bf n)[i]?=some y->(as++[a])[i]?=some b->a9 (upd H4 F (.dK (fdK (bf n) (as++[a])))) b (steps y):=λi y b e1 e2=>by
  by_cases ci:i<as.length
  ·rw[QT ci]at e2;exact keepS hW4 bne hF4 hN4 off4 ((hsts i y b e1 e2).same S4)
  rw[QN (by omega)]at e2
  have:i=n:=by
   have:=(Qe.mp e2).1;simp at this;omega
  subst this;rw[hx]at e1;cases e1;rw[las,Nat.sub_self]at e2;cases e2;exact st5
 have SH5:aw H (upd H4 F (.dK (fdK (bf n) (as++[a])))):=off (SH.trans S4) off4;generalize upd H4 F (.dK (fdK (bf n) (as++[a])))=H5 at *;obtain⟨vs5,ha5,pr5⟩:=id st5;refine s_seq (s_for (s_list (ah rfl ⟨a,rfl,⟨_,SqL.of ha5⟩,?_⟩)));let I5:IvF:=λi σ' H'=>∃x8,σ'=[some (kV start),some (.ref fl),some (.ref F),some (.ref W),some (.ref N),some (.int (n:Int)),some (kV x),some (.ref a),x8]/\wm F W N H5 H'/\H' F=some (.dK (fdK (bf n) (as++[a])))/\H' W=some (.lst ((Bf.aV (bf n) ((nx x).take i)).map kV))/\H' N=some (.dK (knK (Bf.aV (bf n) ((nx x).take i))));refine e9 (xs:=vs5) I5 ⟨_,rfl,λb o e _ _ _=>e,hF5,hW5,hN5⟩ (λi σ' H' _ pv=>?_) (λi v σ' H' hv pv=>?_) (λσ' H' pv=>?_)
 ·obtain⟨_,_,o,_⟩:=pv;exact SqL.of (o a _ ha5 (neD hF5 st5) (neW hW5 bne st5) (neD hN5 st5))
 ·obtain⟨x8,rfl,o,e1,e2,e3⟩:=pv;obtain⟨⟨nm,y⟩,hy,b,rfl,hb⟩:=paired_get pr5 hv;have hb':H' b=some (.tup [nm,kV y]):=o b _ hb (λz=>by rw[z,hF5]at hb;cases hb) (λz=>by rw[z,hW5]at hb;cases hb) (λz=>by rw[z,hN5]at hb;cases hb)
  have hny:(nx x)[i]?=some y:=by
   show ((steps x).map (·.2))[i]?=_;rw[Qi,hy];rfl
  have ext:Bf.aV (bf n) ((nx x).take (i+1))=Bf.aV (Bf.aV (bf n) ((nx x).take i)) [y]:=by
   rw[QO,hny,Bf.kA];rfl
  have lenN:(Bf.aV (bf n) ((nx x).take i)).length<=B:=hfew _ (Bf.eA _ _ (Bf.bx n)) λz hz=>by
   rcases(Bf.eB _ _ _).mp hz with h|h
   ·exact reach n z h
   exact .step (reach n x (Qg hx)) (List.mem_of_mem_take h)
  walk_at "w";refine uM (a_ (ah rfl (i_c (bA hb' rfl (ah rfl ?_)))));refine⟨N,_,rfl,cC.k (k:=y) e3,_,rfl,?_⟩;by_cases cy:y∈Bf.aV (bf n) ((nx x).take i)
  ·rw[Bf.qc cy]at ext;refine ifF ?_ ?_
   ·cases e:bn (knK (Bf.aV (bf n) ((nx x).take i))) y with
    | none=>exact absurd cy (qM.mp e)
    | some v=>rfl
   walk_at "w";refine⟨_,rfl,o,e1,?_,?_⟩
   ·rw[ext];exact e2
   rw[ext];exact e3
  rw[Bf.qa cy]at ext;have nn:=qM.mpr cy;refine ifT (by rw[nn];rfl) ?_;walk_at "w";refine pf (i_c (ah rfl (a_ (ah rfl (i_c (bA hb' rfl ?_))))));refine⟨N,_,rfl,oU.k (k:=y) e3 (by unfold knK;rw[Qc];omega),?_⟩;have e2':upd H' N (.dK (bN (knK (Bf.aV (bf n) ((nx x).take i))) y (.bl true))) W=some (.lst ((Bf.aV (bf n) ((nx x).take i)).map kV)):=by rw[aq WN];exact e2
  have hb'':upd H' N (.dK (bN (knK (Bf.aV (bf n) ((nx x).take i))) y (.bl true))) b=some (.tup [nm,kV y]):=by rw[aq (λz=>by rw[z,e3]at hb';cases hb')];exact hb'
  refine s_drop (i_bm (ah rfl ⟨i_tyL e2',?_⟩));refine ao (a_ (ah rfl (i_c (bA hb'' rfl (aG (ou e2' (by rw[Qc];omega) ?_))))));refine⟨_,rfl,λc u e h1 h2 h3=>by rw[aq h2,aq h3];exact o c u e h1 h2 h3,by rw[aq FW,aq FN];exact e1,?_,?_⟩
  ·rw[ag,ext,Qw];rfl
  rw[aq WN.symm,ag,dE _ nn,ext];unfold knK;rw[Qw];rfl
 obtain⟨x8,rfl,o,e1,e2,e3⟩:=pv
 have lv:vs5.length=(nx x).length:=by
  show _=((steps x).map (·.2)).length;rw[Qc];exact aQ pr5
 rw[lv,Qs (Qh _),<-hbs]at e2 e3;refine⟨_,rfl,?_⟩;refine i_c ⟨_,_,rfl,rfl,?_⟩;have pre:bf n <+: bf (n+1):=Bf.oM n
 have l1:n+1<=(bf (n+1)).length:=by
  have:=pre.length_le;omega
 refine⟨as++[a],_,_,_,by rw[show ((n+1:Nat):Int)=(n:Int)+1 from rfl];rfl,l1,off SH5 o,?_,by rw[Qj,las];rfl,e2,e3,λi y b h1 h2=>?_⟩
 ·rw[uU (by rw[Qj,las];simp;omega) pre];exact e1
 have hi:i<n+1:=by
  have:=(Qe.mp h2).1;rw[Qj,las]at this;simpa using this
 exact keepS hW5 bne hF5 hN5 o (sts5 i y b (Bf.eT pre (by omega) h1) h2)
end
noncomputable def cH:Lm:=match bS (top 17) with
 | .Return (some (.Call _ [_,.Lambda p b sc pos] _ _)) _::_=>⟨("steps_found" ++ ".<locals>.") ++ "<lambda>", p,b,sc,pos⟩
 | _=>⟨"", { posonlyargs:=[],args:=[],vararg:=none,kwonlyargs:=[],kw_defaults:=[],kwarg:=none,defaults:=[] },.Constant .none 0 ⟨0,0,0,0⟩,au (top 0),⟨0,0,0,0⟩⟩
variable {z y x s:Str}
theorem zc {ns:List (Str × NameKind)} (h:ns.all (λp=>!(p.2==NameKind.free) || p.1==y)=true) (e:ns.lookup z=some .free):z=y:=by
 have:=QJ.mp h _ (c8 e);simpa using this
theorem uE:LmScope "here" "net" cH.scope:=⟨rfl,rfl,rfl,rfl,rfl,by decide,by decide +kernel,λz h=>zc (by decide +kernel) h⟩
structure Tk (T:Addr) (H H':Hp):Prop where
 old:∀b o,H b=some o->b≠T->H' b=some o
 tab:cS T cH H'
theorem vo (t:cS T l H):∃ps,H T=some (.tbl ps):=by rcases t with e|⟨c,e,_⟩ <;> exact⟨_,e⟩
theorem gf {o:HO} (t:cS T l H) (h:H b=some o) (n:∀ps,o≠.tbl ps):b≠T:=λz=>by
 obtain⟨ps,e⟩:=vo t;rw[z,e]at h;exact n ps (QX h).symm
theorem fi (t:cS T l H) (S:aw H H'):cS T l H':=by
 rcases t with e|⟨c,e,q⟩
 ·exact .inl (S _ _ e)
 exact .inr ⟨c,S _ _ e,S _ _ q⟩
theorem Tk.lst (t:cS T cH H) (k:Tk T H H'):∀b xs,H b=some (.lst xs)->H' b=some (.lst xs):=λb xs e=>k.old b _ e (gf t e λ_ z=>nomatch z)
theorem Tk.tup (t:cS T cH H) (k:Tk T H H'):∀b xs,H b=some (.tup xs)->H' b=some (.tup xs):=λb xs e=>k.old b _ e (gf t e λ_ z=>nomatch z)
theorem Tk.of (t:cS T cH H) (S:aw H H'):Tk T H H':=⟨λb o e _=>S b o e,fi t S⟩
theorem Tk.trans (a:Tk T H H1) (b:Tk T H1 H2):Tk T H H2:=⟨λc o e n=>b.old c o (a.old c o e n) n,b.tab⟩
variable {gs gs':List (Str × Rl)} {vs:List V} {ins ns ms xs ws ss ts zs ins':List Str}
theorem NAt.mono {li lg:Addr} (hl:∀b xs,H b=some (.lst xs)->H' b=some (.lst xs)) (ht:cr H H') (h:NAt H a li lg ins vs gs):NAt H' a li lg ins vs gs:=⟨ht _ _ h.ha,hl _ _ h.hi,hl _ _ h.hg,bi ht h.gates⟩
def cg (ps:List (Str × Str)):List (V × Key):=ps.map λp=>(V.str p.1,Sum.inr p.2)
def stN (ins:List Str) (gs:List (Str × Rl)):Key->List (V × Key)
 | .inr z=>cg (az ins gs z)
 | .inl _=>[]
variable {ps:List (Str × Str)}
theorem ic {l:Addr} (hl:H l=some (.lst vs)) (p:Paired (oR H) vs ps):a9 H l (cg ps):=by
 refine⟨vs,hl,?_⟩;unfold cg;clear hl
 induction p with
 | nil=>exact .nil
 | cons h _ ih=>exact .cons h ih
variable {p:Str × Str}
theorem gh (h:p∈az ins gs z):∃i,ins.length<=i/\i<ins.length+gs.length/\p.2=bW z i/\(∃g,gs[i-ins.length]?=some g/\p.1=g.1):=by
 unfold az at h;obtain⟨q,hq,e⟩:=List.mem_filterMap.mp h;obtain⟨j,hj,ej⟩:=Qr.mp hq;have e2:=Qb hj;rw[ej,List.getElem?_zipIdx]at e2;unfold cs at e
 split at e
 ·cases e
 cases e;rw[List.length_zipIdx]at hj;rw[Qb hj]at e2;cases e2;exact⟨ins.length+j,by omega,by omega,rfl,gs[j],by rw[Xg];exact Qb hj,rfl⟩
theorem aP (ins:List Str) (gs:List (Str × Rl)):(aj ins gs).length=ins.length+gs.length:=by unfold aj;rw[Qj,Qc]
theorem cZ (st:StOk (aj ins gs).length z) {x:Key} (r:Bf.Reach (nxK (stN ins gs)) (Sum.inr z) x):∃y:Str,x=Sum.inr y/\StOk (aj ins gs).length y:=by
 induction r with
 | start=>exact⟨z,rfl,st⟩
 | @step a b _ hb ih =>
 obtain⟨y,rfl,sy⟩:=ih;unfold nxK stN cg at hb;rw[QW]at hb;obtain⟨p,hp,rfl⟩:=Qo.mp hb;obtain⟨i,h1,h2,e,_⟩:=gh hp;refine⟨p.2,rfl,?_⟩;rw[e];exact fh sy (by rw[aP];exact h2)
def oQ:Nat->List (List Nat)
 | 0=>[[]]
 | n+1=>(oQ n).flatMap λl=>[48::l,49::l]
theorem oP:∀n,(oQ n).length=2 ^ n
 | 0=>rfl
 | n+1=>by
  unfold oQ;rw[List.length_flatMap];show ((oQ n).map λ_=>2).sum=_;rw[List.map_const',List.sum_replicate_nat,oP n,Nat.pow_succ]
theorem oO:∀n (l:List Nat),l.length=n->(∀c∈l,c=48\/c=49)->l∈oQ n
 | 0,l,h,_=>by rw[Xh h];simp[oQ]
 | n+1,[],h,_=>by simp at h
 | n+1,c::l,h,hc=>by
  unfold oQ;rw[List.mem_flatMap];refine⟨l,oO n l (by simpa using h) (λd hd=>hc d (Qq _ hd)),?_⟩;rcases hc c (by simp) with e|e <;> subst e <;> simp
theorem eZ {xs:List Key} (n11:n<=11) (nd:xs.Nodup) (h:∀x∈xs,∃y:Str,x=Sum.inr y/\StOk n y):xs.length<=2048:=by
 have:=Bf.tS xs ((oQ n).map λl=>(Sum.inr ⟨l.toArray⟩:Key)) nd λx hx=>by
  obtain⟨y,rfl,st⟩:=h x hx;exact Qo.mpr ⟨y.cps.toList,oO n _ (by rw[Qu];exact st.len) st.signs,by cases y;simp⟩
 rw[Qc,oP]at this;have h2:2 ^ n<=2 ^ 11:=Nat.pow_le_pow_right (by decide) n11;have h3:(2:Nat) ^ 11=2048:=by decide
 omega
def fo (TL:Addr):Sp:=λvs H Q _=>∃a li lg ins gvs gs z,vs=[.ref a,.str z]/\NAt H a li lg ins gvs gs/\NetOk ins gs/\StOk (aj ins gs).length z/\cS TL cH H /\
 ∀(F:Addr) (as:List Addr) (n:Nat) (H':Hp),Tk TL H H'->H F=none->(Bf.bfs (nxK (stN ins gs)) (Sum.inr z) n).length=n->as.length=n->H' F=some (.dK (fdK (Bf.bfs (nxK (stN ins gs)) (Sum.inr z) n) as)) ->
  (∀(i:Nat) x b,(Bf.bfs (nxK (stN ins gs)) (Sum.inr z) n)[i]?=some x->as[i]?=some b->a9 H' b (stN ins gs x))->Q (.ref F) H'
section
theorem u8 {f c cell:Addr} (f_steps_from:Fn P w K mg base "steps_from" ["net", "standing"] 12 fk):Calls P w K mg base 13 f (wG f cH "net" cell c (kI fk [] E0 (cE (eN 1) (cE (eN 0) lC)))) :=
 p8 (k:=12) uE (λpm ctv u=>rfl) λA outer s H hr=>wJ f_steps_from hr (by rfl) (ad (pv 1) (ad (pv 0) af))
theorem i_:FnScope ["net", "standing"] ["net", "standing"] (au (top 17)):=by walk_at "k"
theorem pD {TL cc:Addr} {f:Addr} {fd:FuncData} (Fu:FunC K "steps_found" "steps_found" (top 17) f fd cc) (T:Txt K mg TT) (CT:PySem.W.CodeHd base cc TL) (BM:fN base mg) (f_found_from:Fn P w K mg base "found_from" ["start", "steps_of"] 14 (lO P w K mg base 13)) (f_steps_from:Fn P w K mg base "steps_from" ["net", "standing"] 12 fk) :
  FnOk P w K mg base CX0 15 f fd ["net", "standing"] (fo TL):=by
 have S:=i_;refine Fu.ok S (λvs H Q E h=>?_) (λA outer s H vs Q E hr h=>?_)
 ·obtain⟨a,li,lg,ins,gvs,gs,z,rfl,_⟩:=h;rfl
 obtain⟨a,li,lg,ins,gvs,gs,z,rfl,NA,ok,st,tb,k⟩:=h;have hu:=eI hr;have HCL:PySem.closureFor cH.scope (PyProof.Rows.envOfC "steps_found" (au (top 17)) s.heap.objs.size f (.ref cc))=pure [(("net" : Str),(s.heap.objs.size+1:Addr))]:=by rfl
 refine'⟨?_,?bb,?_⟩
 case bb =>
  refine' aI ?_;rotate_left 1;walk_at "p";exact(aB (xT (i:=0) f_found_from (hr.mono (by first|decide|omega)) (by rfl) (ad (pv 1) (ad (xR (T:=TL) (cl:=[(("net" : Str),(s.heap.objs.size+1:Addr))]) rfl CT BM HCL) af) ae) rfl rfl (Or.inr (Or.inl rfl)) rfl rfl))
 walk_at "e";generalize hcell:s.heap.objs.size+1=cell;walk_at "s";show cE (eN 1) (cE (yN TL cH [("net", cell)]) lC) _ _ _;refine ao (ah rfl (ao ⟨tb,λfl c H2 md=>aG ⟨_,rfl,λo uy hd ru hc=>?_⟩⟩));have md:Made TL cH [("net", cell)] H fl c H2:=md;obtain rfl:uy=Value.ref a:=ru;have NA2:NAt H2 a li lg ins gvs gs:=NA.mono (λb xs e=>md.old b _ e (gf tb e λ_ z=>nomatch z)) (λb xs e=>md.old b _ e (gf tb e λ_ z=>nomatch z));have S2c:aw H2 (upd H2 cell (dw o)):=ap hc;have hf2:upd H2 cell (dw o) fl=some (hZ fl cH [("net", cell)] c):=S2c _ _ md.fn;have hcc2:upd H2 cell (dw o) c=some (iq c cH.qual):=S2c _ _ md.code;have hcl2:upd H2 cell (dw o) cell=some (dw o):=ag;have NA2c:=NA2.same S2c;have k12:∀b u,H b=some u->b≠TL->upd H2 cell (dw o) b=some u:=λb u e n=>S2c _ _ (md.old b u e n);have tb2:cS TL cH (upd H2 cell (dw o)):=.inr ⟨c,S2c _ _ md.tab,hcc2⟩;have nocell:∀{b u},H2 b=some u->b≠cell:=λe z=>by rw[z,hc]at e;cases e
 have H2R:∀{b u},H b=some u->b≠TL->b≠cell:=λ{b u} e n=>nocell (md.old b u e n);have Tcell:TL≠cell:=nocell md.tab;generalize upd H2 cell (dw o)=H2c at *;have w11:(aj ins gs).length<=11:=by rw[aP];have:=ok.i4;have:=ok.g7;omega
 refine⟨Sum.inr z,fl,cH,[("net", cell)],c,_,stN ins gs,2048,rfl,hf2,u8 (c:=c) (cell:=cell) f_steps_from,by decide,λx H4 Q1 rx S4 q4=>?_,λxs nd h=>eZ w11 nd λx hx=>cZ st (h x hx),λF as n H3 S3 hF ln3 las hF3 sts=>?_⟩
 ·obtain⟨y,rfl,sy⟩:=cZ st rx;have NA4:=NA2c.same S4;have hcl4:=S4 _ _ hcl2;refine⟨o,Value.ref a,.ref a,S4 _ _ hf2,S4 _ _ hcc2,hcl4,hd,rfl,?_⟩;have dl:∀b xs,H4 b=some (.lst xs)->cM H4 cell b=some (.lst xs):=λb xs e=>by rw[br (λz=>by rw[z,hcl4]at e;cases e)];exact e
  have dt:∀b xs,H4 b=some (.tup xs)->cM H4 cell b=some (.tup xs):=λb xs e=>by rw[br (λz=>by rw[z,hcl4]at e;cases e)];exact e
  refine aW (ao (ah rfl (ao (ah rfl (aG ?_)))));refine⟨a,li,lg,ins,gvs,gs,y,rfl,NA4.mono dl dt,ok,sy,λl vs' H5 S5 hl0 hl5 pr5 hn5=>?_⟩;have kc:cr H5 (upd H5 cell (dw o)):=λb xs e=>by rw[aq (λz=>by rw[z,hn5]at e;cases e)];exact e
  refine q4 l _ (λb u e=>?_) (ic (by rw[aq (λz=>by rw[z,hn5]at hl5;cases hl5)];exact hl5) (cY kc pr5));by_cases cb:b=cell
  ·subst cb;rw[ag,<-hcl4];exact e
  rw[aq cb];exact S5 _ _ (by rw[br cb];exact e)
 show Q (V.ref F) (cM H3 cell);have hcl3:=S3 _ _ hcl2;have d3:∀{b u},H3 b=some u->b≠cell->cM H3 cell b=some u:=λe n=>by rw[br n];exact e
 have Fcell:F≠cell:=λz=>by rw[z,hcl2]at hF;cases hF
 have tb3:cS TL cH (cM H3 cell):=by
  rcases tb2 with e|⟨c',e,q⟩
  ·exact .inl (d3 (S3 _ _ e) Tcell)
  have c'cell:c'≠cell:=λz=>by rw[z,hcl2]at q;cases q
  exact .inr ⟨c',d3 (S3 _ _ e) Tcell,d3 (S3 _ _ q) c'cell⟩
 have F0:H F=none:=by
  cases e:H F with
  | none=>rfl
  | some u =>
  by_cases c:F=TL
  ·obtain⟨ps,e2⟩:=vo tb2;rw[c,e2]at hF;cases hF
  rw[k12 _ _ e c]at hF;cases hF
 refine k F as n _ ⟨λb u e nT=>d3 (S3 _ _ (k12 b u e nT)) (H2R e nT),tb3⟩ F0 ln3 las (d3 hF3 Fcell) λi x b e1 e2=>?_;obtain⟨vs,h1,h2⟩:=sts i x b e1 e2;exact⟨vs,d3 h1 (λz=>by rw[z,hcl3]at h1;cases h1),bd (λv st ⟨b,e,q⟩=>⟨b,e,d3 q (λz=>by rw[z,hcl3]at q;cases q)⟩) h2⟩
end
theorem mG {nm:Str}:∀{ns:List Str},inV (.str nm) (ns.map V.str)=true↔nm∈ns
 | []=>by simp[inV]
 | x::ns=>by
  have ih:=mG (nm:=nm) (ns:=ns);unfold inV at ih ⊢;rw[QC,List.any_cons,Bool.or_eq_true,ih,QQ]
  have:eqV (.str x) (.str nm)=true↔nm=x:=by
   show decide (x=nm)=true↔_;rw[decide_eq_true_iff];exact⟨λh=>h.symm,λh=>h.symm⟩
  rw[this]
theorem kX (ns:List Str):(ns.map V.str).all cL=true:=by
 rw[QJ];intro x hx;obtain⟨y,_,rfl⟩:=Qo.mp hx;rfl
theorem jH {p:Addr} (h:SqL K H p (ns.map V.str)) (q:Q (.bl (!decide (x∈ns))) H):rIn K true (.str x) (.ref p) H Q:=by
 refine⟨p,_,rfl,.inl h,rfl,kX _,?_⟩
 have e:inV (.str x) (ns.map V.str)=decide (x∈ns):=by
  by_cases c:x∈ns
  ·rw[mG.mpr c,QU c]
  rw[QI c];exact Xm.mpr λz=>c (mG.mp z)
 rw[Qz rfl,e];exact q
theorem cC.same {k:Key} {o:Option V} (S:aw H H') (h:cC H a (kV k) o):cC H' a (kV k) o:=by
 rcases h with⟨kvs,k',r,e,q⟩|⟨kvs,k',b,r,e,_⟩
 ·refine .inl ⟨kvs,k',?_,e,q⟩;rcases r with r|⟨ob,r⟩
  ·exact .inl (S _ _ r)
  exact .inr ⟨ob,S _ _ r⟩
 cases k <;> cases e
section
variable (ins:List Str) (gs:List (Str × Rl))
def f_ (y:Str):List Str:=(az ins gs y).map (·.1)
def di (y:Str) (c:Str) (p:Str × Str):Option (Str × Str):=if p.1≠c/\c∉f_ ins gs p.2 then some (c,p.1) else none
def bR (y:Str):List (Str × Str):=(f_ ins gs y).flatMap λc=>(az ins gs y).filterMap (di ins gs y c)
end
theorem dQ (ins:List Str) (gs:List (Str × Rl)) (y:Str):(az ins gs y).length<=gs.length:=by
 unfold az;have:=List.length_filterMap_le (cs (sgn (aj ins gs) y) y) (gs.zipIdx ins.length);rwa [List.length_zipIdx]at this
def FAt (H:Hp) (F:Addr) (ins:List Str) (gs:List (Str × Rl)) (R:Str->Prop):Prop:=∀y,R y->∃b,cC H F (kV (Sum.inr y)) (some (.ref b))/\a9 H b (cg (az ins gs y))
theorem FAt.same {R:Str->Prop} (S:aw H H') (h:FAt H F ins gs R):FAt H' F ins gs R:=λy r=>let ⟨b,g,s⟩:=h y r;⟨b,cC.same S g,s.same S⟩
def lQ:Sp:=λvs H Q _=>∃(F li:Addr) (ins:List Str) (gs:List (Str × Rl)) (R:Str->Prop) (y:Str),vs=[.ref F,.str y,.ref li]/\FAt H F ins gs R/\R y/\H li=some (.lst (ins.map V.str))/\NetOk ins gs/\∀l H',aw H H'->H l=none->H' l=some (.lst ((f_ ins gs y).map V.str))->Q (.ref l) H'
def B6 (H:Hp):Option (Str × Str)->V->Prop
 | none,v=>v=.non
 | some p,v=>∃t,v=.ref t/\H t=some (.tup [.str p.1,.str p.2])
def lP:Sp:=λvs H Q _=>∃(F li:Addr) (ins:List Str) (gs:List (Str × Rl)) (R:Str->Prop) (y:Str),vs=[.ref F,.str y,.ref li]/\FAt H F ins gs R/\R y/\(∀y,R y->∀p∈az ins gs y,R p.2)/\H li=some (.lst (ins.map V.str))/\NetOk ins gs/\∀v H',aw H H'->B6 H' (bR ins gs y).head? v->Q v H'
theorem dP (pv:Paired (λv (s:V × Key)=>∃b,v=.ref b/\H b=some (.tup [s.1,kV s.2])) vs (cg ps)) {v:V} (e:vs[i]?=some v):∃p b,ps[i]?=some p/\v=.ref b/\H b=some (.tup [.str p.1,.str p.2]):=by
 obtain⟨st,e1,b,e2,h⟩:=paired_get pv e;unfold cg at e1;rw[Qi]at e1
 cases e3:ps[i]? with
 | none=>rw[e3]at e1;cases e1
 | some p=>rw[e3]at e1;cases e1;exact⟨p,b,rfl,e2,h⟩
theorem oz (ok:NetOk ins gs) (h:p∈az ins gs y):p.1∉ins:=by
 obtain⟨i,_,_,_,g,hg,e⟩:=gh h;rw[e];have nd:=ok.nd;unfold aj at nd;intro hm;exact(List.nodup_append.mp nd).2.2 _ hm _ (Qo.mpr ⟨g,Qg hg,rfl⟩) rfl
theorem ik {α β:Type} {g:α->Option β} {r:β}:∀{ys:List α} {j:Nat} {y:α},ys[j]?=some y->(∀j'<j,∀y',ys[j']?=some y'->g y'=none)->g y=some r->(ys.filterMap g).head?=some r
 | [],_,_,e,_,_=>by simp at e
 | y0::ys,0,y,e,_,hr=>by simp at e;subst e;rw[XC,hr];rfl
 | y0::ys,j+1,y,e,hn,hr=>by
  rw[XC,hn 0 (by omega) y0 rfl];exact ik (j:=j) (by simpa using e) (λj' h y' e'=>hn (j'+1) (by omega) y' (by simpa using e')) hr
theorem kT {α β:Type} {f:α->List β} {r:β}:∀{xs:List α} {i:Nat} {x:α},xs[i]?=some x->(∀i'<i,∀x',xs[i']?=some x'->f x'=[])->(f x).head?=some r->(xs.flatMap f).head?=some r
 | [],_,_,e,_,_=>by simp at e
 | x0::xs,0,x,e,_,hr=>by
  simp at e;subst e;rw[List.flatMap_cons]
  cases h:f x0 with
  | nil=>rw[h]at hr;cases hr
  | cons a l=>rw[h]at hr;exact hr
 | x0::xs,i+1,x,e,hn,hr=>by
  rw[List.flatMap_cons,hn 0 (by omega) x0 rfl,List.nil_append];exact kT (i:=i) (by simpa using e) (λi' h x' e'=>hn (i'+1) (by omega) x' (by simpa using e')) hr
section
theorem ja:FnScope ["steps", "here", "inputs"] ["steps", "here", "inputs"] (au (top 20)):=by walk_at "k"
theorem uz {f:Addr} {fd:FuncData} (Fu:Fun K "names_asked" "names_asked" (top 20) f fd) (T:Txt K mg TT):FnOk P w K mg base CX0 1 f fd ["steps", "here", "inputs"] lQ:=by
 have S:=ja;refine Fu.ok S (by walk_at "l") (λcdv A outer s H vs Q E hr h=>?_);obtain⟨F,li,ins,gs,R,y,rfl,fa,ry,hli,ok,k⟩:=h;have hu:=eI hr;refine⟨_,(aI (aB (qy (tgs:=["step"]) (cap:=[("inputs", 2)]) rfl ⟨rfl,rfl,rfl,rfl,rfl,rfl⟩ (bq (bO hu (pv 0) (pv 1))) (λ_ _ _ _=>(cP (i:=0) (show List.Nodup [("step" : Str),("inputs" : Str)] by decide +kernel) rfl (by walk_at "z"))) (λ_ _ _ _=>(tT (aL (kh (K:=K) rfl) (aD (gC (K:=K) rfl) (pv 0) ak) (pv 1) rfl))) (λ_ _ _ _=>(aD (gC (K:=K) rfl) (pv 0) ak))))),?_⟩;walk_at "e";obtain⟨b,dg,vs,hvs,pvs⟩:=fa y ry;have few:=dQ ins gs y;have g7:=ok.g7;have lvs:vs.length=(az ins gs y).length:=by have:=aQ pvs;unfold cg at this;rwa [Qc]at this
 refine s_ret (i_comp (s_list (i_dget (ah rfl (ah rfl ⟨F,_,rfl,dg,b,rfl,⟨_,SqL.of hvs⟩,λL hL=>?_⟩)))));refine pZ (xs:=vs) (λm H' ys=>aw H H'/\H' L=some (.lst ys)/\ys=(((az ins gs y).take m).map (·.1)).map V.str) ⟨ap hL,ag,by simp⟩ (λm H' ys p=>⟨p.2.1,SqL.of (p.1 _ _ hvs)⟩) (λm v H' ys e p=>?_) (λH' ys p=>?_)
 ·obtain⟨Sm,hd,rfl⟩:=p;obtain⟨p,b2,hp,rfl,hb2⟩:=dP pvs e;have hm:m<vs.length:=(Qe.mp e).1;have nin:=oz ok (Qg hp);refine ax ⟨by repeat' (first|exact trivial|refine⟨rfl,?_⟩),?_⟩;have hb3:=Sm _ _ hb2;refine i_test (a_ (a_ (ah rfl (i_c (bA hb3 rfl (ah rfl ?_))))));refine jH (SqL.of (Sm _ _ hli)) ⟨_,rfl,?_⟩;refine ifT (by rw[QI nin];rfl) ?_;refine a_ (ah rfl (i_c (bA hb3 rfl ?_)));refine bM.mk hd hm (by rw[Qc,Qc,Qv];omega) ⟨bp Sm hL,ag,?_⟩;rw[QO,hp,Qw,Qw];rfl
 obtain⟨Sm,hd,rfl⟩:=p;rw[lvs,Qs (Qh _)]at hd;exact k L H' Sm hL hd
theorem iw:FnScope ["steps", "here", "inputs", "calmed", "by", "behind"] ["steps", "here", "inputs"] (au (top 21)):=by walk_at "k"
theorem vS {f:Addr} {fd:FuncData} (Fu:Fun K "first_calmed" "first_calmed" (top 21) f fd) (T:Txt K mg TT) (f_names_asked:Fn P w K mg base "names_asked" ["steps", "here", "inputs"] 1 lQ):FnOk P w K mg base CX0 2 f fd ["steps", "here", "inputs"] lP:=by
 have S:=iw;refine Fu.ok S (by walk_at "l") (λcdv A outer s H vs Q E hr h=>?_);obtain⟨F,li,ins,gs,R,y,rfl,fa,ry,cl,hli,ok,k⟩:=h;have hu:=eI hr;refine'⟨?_,?bb,?_⟩
 case bb =>
  walk_at "b";walk_at "f";exact(bq (aF f_names_asked hr (ad (pv 0) (ad (pv 1) (ad (pv 2) af ae) ae) ae)));exact(cK 3 S.nd);walk_at "p";walk_at "f";exact(bq (bO hu (pv 0) (pv 1)));exact(jh rfl (bz (cK 4 S.nd) (bz (cK 5 S.nd) dU)));walk_at "p";exact(PW.pt (tP (aL ii (pv 4) (pv 3) (aZ _)) (qw (aL dX (pv 3) (aF f_names_asked hr (ad (pv 0) (ad (pv 5) (ad (pv 2) af ae) ae) ae)) rfl))));exact(aB (be (ad (pv 3) (ad (pv 4) af ae) ae)));exact(aB bU)
 walk_at "e";obtain⟨b,dg,vs,hvs,pvs⟩:=fa y ry;have few:=dQ ins gs y;have g7:=ok.g7;have lvs:vs.length=(az ins gs y).length:=by have:=aQ pvs;unfold cg at this;rwa [Qc]at this
 walk_at "s";refine s_for (s_list (aW (ao (ah rfl (ao (ah rfl (ao (ah rfl (aG ?_)))))))));refine⟨F,li,ins,gs,R,y,rfl,fa,ry,hli,ok,λl H1 S1 hl0 hl1=>?_⟩;refine⟨l,rfl,⟨_,SqL.of hl1⟩,?_⟩;let I6:IvF:=λi σ' H'=>(∃x3 x4 x5,σ'=[some (.ref F),some (.str y),some (.ref li),x3,x4,x5])/\aw H1 H'/\∀i'<i,∀c,(f_ ins gs y)[i']?=some c->(az ins gs y).filterMap (di ins gs y c)=[]
 refine e9 (xs:=(f_ ins gs y).map V.str) I6
  ⟨⟨_,_,_,rfl⟩,aw.refl _,λi' h=>absurd h (Nat.not_lt_zero _)⟩ (λi σ' H' _ pv=>SqL.of (pv.2.1 _ _ hl1)) (λi v σ' H' hv pv=>?_) (λσ' H' pv=>?_)
 ·obtain⟨⟨x3,x4,x5,rfl⟩,SS,none0⟩:=pv;rw[Qi]at hv
  cases ec:(f_ ins gs y)[i]? with
  | none=>rw[ec]at hv;cases hv
  | some c =>
  rw[ec]at hv;cases hv;refine ax ?_;have S0:=S1.trans SS;refine s_for (s_list (i_dget (ah rfl (ah rfl ⟨F,_,rfl,cC.same S0 dg,b,rfl,⟨_,SqL.of (S0 _ _ hvs)⟩,?_⟩))));let I7:IvF:=λj σ' H''=>(∃x4 x5,σ'=[some (.ref F),some (.str y),some (.ref li),some (.str c),x4,x5])/\aw H' H''/\∀j'<j,∀p,(az ins gs y)[j']?=some p->di ins gs y c p=none
  refine e9 (xs:=vs) I7
   ⟨⟨_,_,rfl⟩,aw.refl _,λj' h=>absurd h (Nat.not_lt_zero _)⟩ (λj σ' H'' _ pv=>SqL.of (pv.2.1 _ _ (S0 _ _ hvs))) (λj v σ' H'' hv pv=>?_) (λσ' H'' pv=>?_)
  ·obtain⟨⟨x4,x5,rfl⟩,S2,none1⟩:=pv;have S02:=S0.trans S2;obtain⟨p,b2,hp,rfl,hb2⟩:=dP pvs hv;have hb3:=S02 _ _ hb2;refine⟨b2,_,rfl,SqT.of hb3,rfl,_,_,rfl,ax ⟨_,_,rfl,ax ⟨rfl,?_⟩⟩⟩;walk_at "s";with_reducible refine i_and ?_
   refine i_test (a_ (ah rfl (ah rfl (i_ne rfl ⟨_,rfl,?_⟩))))
   have nx:∀(H4:Hp),aw H'' H4->di ins gs y c p=none->(∃x4 x5,([some (.ref F),some (.str y),some (.ref li),some (.str c),some (.str p.1),some (.str p.2)]:St)=[some (.ref F),some (.str y),some (.ref li),some (.str c),x4,x5])/\aw H' H4/\∀j'<j+1,∀p,(az ins gs y)[j']?=some p->di ins gs y c p=none:=λH4 S4 hn=>⟨⟨_,_,rfl⟩,S2.trans S4,λj' h q e=>by
    by_cases cj:j'<j
    ·exact none1 j' cj q e
    have:j'=j:=by omega
    subst this;rw[hp]at e;cases e
    exact hn⟩
   by_cases c1:p.1=c
   ·refine ifF (by rw[QU (by rw[c1])];rfl) (iteF ?_);walk_at "w";exact nx H'' (aw.refl _) (by unfold di;rw[QA (λz=>z.1 c1)])
   refine ifT (by rw[QI (λz=>c1 (V.str.inj z))];rfl) ?_;refine i_test (a_ (ah rfl (aW (ao (ah rfl (ao (ah rfl (ao (ah rfl (aG ?_))))))))));refine⟨F,li,ins,gs,R,p.2,rfl,fa.same S02,cl y ry p (Qg hp),S02 _ _ hli,ok,λl2 H3 S3 hl20 hl23=>?_⟩;refine jH (SqL.of hl23) ⟨_,rfl,?_⟩;by_cases c2:c∈f_ ins gs p.2
   ·refine ifF (by rw[QU c2];rfl) ?_;walk_at "w";exact nx H3 S3 (by unfold di;rw[QA (λz=>z.2 c2)])
   refine ifT (by rw[QI c2];rfl) ?_;walk_at "w";refine⟨by simp[sizeLine],λt ht=>?_⟩;refine k _ _ (S02.trans (S3.trans (ap ht))) ?_;have e:(bR ins gs y).head?=some (c,p.1):=kT ec none0 (ik hp none1 (by unfold di;rw[Qz ⟨c1,c2⟩]));rw[e];exact⟨t,rfl,ag⟩
  obtain⟨⟨x4,x5,rfl⟩,S2,none1⟩:=pv;refine⟨⟨_,_,_,rfl⟩,SS.trans S2,λi' h c' e=>?_⟩;by_cases ci:i'<i
  ·exact none0 i' ci c' e
  have:i'=i:=by omega
  subst this;rw[ec]at e;cases e;rw[List.filterMap_eq_nil_iff];intro p hp;obtain⟨j,hj,ej⟩:=Qr.mp hp;exact none1 j (by omega) p (by rw[Qb hj,ej])
 obtain⟨⟨x3,x4,x5,rfl⟩,SS,none0⟩:=pv;rw[Qc]at none0;walk_at "w";refine k _ _ (S1.trans SS) ?_
 have e:bR ins gs y=[]:=by
  unfold bR;rw[List.flatMap_eq_nil_iff];intro c hc;obtain⟨i,hi,ei⟩:=Qr.mp hc;exact none0 i hi c (by rw[Qb hi,ei])
 rw[e];rfl
end
section
variable (st:Str->List (Str × Str))
def evs (xs:List Str):List (Str × (Str × Str)):=xs.flatMap λh=>(st h).map λp=>(p.2,(p.1,h))
def bY (es:List (Str × (Str × Str))) (x:Str):Option (Str × Str):=(es.find? λe=>e.1==x).map (·.2)
inductive Path (xs:List Str) (s:Str):Str->List Str->Prop
 | nil:Path xs s s []
 | snoc {x h nm:Str} {ns:List Str}:x≠s->bY (evs st xs) x=some (nm,h)->Path xs s h ns->Path xs s x (ns++[nm])
end
variable {st:Str->List (Str × Str)}
theorem Path.det (a:Path st xs s x ns):Path st xs s x ms->ns=ms:=by
 induction a generalizing ms with
 | nil=>intro b;cases b with
  | nil=>rfl
  | snoc h _ _=>exact absurd rfl h
 | snoc h c _ ih=>intro b;cases b with
  | nil=>exact absurd rfl h
  | snoc h' c' p' =>
   rw[c]at c';cases c';rw[ih p']
theorem Path.start (a:Path st xs s s ns):ns=[]:=a.det .nil
theorem d9 {es:List (Str × (Str × Str))} {e:Str × (Str × Str)}:bY (es++[e]) x=match bY es x with|some r=>some r|none=>if e.1=x then some e.2 else none:=by
 unfold bY;rw[List.find?_append]
 cases h:es.find? (λe=>e.1==x) with
 | some r=>rfl
 | none =>
 rw[Option.none_or];by_cases c:e.1=x
 ·rw[Qz c,XJ,show (e.1==x)=true from by simpa using c];rfl
 rw[QA c,XJ,show (e.1==x)=false from by simpa using c];rfl
structure CAt (H:Hp) (C:Addr) (kvs:List (Key × V)) (es:List (Str × (Str × Str))):Prop where
 hC:H C=some (.dK kvs)
 some:∀x r,bY es x=some r->∃t,bn kvs (Sum.inr x)=some (.ref t)/\H t=some (.tup [.str r.1,.str r.2])
 none:∀x,bY es x=none->bn kvs (Sum.inr x)=none
 len:kvs.length<=es.length
def aC (xs:List Str):List Key:=xs.map Sum.inr
def tE:Sp:=λvs H Q _=>∃(F:Addr) (as:List Addr) (st:Str->List (Str × Str)) (xs:List Str) (s x:Str) (ns:List Str),vs=[.ref F,.str s,.str x]/\Rd H F (.dK (fdK (aC xs) as))/\as.length=xs.length/\xs.length<=2048/\xs.Nodup/\(∀h,(st h).length<=7) /\
 (∀(i:Nat) h b,xs[i]?=some h->as[i]?=some b->a9 H b (cg (st h)))/\Path st xs s x ns/\ns.length<=3000/\∀l H',aw H H'->H l=none->H' l=some (.lst (ns.map V.str))->Q (.ref l) H'
theorem mJ {k:Key} {v:V} (h:(fdK (aC xs) as)[j]?=some (k,v)):∃x b,xs[j]?=some x/\as[j]?=some b/\k=Sum.inr x/\v=.ref b:=by
 unfold fdK aC at h;rw[Qi]at h
 cases q:((xs.map Sum.inr:List Key).zip as)[j]? with
 | none=>rw[q]at h;cases h
 | some p =>
 obtain⟨p1,p2⟩:=p;rw[q]at h;cases h;obtain⟨h1,h2⟩:=List.getElem?_zip_eq_some.mp q;rw[Qi]at h1
 cases e:xs[j]? with
 | none=>rw[e]at h1;cases h1
 | some x=>rw[e]at h1;cases h1;exact⟨x,p2,rfl,h2,rfl,rfl⟩
theorem db (nd:(kvs.map (·.1)).Nodup):∀{i:Nat} {k:Key} {v:V},kvs[i]?=some (k,v)->bn kvs k=some v:=by
 induction kvs with
 | nil=>intro i k v e;simp at e
 | cons p r ih =>
 intro i k v e;rw[QC,Xi]at nd
 cases i with
 | zero =>
  simp at e;subst e;exact bI (p:=(k,v)) rfl
 | succ i =>
 simp at e;rw[bJ (λz:p.1=k=>nd.1 (by rw[z];exact Qo.mpr ⟨(k,v),Qg e,rfl⟩))];exact ih nd.2 e
theorem fV (nd:xs.Nodup):((fdK (aC xs) as).map (·.1)).Nodup:=by
 rw[gG];refine(List.take_sublist _ _).nodup ?_;unfold aC;exact List.Pairwise.map _ (λa b h z=>h (Sum.inr.inj z)) nd
variable {ta:TA}
theorem yB (q:ta σ H λvs H1=>∃l xs,vs=[.ref l]/\SqL K H1 l xs/\∀p,H1 p=none->Q (.ref p) (upd H1 p (.lst xs.reverse))):wv K ta σ H Q:=q
section
theorem nB:FnScope ["found", "start", "other", "came", "here", "name", "behind", "names"] ["found", "start", "other"] (au (top 18)):=by walk_at "k"
theorem yp {f:Addr} {fd:FuncData} (Fu:Fun K "order_to" "order_to" (top 18) f fd) (T:Txt K mg TT):FnOk P w K mg base CX0 1 f fd ["found", "start", "other"] tE:=by
 have S:=nB;refine Fu.ok S (by walk_at "l") (λcdv A outer s H vs Q E hr h=>?_);obtain⟨F,as,st,xs,z,x,ns,rfl,rd,las,lxs,nd,few,sts,pth,lns,k⟩:=h;have hu:=eI hr;refine'⟨?_,?bb,?_⟩
 case bb =>
  walk_at "b";exact aO 3 S.nd jj;refine' pp ?_;rotate_left 1;walk_at "f";exact(gx (pv 0));exact(cK 4 S.nd);walk_at "p";walk_at "f";exact(bq (bO hu (pv 0) (pv 4)));exact(jh rfl (bz (cK 5 S.nd) (bz (cK 6 S.nd) dU)));walk_at "p";exact(cO (tX (pv 3) (pv 6) (be (ad (pv 5) (ad (pv 4) af ae) ae)) ⟨rfl,rfl,rfl,rfl⟩));exact aO 7 S.nd (pe_lst af);exact aO 4 S.nd (pv 2);refine' jf XN ?_ ?_;rotate_left 2;exact(aL ii (pv 4) (pv 1) (aZ _));walk_at "p";exact(cO (eV Xs PySem.F.slot_list_append PySem.F.type_list_append cw (pv 7) (ad (aD aH (bO hu (pv 3) (pv 4)) ak) af)));exact aO 4 S.nd (aD aH (bO hu (pv 3) (pv 4)) ak);exact(aB (vE rfl (by rfl) T.n_list (by rfl) T.n_reversed (ad (pv 7) af ae)))
 walk_at "e";refine s_seq (bE ?_);intro C hC;refine ax ?_;generalize hE:upd H C _=H1;obtain⟨S1,q1⟩:=ay hC hE;clear hE;obtain⟨uF,hF⟩:=iL rd;have FC:F≠C:=av hF hC
 have rd1:Rd H1 F (.dK (fdK (aC xs) as)):=by
  rcases rd with e|⟨o,e⟩
  ·exact .inl (S1 _ _ e)
  exact .inr ⟨o,S1 _ _ e⟩
 walk_at "s";refine tJ (a:=F) (u:=.dK (fdK (aC xs) as)) rd1 trivial λob=>?_;have h2:∀b,b≠F->upd H1 F (.frz ob (.dK (fdK (aC xs) as))) b=H1 b:=λb n=>aq n;have hF2:upd H1 F (.frz ob (.dK (fdK (aC xs) as))) F=some (.frz ob (.dK (fdK (aC xs) as))):=ag;generalize upd H1 F (.frz ob (.dK (fdK (aC xs) as)))=H2 at *
 have nFl:∀{b xs'},H b=some (.lst xs')->b≠F:=λ{b xs'} e zz=>by
  rw[zz]at e;rcases rd with e'|⟨o,e'⟩ <;> rw[e]at e' <;> cases e'
 have nFt:∀{b xs'},H b=some (.tup xs')->b≠F:=λ{b xs'} e zz=>by
  rw[zz]at e;rcases rd with e'|⟨o,e'⟩ <;> rw[e]at e' <;> cases e'
 have sts2:∀(i:Nat) h b,xs[i]?=some h->as[i]?=some b->a9 H2 b (cg (st h)):=λi h b e1 e2=>by
  obtain⟨vs,v1,v2⟩:=sts i h b e1 e2;exact⟨vs,by rw[h2 _ (nFl v1)];exact S1 _ _ v1,bd (λv s ⟨b,e,q⟩=>⟨b,e,by rw[h2 _ (nFt q)];exact S1 _ _ q⟩) v2⟩
 have hC2:H2 C=some (.dK []):=by rw[h2 C FC.symm];exact q1
 have lfd:(fdK (aC xs) as).length=xs.length:=by rw[mL (by unfold aC;rw[Qc];omega)];exact las
 have levs:∀ys:List Str,(evs st ys).length<=7*ys.length:=λys=>by
  unfold evs
  induction ys with
  | nil=>simp
  | cons y ys ih =>
  rw[List.flatMap_cons,Qj,Qc,Q0];have:=few y;omega
 refine s_for (iK (ah rfl ⟨F,ob,_,rfl,hF2,?_⟩));let I8:IvF:=λj σ' H'=>∃(kvs:List (Key × V)) (x4 x5 x6:Option V),σ'=[some (.ref F),some (.str z),some (.str x),some (.ref C),x4,x5,x6,none]/\(∀b u,H2 b=some u->b≠C->H' b=some u)/\CAt H' C kvs (evs st (xs.take j))
 refine jI I8
  ⟨_,_,_,_,rfl,λb u e _=>e,⟨hC2,λx r e=>by simp[evs,bY]at e,λx _=>rfl,Qh _⟩⟩ (λj σ' H' _ pv=>?_) (λj ky vl σ' H' hj pv=>?_) (λσ' H' pv=>?_)
 ·obtain⟨_,_,_,_,_,o2,_⟩:=pv;exact o2 F _ hF2 FC
 ·obtain⟨kvs,x4,x5,x6,rfl,o2,ca⟩:=pv;obtain⟨h,b,hx,hb,rfl,rfl⟩:=mJ hj;obtain⟨vs,hvs,pvs⟩:=sts2 j h b hx hb;have bC:b≠C:=λzz=>by rw[zz,hC2]at hvs;cases hvs
  have lvs:vs.length=(st h).length:=by have:=aQ pvs;unfold cg at this;rwa [Qc]at this
  have dg:cC H' F (kV (Sum.inr h)) (some (.ref b)):=.inl ⟨_,Sum.inr h,.inr ⟨ob,o2 F _ hF2 FC⟩,rfl,(db (fV nd) hj).symm⟩;have hjx:j<xs.length:=(Qe.mp hx).1;refine ax ?_;refine s_for (s_list (i_dget (ah rfl (ah rfl ⟨F,_,rfl,dg,b,rfl,⟨_,SqL.of (o2 _ _ hvs bC)⟩,?_⟩))));let I9:IvF:=λi σ' H'=>∃(kvs:List (Key × V)) (x5 x6:Option V),σ'=[some (.ref F),some (.str z),some (.str x),some (.ref C),some (.str h),x5,x6,none]/\(∀b u,H2 b=some u->b≠C->H' b=some u)/\CAt H' C kvs (evs st (xs.take j)++((st h).take i).map λp=>(p.2,(p.1,h)))
  refine e9 (xs:=vs) I9
   ⟨kvs,_,_,rfl,o2,by simpa using ca⟩ (λi σ' H' _ pv=>?_) (λi v σ' H' hv pv=>?_) (λσ' H' pv=>?_)
  ·obtain⟨_,_,_,_,o3,_⟩:=pv;exact SqL.of (o3 _ _ hvs bC)
  ·obtain⟨kvs,x5,x6,rfl,o3,ca3⟩:=pv;obtain⟨p,b2,hp,rfl,hb2⟩:=dP pvs hv;have hb3:H' b2=some (.tup [.str p.1,.str p.2]):=o3 _ _ hb2 (λzz=>by rw[zz,hC2]at hb2;cases hb2);have hi:i<vs.length:=(Qe.mp hv).1;refine⟨b2,_,rfl,SqT.of hb3,rfl,_,_,rfl,ax ⟨_,_,rfl,ax ⟨rfl,?_⟩⟩⟩;refine s_drop (vY (ah rfl ⟨C,rfl,.inl ⟨_,.inl ca3.hC⟩,ah rfl ?_⟩));refine i_tup (ao (ah rfl (ao (ah rfl (aG ⟨by simp[sizeLine],λt ht=>?_⟩)))))
   have hev:evs st (xs.take j)++((st h).take (i+1)).map (λp=>(p.2,(p.1,h)))=(evs st (xs.take j)++((st h).take i).map λp=>(p.2,(p.1,h)))++[(p.2,(p.1,h))]:=by
    rw[QO,hp,Qw,QZ];rfl
   have lk:=ca3.len
   have lev:(evs st (xs.take j)++((st h).take i).map λp=>(p.2,(p.1,h))).length<=7*2048+7:=by
    rw[Qj,Qc,Qv];have h1:=levs (xs.take j);have h2:=few h;rw[Qv]at h1;omega
   have St:aw H' (upd H' t (.tup [.str p.1,.str h])):=ap ht;have tC:t≠C:=oi ca3.hC ht;refine⟨kvs,Sum.inr p.2,St _ _ ca3.hC,rfl,λv hv=>?_,λhn=>⟨by omega,?_⟩⟩
   ·refine⟨kvs,_,_,rfl,λb u e n=>St _ _ (o3 b u e n),?_⟩;rw[hev]
    have hs:∃r,bY (evs st (xs.take j)++((st h).take i).map λp=>(p.2,(p.1,h))) p.2=some r:=by
     cases e:bY (evs st (xs.take j)++((st h).take i).map λp=>(p.2,(p.1,h))) p.2 with
     | some r=>exact⟨r,rfl⟩
     | none=>rw[ca3.none _ e]at hv;cases hv
    obtain⟨r0,hr0⟩:=hs;refine⟨St _ _ ca3.hC,λy r e=>?_,λy e=>?_,by rw[Qj];exact QP lk (Nat.le_add_right _ _)⟩
    ·rw[d9]at e
     cases c:bY (evs st (xs.take j)++((st h).take i).map λp=>(p.2,(p.1,h))) y with
     | some r' =>
      rw[c]at e;cases e;obtain⟨t',a1,a2⟩:=ca3.some y _ c;exact⟨t',a1,St _ _ a2⟩
     | none =>
     rw[c]at e;by_cases cy:p.2=y
     ·rw[<-cy,hr0]at c;cases c
     simp[cy]at e
    rw[d9]at e
    cases c:bY (evs st (xs.take j)++((st h).take i).map λp=>(p.2,(p.1,h))) y with
    | some r'=>rw[c]at e;cases e
    | none=>exact ca3.none y c
   have upd3:∀b u,upd H' t (.tup [.str p.1,.str h]) b=some u->b≠C->upd (upd H' t (.tup [.str p.1,.str h])) C (.dK (bN kvs (Sum.inr p.2) (.ref t))) b=some u:=λb u e n=>by rw[aq n];exact e
   refine⟨bN kvs (Sum.inr p.2) (.ref t),_,_,rfl,λb u e n=>upd3 _ _ (St _ _ (o3 b u e n)) n,?_⟩;rw[hev];refine⟨ag,λy r e=>?_,λy e=>?_,?_⟩
   ·rw[d9]at e
    cases c:bY (evs st (xs.take j)++((st h).take i).map λp=>(p.2,(p.1,h))) y with
    | some r' =>
     rw[c]at e;cases e;obtain⟨t',a1,a2⟩:=ca3.some y _ c;refine⟨t',?_,upd3 _ _ (St _ _ a2) (λzz=>by rw[zz,ca3.hC]at a2;cases a2)⟩;rw[eL,QA (λzz=>by rw[zz,hn]at a1;cases a1)];exact a1
    | none =>
    rw[c]at e;by_cases cy:p.2=y
    ·subst cy;simp at e;subst e;exact⟨t,by rw[eL,Qz rfl],upd3 _ _ ag tC⟩
    simp[cy]at e
   ·rw[d9]at e
    cases c:bY (evs st (xs.take j)++((st h).take i).map λp=>(p.2,(p.1,h))) y with
    | some r'=>rw[c]at e;cases e
    | none =>
    rw[c]at e;by_cases cy:p.2=y
    ·simp[cy]at e
    rw[eL,QA (λzz=>cy (Sum.inr.inj zz).symm)];exact ca3.none y c
   rw[dE _ hn,Qj,Qj];show kvs.length+1<=_+1;omega
  obtain⟨kvs,x5,x6,rfl,o3,ca3⟩:=pv;refine⟨kvs,_,_,_,rfl,o3,?_⟩;rw[lvs,Qs (Qh _)]at ca3
  have e:evs st (xs.take (j+1))=evs st (xs.take j)++(st h).map λp=>(p.2,(p.1,h)):=by
   unfold evs;rw[QO,hx,List.flatMap_append];simp
  rw[e];exact ca3
 obtain⟨kvs,x4,x5,x6,rfl,o2,ca⟩:=pv;refine⟨o2 F _ hF2 FC,?_⟩;rw[lfd,Qs (Qh _)]at ca;have hC3:back H1 F H' C=some (.dK kvs):=by rw[bu FC.symm];exact ca.hC
 have ca':CAt (back H1 F H') C kvs (evs st xs):=⟨hC3,λy r e=>by
  obtain⟨t,a1,a2⟩:=ca.some y r e;refine⟨t,a1,?_⟩;rw[bu (λzz=>by rw[zz,o2 F _ hF2 FC]at a2;cases a2)]
  exact a2,ca.none,ca.len⟩
 have S3:aw H (back H1 F H'):=λb u e=>by
  have nC:b≠C:=av e hC;by_cases cF:b=F
  ·subst cF;rw[dL];exact S1 _ _ e
  rw[bu cF];exact o2 b u (by rw[h2 b cF];exact S1 _ _ e) nC
 generalize back H1 F H'=H3 at *;walk_at "s";refine bE (i_lst (aG ⟨by simp[sizeLine],λN hN=>ax ?_⟩));generalize hE:upd H3 N _=H4;obtain⟨S4,q4⟩:=ay hN hE;clear hE;walk_at "s";refine bE (ah rfl (ax ?_));walk_at "s";let I10:IvF:=λm σ' H'=>∃(y:Str) (ys ms:List Str) (x5 x6:Option V),σ'=[some (.ref F),some (.str z),some (.str x),some (.ref C),some (.str y),x5,x6,some (.ref N)]/\m=ms.length/\(∀b u,H3 b=some u->H' b=some u)/\H' N=some (.lst (ys.map V.str))/\Path st xs z y ms/\ns=ms++ys.reverse;refine⟨I10,⟨_,x,[],ns,_,_,rfl,rfl,S4,q4,pth,by simp⟩,λm σ' H' pv=>?_⟩;obtain⟨y,ys,ms,x5,x6,rfl,rfl,o4,hN4,py,ens⟩:=pv;have lens:ns.length=ms.length+ys.length:=by rw[ens,Qj,List.length_reverse]
 refine i_test (a_ (ah rfl (ah rfl (i_ne rfl ⟨_,rfl,?_⟩))));by_cases cy:y=z
 ·subst cy;refine ifF (by rw[QU rfl];rfl) ?_;have e0:=py.start;subst e0;rw[List.nil_append]at ens;refine s_ret (yB (ao (ah rfl (aG ⟨N,_,rfl,SqL.of hN4,λp hp=>?_⟩))));have Sf:aw H (upd H' p (.lst (ys.map V.str).reverse)):=λb u e=>ap hp _ _ (o4 _ _ (S3 _ _ e))
  have p0:H p=none:=by
   cases e:H p with
   | none=>rfl
   | some u=>rw[o4 _ _ (S3 _ _ e)]at hp;cases hp
  exact k p _ Sf p0 (by rw[ag,ens,List.map_reverse])
 refine ifT (by rw[QI (λzz=>cy (V.str.inj zz))];rfl) ⟨_,λ_ _ h=>h,?_⟩
 cases py with
 | nil=>exact absurd rfl cy
 | @snoc _ h nm ms' _ cm ph =>
 obtain⟨t,a1,a2⟩:=ca'.some y _ cm
 have dgC:∀{H5:Hp},H5 C=some (.dK kvs)->cC H5 C (.str y) (some (.ref t)):=λ{H5} e=>by
  have:=cC.k (k:=Sum.inr y) e;rw[a1]at this;exact this
 have hCt:=o4 _ _ hC3;have ht:=o4 _ _ a2;have tN:t≠N:=λzz=>by rw[zz,hN]at a2;cases a2
 have CN:C≠N:=λzz=>by rw[zz,hN]at hC3;cases hC3
 rw[Qj]at lens;walk_at "s";refine s_drop (i_bm (ah rfl ⟨i_tyL hN4,ao (a_ (i_dget (ah rfl (ah rfl ⟨C,_,rfl,dgC hCt,i_c (bA ht rfl (aG (ou hN4 (by rw[Qc];simp at lens;omega) ?_)))⟩))))⟩));have hC5:upd H' N (.lst (ys.map V.str++[.str nm])) C=some (.dK kvs):=by rw[aq CN];exact hCt
 have ht5:upd H' N (.lst (ys.map V.str++[.str nm])) t=some (.tup [.str nm,.str h]):=by rw[aq tN];exact ht
 refine bE (a_ (i_dget (ah rfl (ah rfl ⟨C,_,rfl,dgC hC5,i_c (bA ht5 rfl (ax ?_))⟩))));refine⟨ms'.length,by rw[Qj];simp,h,ys++[nm],ms',_,_,rfl,rfl,λb u e=>?_,by rw[ag,Qw];rfl,ph,?_⟩
 ·rw[aq (λzz=>by rw[zz,hN]at e;cases e)];exact o4 _ _ e
 rw[ens,List.reverse_append];simp
end
theorem jC:∀{ks:List Key},(∀k∈ks,∃y:Str,k=Sum.inr y)->∃xs:List Str,ks=aC xs
 | [],_=>⟨[],rfl⟩
 | k::ks,h=>by
  obtain⟨y,rfl⟩:=h k (by simp);obtain⟨xs,rfl⟩:=jC λk hk=>h k (Qq _ hk);exact⟨y::xs,rfl⟩
theorem bL {k:Key}:(aC xs)[i]?=some k↔∃x,xs[i]?=some x/\k=Sum.inr x:=by
 unfold aC;rw[Qi]
 cases xs[i]? with
 | none=>simp
 | some x=>simp[eq_comm]
theorem kR:∀{xs ys:List Str},aC xs=aC ys->xs=ys
 | [],[],_=>rfl
 | [],y::ys,h=>by cases h
 | x::xs,[],h=>by cases h
 | x::xs,y::ys,h=>by
  unfold aC at h;rw[QC,QC]at h;injection h with h1 h2;rw[Sum.inr.inj h1,kR (xs:=xs) (ys:=ys) h2]
structure Met (ins:List Str) (gs:List (Str × Rl)) (z:Str) (xs:List Str):Prop where
 bfs:aC xs=Bf.bfs (nxK (stN ins gs)) (Sum.inr z) xs.length
 st:∀x∈xs,StOk (aj ins gs).length x
theorem mt {h:Str} {k:Key}:k∈nxK (stN ins gs) (Sum.inr h)↔∃p∈az ins gs h,k=Sum.inr p.2:=by
 unfold nxK stN cg;rw[QW]
 constructor
 ·intro q;obtain⟨p,hp,e⟩:=Qo.mp q;exact⟨p,hp,e.symm⟩
 rintro⟨p,hp,rfl⟩;exact Qo.mpr ⟨p,hp,rfl⟩
variable {ins:List Str} {gs:List (Str × Rl)} {z:Str} {xs:List Str}
section
theorem Met.len (m:Met ins gs z xs):(Bf.bfs (nxK (stN ins gs)) (Sum.inr z) xs.length).length=xs.length:=by rw[<-m.bfs];unfold aC;rw[Qc]
theorem Met.nd (m:Met ins gs z xs):xs.Nodup:=by
 have:=Bf.bx (nx:=nxK (stN ins gs)) (s:=(Sum.inr z:Key)) xs.length;rw[<-m.bfs]at this;unfold aC at this;exact(List.pairwise_map.mp this).imp λh e=>h (by rw[e])
theorem Met.zero (m:Met ins gs z xs):xs[0]?=some z:=by
 have:=Bf.oK (nx:=nxK (stN ins gs)) (s:=(Sum.inr z:Key)) xs.length;rw[<-m.bfs]at this;obtain⟨x,h1,h2⟩:=bL.mp this;cases h2;exact h1
theorem Met.pred (m:Met ins gs z xs) {j:Nat} {x:Str} (hj:0<j) (e:xs[j]?=some x):∃i h p,i<j/\xs[i]?=some h/\p∈az ins gs h/\p.2=x:=by
 obtain⟨i,k,h1,_,h3,h4⟩:=Bf.gJ (nx:=nxK (stN ins gs)) (s:=(Sum.inr z:Key)) xs.length j (Sum.inr x) hj (by rw[<-m.bfs];exact bL.mpr ⟨x,e,rfl⟩);rw[<-m.bfs]at h3;obtain⟨h,e1,rfl⟩:=bL.mp h3;obtain⟨p,hp,e2⟩:=mt.mp h4;exact⟨i,h,p,h1,e1,hp,(Sum.inr.inj e2).symm⟩
theorem Met.closed (m:Met ins gs z xs) {h:Str} (hh:h∈xs) {p:Str × Str} (hp:p∈az ins gs h):p.2∈xs:=by
 obtain⟨i,hi,e⟩:=Qr.mp hh;have:=Bf.f9 (nx:=nxK (stN ins gs)) (s:=(Sum.inr z:Key)) (n:=xs.length) (i:=i) hi (by rw[<-m.bfs];exact bL.mpr ⟨h,by rw[Qb hi,e],rfl⟩) (Sum.inr p.2) (mt.mpr ⟨p,hp,rfl⟩);rw[<-m.bfs]at this;unfold aC at this;obtain⟨y,hy,e⟩:=Qo.mp this;cases e;exact hy
theorem Met.one {ys:List Str} (m:Met ins gs z xs) (m':Met ins gs z ys):xs=ys:=by
 have e:=Bf.v9 m.len m'.len;have h:=m.bfs;rw[e,<-m'.bfs]at h;exact kR h
theorem f7 {st:Str->List (Str × Str)}:∀{xs:List Str} {i:Nat} {h:Str} {p:Str × Str},xs[i]?=some h->p∈st h->∃i' h' nm,i'<=i/\xs[i']?=some h'/\bY (evs st xs) p.2=some (nm,h')
 | [],_,_,_,e,_=>by simp at e
 | x0::xs,i,h,p,e,hp=>by
  have split:evs st (x0::xs)=((st x0).map λp=>(p.2,(p.1,x0)))++evs st xs:=rfl
  cases q:((st x0).map λp=>(p.2,(p.1,x0))).find? λe=>e.1==p.2 with
  | some r =>
   have hm:=List.mem_of_find?_eq_some q;obtain⟨p',_,rfl⟩:=Qo.mp hm;refine⟨0,x0,p'.1,QM _,rfl,?_⟩;unfold bY;rw[split,List.find?_append,q];rfl
  | none =>
  cases i with
  | zero =>
   simp at e;subst e;have:=List.find?_eq_none.mp q (p.2,(p.1,x0)) (Qo.mpr ⟨p,hp,rfl⟩);simp at this
  | succ i =>
  obtain⟨i',h',nm,a,b,c⟩:=f7 (xs:=xs) (i:=i) (by simpa using e) hp;refine⟨i'+1,h',nm,by omega,by simpa using b,?_⟩;unfold bY at c ⊢;rw[split,List.find?_append,q,Option.none_or];exact c
theorem Met.path (m:Met ins gs z xs):∀(j:Nat) (x:Str),xs[j]?=some x->∃ns,Path (az ins gs) xs z x ns/\ns.length<=j:=by
 intro j
 induction j using Nat.strongRecOn with
 | _ j ih =>
 intro x e;by_cases hj:j=0
 ·subst hj;rw[m.zero]at e;cases e;exact⟨[],.nil,Qh _⟩
 obtain⟨i,h,p,h1,h2,h3,rfl⟩:=m.pred (by omega) e;obtain⟨i',h',nm,a,b,c⟩:=f7 h2 h3;obtain⟨ns,pn,ln⟩:=ih i' (by omega) h' b;refine⟨ns++[nm],.snoc (λq=>?_) c pn,by rw[Qj];simp;omega⟩;rw[q]at e;have e0:=m.zero;have hl:=(Qe.mp e).1;have:=(List.getElem?_inj (i:=0) (j:=j) (by omega) m.nd).mp (by rw[e0,e]);omega
end
def dM (ins:List Str) (gs:List (Str × Rl)) (z:Str) (r:Option (List Str × Str × Str)):Prop:=∃xs,Met ins gs z xs/\match r with
 | none=>∀h∈xs,(bR ins gs h).head?=none
 | some (ns,c,b)=>∃(j:Nat) (h:Str),xs[j]?=some h/\(∀j'<j,∀h',xs[j']?=some h'->(bR ins gs h').head?=none)/\(bR ins gs h).head?=some (c,b)/\Path (az ins gs) xs z h ns
theorem dM.one {r r':Option (List Str × Str × Str)} (a:dM ins gs z r) (b:dM ins gs z r'):r=r':=by
 obtain⟨xs,m,a⟩:=a;obtain⟨ys,m',b⟩:=b;have e:=m.one m';subst e
 match r,r',a,b with
 | none,none,_,_=>rfl
 | none,some (ns,c,d),a,⟨j,h,e,_,q,_⟩=>rw[a h (Qg e)]at q;cases q
 | some (ns,c,d),none,⟨j,h,e,_,q,_⟩,b=>rw[b h (Qg e)]at q;cases q
 | some (ns,c,d),some (ns',c',d'),⟨j,h,e,f,q,p⟩,⟨j',h',e',f',q',p'⟩ =>
  have hj:j=j':=by
   rcases Nat.lt_trichotomy j j' with l|l|l
   ·rw[f' j l h e]at q;cases q
   ·exact l
   rw[f j' l h' e']at q';cases q'
  subst hj;rw[e]at e';cases e';rw[q]at q';cases q';rw[p.det p']
def xr (H H':Hp):Option (List Str × Str × Str)->V->Prop
 | none,v=>v=.non
 | some (ns,c,b),v=>∃t l,v=.ref t/\H t=none/\H l=none/\H' t=some (.tup [.ref l,.str c,.str b])/\H' l=some (.lst (ns.map V.str))
def lL (TL:Addr):Sp:=λvs H Q _=>∃a li lg ins gvs gs z,vs=[.ref a,.str z]/\NAt H a li lg ins gvs gs/\NetOk ins gs/\StOk (aj ins gs).length z/\cS TL cH H /\
 ∀r v H',Tk TL H H'->dM ins gs z r->xr H H' r v->Q v H'
section
theorem ke:FnScope ["net", "standing", "found", "here", "pair"] ["net", "standing"] (au (top 23)):=by walk_at "k"
theorem vM {TL:Addr} {f:Addr} {fd:FuncData} (Fu:Fun K "first_race" "first_race" (top 23) f fd) (T:Txt K mg TT) (f_check_standing:Fn P w K mg base "check_standing" ["net", "thing"] 3 (iY .non)) (f_steps_found:Fn P w K mg base "steps_found" ["net", "standing"] 15 (fo TL)) (f_first_calmed:Fn P w K mg base "first_calmed" ["steps", "here", "inputs"] 2 lP) (f_order_to:Fn P w K mg base "order_to" ["found", "start", "other"] 1 tE) :
  FnOk P w K mg base CX0 16 f fd ["net", "standing"] (lL TL):=by
 have S:=ke;refine Fu.ok S (by walk_at "l") (λcdv A outer s H vs Q E hr h=>?_);obtain⟨a,li,lg,ins,gvs,gs,z,rfl,NA,ok,st,tb,k⟩:=h;have hu:=eI hr;refine'⟨?_,?bb,?_⟩
 case bb =>
  walk_at "b";exact(cO (aF f_check_standing hr (ad (pv 0) (ad (pv 1) af ae) ae)));exact aO 2 S.nd (aF f_steps_found hr (ad (pv 0) (ad (pv 1) af ae) ae));refine' pp ?_;rotate_left 1;walk_at "f";exact(gx (pv 2));exact(cK 3 S.nd);walk_at "p";exact aO 4 S.nd (aF f_first_calmed hr (ad (pv 2) (ad (pv 3) (ad (aD aH (pv 0) ak) af) ae) ae));exact(aL mj (pv 4) bU rfl);exact(aB (be (ad (aF f_order_to hr (ad (pv 2) (ad (pv 1) (ad (pv 3) af ae) ae) ae)) (ad (aD aH (pv 4) ak) (ad (aD aH (pv 4) ak) af)) aS)));exact(aB bU)
 walk_at "e";walk_at "w";refine⟨a,li,lg,ins,gvs,gs,z,rfl,NA,ok,st,λH0 S0=>?_⟩;have NA0:=NA.same S0;have tb0:=fi tb S0;walk_at "w";refine⟨a,li,lg,ins,gvs,gs,z,rfl,NA0,ok,st,tb0,λF as n H1 t1 hF0 ln las hF1 sts=>?_⟩;have w11:(aj ins gs).length<=11:=by rw[aP];have:=ok.i4;have:=ok.g7;omega
 obtain⟨xs,exs⟩:=jC (ks:=Bf.bfs (nxK (stN ins gs)) (Sum.inr z) n) λk hk=>by
  obtain⟨y,e,_⟩:=cZ st (Bf.bw n k hk);exact⟨y,e⟩
 have lxs:xs.length=n:=by rw[<-ln,exs];unfold aC;rw[Qc]
 have met:Met ins gs z xs:=⟨by rw[lxs];exact exs.symm,λx hx=>by
  obtain⟨y,e,sy⟩:=cZ st (Bf.bw n (Sum.inr x) (by rw[exs];exact Qo.mpr ⟨x,hx,rfl⟩));cases e
  exact sy⟩
 have few:xs.length<=2048:=by
  have:=eZ w11 (xs:=aC xs) (by rw[<-exs];exact Bf.bx n) λx hx=>by
   obtain⟨y,hy,rfl⟩:=Qo.mp hx;exact⟨y,rfl,met.st y hy⟩
  unfold aC at this;rwa [Qc]at this
 rw[exs]at hF1 sts;have sts:∀(i:Nat) h b,xs[i]?=some h->as[i]?=some b->a9 H1 b (cg (az ins gs h)):=λi h b e1 e2=>sts i (Sum.inr h) b (bL.mpr ⟨h,e1,rfl⟩) e2;have NA1:NAt H1 a li lg ins gvs gs:=NA0.mono (t1.lst tb0) (t1.tup tb0);walk_at "s";walk_at "s";refine tJ (a:=F) (u:=.dK (fdK (aC xs) as)) (.inl hF1) trivial λob=>?_;have h2:∀b,b≠F->upd H1 F (.frz ob (.dK (fdK (aC xs) as))) b=H1 b:=λb n=>aq n;have hF2:upd H1 F (.frz ob (.dK (fdK (aC xs) as))) F=some (.frz ob (.dK (fdK (aC xs) as))):=ag;generalize upd H1 F (.frz ob (.dK (fdK (aC xs) as)))=H2 at *;have l2:∀b ys,H1 b=some (.lst ys)->H2 b=some (.lst ys):=λb ys e=>by rw[h2 b (λzz=>by rw[zz,hF1]at e;cases e)];exact e
 have t2:∀b ys,H1 b=some (.tup ys)->H2 b=some (.tup ys):=λb ys e=>by rw[h2 b (λzz=>by rw[zz,hF1]at e;cases e)];exact e
 have NA2:=NA1.mono l2 t2
 have sts2:∀(i:Nat) h b,xs[i]?=some h->as[i]?=some b->a9 H2 b (cg (az ins gs h)):=λi h b e1 e2=>by
  obtain⟨vs,v1,v2⟩:=sts i h b e1 e2;exact⟨vs,l2 _ _ v1,bd (λv s ⟨b,e,q⟩=>⟨b,e,t2 _ _ q⟩) v2⟩
 have fa:FAt H2 F ins gs (λy=>y∈xs):=λy hy=>by
  obtain⟨i,hi,e⟩:=Qr.mp hy;have e1:xs[i]?=some y:=by rw[Qb hi,e]
  have hia:i<as.length:=by omega
  have hk:(fdK (aC xs) as)[i]?=some (Sum.inr y,.ref as[i]):=by
   have hz:((aC xs).zip as)[i]?=some (Sum.inr y,as[i]):=List.getElem?_zip_eq_some.mpr ⟨bL.mpr ⟨y,e1,rfl⟩,Qb hia⟩;unfold fdK;rw[Qi,hz];rfl
  exact⟨as[i],.inl ⟨_,Sum.inr y,.inr ⟨ob,hF2⟩,rfl,(db (fV met.nd) hk).symm⟩,sts2 i y _ e1 (Qb hia)⟩
 have F0:H F=none:=by
  cases e:H F with
  | none=>rfl
  | some u=>rw[S0 _ _ e]at hF0;cases hF0
 have t01:Tk TL H H1:=(Tk.of tb S0).trans t1
 have fin:∀H',aw H2 H'->Tk TL H (back H1 F H'):=λH' S'=>by
  have bk:∀{b u},H1 b=some u->back H1 F H' b=some u:=λ{b u} e=>by
   by_cases c:b=F
   ·subst c;rw[dL];exact e
   rw[bu c];exact S' b u (by rw[h2 b c];exact e)
  refine⟨λb u e n=>bk (t01.old b u e n),?_⟩;rcases t01.tab with e|⟨c,e,q⟩
  ·exact .inl (bk e)
  exact .inr ⟨c,bk e,bk q⟩
 have free2:∀{b:Addr},H2 b=none->H b=none:=λ{b} e=>by
  cases eb:H b with
  | none=>rfl
  | some u =>
  exfalso;by_cases c:b=TL
  ·obtain⟨ps,e2⟩:=vo t01.tab;have:b≠F:=λzz=>by rw[zz,F0]at eb;cases eb
   rw[h2 b this,c,e2]at e;cases e
  have:b≠F:=λzz=>by rw[zz,F0]at eb;cases eb
  rw[h2 b this,t01.old _ _ eb c]at e;cases e
 have lfd:(fdK (aC xs) as).length=xs.length:=by rw[mL (by unfold aC;rw[Qc];omega)];omega
 refine s_for (iK (ah rfl ⟨F,ob,_,rfl,hF2,?_⟩));let I11:IvF:=λj σ' H'=>(∃x3 x4:Option V,σ'=[some (.ref a),some (.str z),some (.ref F),x3,x4])/\aw H2 H'/\∀j'<j,∀h,xs[j']?=some h->(bR ins gs h).head?=none;refine jI I11 ⟨⟨_,_,rfl⟩,aw.refl _,λj' h=>absurd h (Nat.not_lt_zero _)⟩ (λj σ' H' _ pv=>pv.2.1 _ _ hF2) (λj ky vl σ' H' hj pv=>?_) (λσ' H' pv=>?_)
 ·obtain⟨⟨x3,x4,rfl⟩,S',no⟩:=pv;obtain⟨h,b,hx,hb,rfl,rfl⟩:=mJ hj;have NA':=NA2.same S';have ha':=NA'.ha;have hm:=Qg hx;refine ax ?_;walk_at "w";refine⟨F,li,ins,gs,_,h,rfl,fa.same S',hm,λy hy p hp=>met.closed hy hp,NA'.hi,ok,λv H3 S3 cv=>?_⟩;have S23:=S'.trans S3;walk_at "s"
  cases hc:(bR ins gs h).head? with
  | none =>
   rw[hc]at cv;have cv:v=.non:=cv;subst cv;walk_at "w";refine⟨rfl,_,rfl,?_⟩;refine ifF rfl ?_;walk_at "w";refine⟨⟨_,_,rfl⟩,S23,λj' hj' h' e=>?_⟩;by_cases c:j'<j
   ·exact no j' c h' e
   have:j'=j:=by omega
   subst this;rw[hx]at e;cases e;exact hc
  | some p =>
  rw[hc]at cv;obtain⟨t,rfl,ht⟩:=cv;obtain⟨ns,pth,lns⟩:=met.path j h hx;have hjx:=(Qe.mp hx).1;walk_at "w";refine⟨rfl,_,rfl,?_⟩;refine ifT (by rw[QI (λz=>nomatch z)];rfl) ?_;refine s_ret (i_tup (ao (aW (ao (ah rfl (ao (ah rfl (ao (ah rfl (aG ?_)))))))))) ;refine⟨F,as,az ins gs,xs,z,h,ns,rfl,.inr ⟨ob,S23 _ _ hF2⟩,by omega,few,met.nd,λh=>QP (dQ ins gs h) ok.g7,λi h' b' e1 e2=>(sts2 i h' b' e1 e2).same S23,pth,by omega,λl H4 S4 hl0 hl4=>?_⟩;have ht4:=S4 _ _ ht;refine ao (a_ (ah rfl (i_c (bA ht4 rfl (ao (a_ (ah rfl (i_c (bA ht4 rfl (aG ⟨by simp[sizeLine],λt' ht'=>?_⟩))))))))));have S24:=S23.trans S4;generalize hE:upd H4 t' _=H5;obtain⟨S5,q5⟩:=ay ht' hE;clear hE;have S25:=S24.trans S5
  have nl:H2 l=none:=by
   cases e:H2 l with
   | none=>rfl
   | some u=>rw[S23 _ _ e]at hl0;cases hl0
  have nt:H2 t'=none:=by
   cases e:H2 t' with
   | none=>rfl
   | some u=>rw[S24 _ _ e]at ht';cases ht'
  have lF:l≠F:=λzz=>by rw[zz,hF2]at nl;cases nl
  have tF:t'≠F:=λzz=>by rw[zz,hF2]at nt;cases nt
  refine⟨S25 _ _ hF2,k (some (ns,p.1,p.2)) _ _ (fin _ S25) ⟨xs,met,j,h,hx,no,hc,pth⟩ ⟨t',l,rfl,free2 nt,free2 nl,by rw[bu tF];exact q5,by rw[bu lF];exact S5 _ _ hl4⟩⟩
 obtain⟨⟨x3,x4,rfl⟩,S',no⟩:=pv;rw[lfd]at no;refine⟨S' _ _ hF2,?_⟩;walk_at "w";refine k none _ _ (fin _ S') ⟨xs,met,λh hh=>?_⟩ rfl;obtain⟨i,hi,e⟩:=Qr.mp hh;exact no i hi h (by rw[Qb hi,e])
end
def o8 (K:PySem.W.Frag):Sp:=λvs H Q _=>∃(s:Addr) (ns:List Int) (k:Nat),vs=[.ref s,.int (k:Int)]/\SqL K H s (ns.map V.int)/\k<=100/\∀(c:Int),Q (.int c) H
def lH:Sp:=λvs H Q _=>∃(c:Int),vs=[.int c]/\∀D H',aw H H'->H D.d=none->Dk.At D H'->Q (.ref D.d) H'
theorem dW {α:Type}:∀(l:List α) (i:Nat) (h:i<l.length),(l[i]::l.eraseIdx i).Perm l
 | a::l,0,_=>List.Perm.refl _
 | a::l,i+1,h=>by
  have ih:=dW l i (by simpa using h);rw[List.getElem_cons_succ,List.eraseIdx_cons_succ];exact(List.Perm.swap _ _ _).trans (List.Perm.cons _ ih)
theorem gL {ws:List Str} {r:Int} (h0:0<=r) (h1:r<ws.length):∃n∈ws,atI (ws.map V.str) r=some (.str n):=by
 have hr:r.toNat<ws.length:=by omega
 refine⟨ws[r.toNat],Xj hr,?_⟩;have e:r=((r.toNat:Nat):Int):=by omega
 have q:=dj (xs:=ws.map V.str) (j:=r.toNat) (v:=.str ws[r.toNat]) (by rw[Qi,Qb hr];rfl);rw[<-e]at q;exact q
def xq:List Str:=["a", "b", "c", "ab", "ba", "hold", "set", "x", "zzzzzzzz", "aa", "wire", "not", "and", "or", "q"]
def lI:Sp:=λvs H Q _=>∃(D:Dk) (m:Nat),vs=[.ref D.d,.int (m:Int)]/\D.At H/\1<=m/\m<=12/\∀l (ns:List Str) H',ns.length=m->H l=none->H' l=some (.lst (ns.map V.str))->Kp D H H'->ns.Nodup->(∀x∈ns,x∈xq)->Q (.ref l) H'
section
theorem nJ:FnScope ["script", "k"] ["script", "k"] (au (top 29)):=by walk_at "k"
variable {fd:FuncData} {f:Addr}
theorem vR (Fu:Fun K "_law_cell" "_law_cell" (top 29) f fd) (T:Txt K mg TT):FnOk P w K mg base CX0 1 f fd ["script", "k"] (o8 K):=by
 have S:=nJ;refine Fu.ok S (by walk_at "l") (λcdv A outer s H vs Q E hr h=>?_);obtain⟨s,ns,k,rfl,hS,k100,q⟩:=h
 refine⟨_,(pss_cons (ps_if (aL kL (pv 1) (aK aN (by rfl) T.n_len Q7 (ad (pv 0) af ae)) (aZ _)) (aI (aB (aD bo (pv 0) (pv 1)))) pss_nil)
  (aI (aB (a8 cu (a8 cu (a8 eX (a8 eX ak (pv 1)) (pv 1)) (a8 eX ak (pv 1))) ak)))),?_⟩
 walk_at "e";walk_at "w";refine⟨_,_,rfl,Or.inl hS,?_⟩;walk_at "w";rw[Qc];by_cases c:k<ns.length
 ·refine ifT (QU (by omega)) ?_;walk_at "w";refine i_ixL (v:=.int ns[k]) hS (dj (by rw[Qi,Qb c];rfl)) ?_;exact q _
 refine ifF (QI (by omega)) ?_;walk_at "w"
 first
 | exact q _
 | (refine i_rI (.inl ⟨by omega,by omega⟩) ?_;walk_at "w";exact q _)
theorem lW:FnScope ["cell", "great"] ["cell"] (au (top 30)):=by walk_at "k"
theorem um (Fu:Fun K "_law_store" "_law_store" (top 30) f fd) (T:Txt K mg TT):FnOk P w K mg base CX0 1 f fd ["cell"] lH:=by
 have S:=lW;refine Fu.ok S (by walk_at "l") (λcdv A outer s H vs Q E hr h=>?_);obtain⟨c,rfl,q⟩:=h
 refine⟨_,(pss_cons (l_ (i:=1) S.nd rfl (by walk_at "z") ak)
  (pss_cons (ps_if (aL za (pv 0) (a8 xY ak ak) (aZ _)) (aI (aO 1 S.nd (pv 0))) pss_nil)
  (aI (aB (pe_lst (ad (pv 1) (ad (a8 dY (pv 0) ak) (ad ak af aA)) ae)))))),?_⟩
 walk_at "e"
 have last:∀g:Int,xy (xB (cE (eN 1) (cE (tOp (rI (λx j=>0<j) λi j=>V.int (i % j)) (eN 0) (tC (V.int 2147483629))) (cE (tC (V.int 1)) lC)))) { nx:=λ_ H'=>Q .non H',rt:=Q } [some (.int c),some (.int g)] H:=λg=>by
  walk_at "w";refine⟨by simp[sizeLine],λp hp=>?_⟩;exact q ⟨p⟩ _ (ap hp) hp ⟨_,_,_,ag⟩
 walk_at "w"
 first|refine i_rI ⟨by decide,by decide,by decide⟩ ?_|skip
 walk_at "w";refine ki (λ_=>?_) (λ_=>?_)
 ·refine bE (ah rfl (ax ?_));exact last _
 exact last _
theorem nE:FnScope ["store", "many", "told", "one"] ["store", "many"] (au (top 31)):=by walk_at "k"
theorem vL (Fu:Fun K "_law_take" "_law_take" (top 31) f fd) (T:Txt K mg TT):FnOk P w K mg base CX0 1 f fd ["store", "many"] dR:=by
 have S:=nE;refine Fu.ok S (by walk_at "l") (λcdv A outer s H vs Q E hr h=>?_);obtain⟨D,m,rfl,DA,h1,h2,k⟩:=h
 refine⟨_,(pss_cons (ps_if (aL qE (aD bo (pv 0) ak) ak (aZ _)) (pss_cons (aO 2 S.nd (a8 dY (aD bo (pv 0) ak) (pv 1)))
  (pss_cons (pq (a8 qF (aD bo (pv 0) ak) (pv 1)) (tW (pv 0) ak nw))
  (aI (aB (pv 2))))) pss_nil)
  (pss_cons (pq (a8 cu (aD bo (pv 0) ak) ak) (tW (pv 0) ak nw))
  (pss_cons (aO 3 S.nd (a8 dY (a8 eX (a8 cu (aD bo (pv 0) ak) (a8 eX ak (aD bo (pv 0) ak))) ak) ak))
  (pss_cons (aO 3 S.nd (a8 dY (a8 eX (pv 3) (pv 3)) ak))
  (pss_cons (aO 3 S.nd (a8 dY (a8 eX (a8 cu (pv 3) (a8 eX ak (aD bo (pv 0) ak))) ak) ak))
  (aI (aB (a8 dY (a8 qF (pv 3) ak) (pv 1))))))))),?_⟩
 walk_at "e";obtain⟨a,b,c,hd⟩:=id DA;walk_at "w";refine ki (λ_=>?_) (λ_=>?_)
 ·walk_at "w"
  first|refine i_rI (show (0:Int)<m by omega) ?_|skip
  walk_at "w"
  first|refine i_rI ⟨by omega,by omega⟩ ?_|skip
  walk_at "w";exact k _ _ (Int.emod_nonneg _ (by omega)) (Int.emod_lt_of_pos _ (by omega)) xh
 walk_at "w";have hd2:upd H D.d (HO.lst ([V.int a,V.int b,V.int c].set (Int.toNat 2) (V.int (c+1)))) D.d=some (.lst [.int a,.int b,.int (c+1)]):=ag;have kp:Kp D H (upd H D.d (HO.lst ([V.int a,V.int b,V.int c].set (Int.toNat 2) (V.int (c+1))))):=xh;generalize upd H D.d (HO.lst ([V.int a,V.int b,V.int c].set (Int.toNat 2) (V.int (c+1))))=H1 at *;walk_at "w";refine i_rI (show (0:Int)<m by omega) ?_;exact k _ _ (Int.emod_nonneg _ (by omega)) (Int.emod_lt_of_pos _ (by omega)) kp
theorem lZ:FnScope ["store", "many", "spare"] ["store", "many"] (au (top 32)):=by walk_at "k"
theorem uq (Fu:Fun K "_law_names" "_law_names" (top 32) f fd) (T:Txt K mg TT) (f_law_take:Fn P w K mg base "_law_take" ["store", "many"] 1 dR):FnOk P w K mg base CX0 2 f fd ["store", "many"] lI:=by
 have S:=lZ;refine Fu.ok S (by walk_at "l") (λcdv A outer s H vs Q E hr h=>?_);obtain⟨D,m,rfl,DA,m1,m12,k⟩:=h;refine'⟨?_,?bb,?_⟩
 case bb =>
  walk_at "b";refine' l_ (i:=2) ?n ?r ?l ?e ?s ?f
  case n=>exact S.nd
  case r=>rfl
  case l=>walk_at "z"
  case s=>rfl
  case f=>walk_at "z"
  case e =>
   with_reducible refine' pe_lst ?a3
   case a3 =>
    with_reducible refine' ad ?e4 ?s4 aA
    case e4 =>
     exact aE
    case s4 =>
     with_reducible refine' ad ?e6 ?s6 aA
     case e6 =>
      exact aE
     case s6 =>
      with_reducible refine' ad ?e8 ?s8 aA
      case e8 =>
       exact aE
      case s8 =>
       with_reducible refine' ad ?e10 ?s10 aA
       case e10 =>
        exact aE
       case s10 =>
        with_reducible refine' ad ?e12 ?s12 aA
        case e12 =>
         exact aE
        case s12 =>
         with_reducible refine' ad ?e14 ?s14 aA
         case e14 =>
          exact aE
         case s14 =>
          with_reducible refine' ad ?e16 ?s16 aA
          case e16 =>
           exact aE
          case s16 =>
           with_reducible refine' ad ?e18 ?s18 aA
           case e18 =>
            exact aE
           case s18 =>
            with_reducible refine' ad ?e20 ?s20 aA
            case e20 =>
             exact aE
            case s20 =>
             with_reducible refine' ad ?e22 ?s22 aA
             case e22 =>
              exact aE
             case s22 =>
              with_reducible refine' ad ?e24 ?s24 aA
              case e24 =>
               exact aE
              case s24 =>
               with_reducible refine' ad ?e26 ?s26 aA
               case e26 =>
                exact aE
               case s26 =>
                with_reducible refine' ad ?e28 ?s28 aA
                case e28 =>
                 exact aE
                case s28 =>
                 with_reducible refine' ad ?e30 ?s30 aA
                 case e30 =>
                  exact aE
                 case s30 =>
                  with_reducible refine' ad ?e32 ?s32 aA
                  case e32 =>
                   exact aE
                  case s32 =>
                   exact af
  exact(aB (c7 "k" [("spare", 2),("store", 0)] (fA (by rfl) T.n_range (ad (pv 1) af ae)) (λ_ _ _ _=>(xV (K:=K) rfl Xs PySem.F.slot_list_pop PySem.F.type_list_pop js (pv 1) (ad (aF f_law_take hr (ad (pv 2) (ad (aK (ku (K:=K) rfl) (by rfl) T.n_len Q7 (ad (pv 1) af ae)) af aS) ae)) af aS)))))
 walk_at "e";walk_at "w";refine⟨by simp[sizeLine],λp hp=>?_⟩;generalize hE:upd H p _=H1;obtain⟨S1,q1⟩:=ay hp hE;clear hE;have q1':H1 p=some (.lst ((["a", "b", "c", "ab", "ba", "hold", "set", "x", "zzzzzzzz", "aa", "wire", "not", "and", "or", "q"]:List Str).map V.str)):=q1;have kp1:Kp D H H1:=Kp.of DA S1;walk_at "w";refine i_comp ?_;walk_at "w";refine⟨by omega,by omega,λL hL=>?_⟩;rw[Xu];have HL:H L=none:=kp1.free hL;have npL:p≠L:=av q1 hL;let I12:IvC:=λn H' ys=>Kp D H H'/\H' L=some (.lst ys)/\∃zs sp:List Str,ys=zs.map V.str/\zs.length=n/\H' p=some (.lst (sp.map V.str))/\sp.length+n=15/\(zs++sp).Nodup/\∀x∈zs++sp,x∈xq;refine jO (n:=m) I12 ⟨Kp.fresh DA HL kp1,ag,[],_,rfl,rfl,by rw[aq npL];exact q1',rfl,by decide +kernel,λx hx=>hx⟩ (λi H' ys pv=>pv.2.1) (λi H' ys hi pv=>?_) (λH' ys pv=>?_)
 ·obtain⟨kp,hl,zs,sp,rfl,hz,hsp,ls,nd,sub⟩:=pv;refine ax ⟨by repeat' (first|exact trivial|refine⟨rfl,?_⟩),i_yes (bV ?_)⟩;refine i_bm (ah rfl ?_);refine⟨i_tyL hsp,?_⟩;walk_at "w";refine⟨D,_,rfl,kp.dk,by rw[Qc];omega,by rw[Qc];omega,λr H2 r0 r1 k2=>?_⟩;rw[Qc]at r1;have hsp2:=k2.strs kp.dk hsp;have hl2:=k2.strs kp.dk hl;have kp2:=kp.trans k2;have hjl:r.toNat<sp.length:=by omega
  have ez:sp[r.toNat]?=some sp[r.toNat]:=Qb hjl;refine aG ?_;refine⟨p,sp.map V.str,r,r.toNat,.str sp[r.toNat],rfl,rfl,hsp2,by omega,by omega,?_,by rw[Qi,ez];rfl,?_⟩
  ·have:ixN (sp.map V.str).length r=some r.toNat:=by unfold ixN;rw[Qz r0,Qc,Qz r1]
   exact(gD this).1
  rw[fD]
  have pm:((zs++[sp[r.toNat]])++sp.eraseIdx r.toNat).Perm (zs++sp):=by
   rw[QZ];exact Xx _ (dW sp r.toNat hjl)
  have le:(sp.eraseIdx r.toNat).length=sp.length-1:=by rw[List.length_eraseIdx,Qz hjl]
  refine bM.mk (by rw[aq npL.symm];exact hl2) hi (by rw[Qc];omega) ⟨Kp.fresh DA HL (Kp.fresh DA hp kp2),ag,zs++[sp[r.toNat]],sp.eraseIdx r.toNat,by rw[Qw];rfl,by rw[Qj,hz];rfl,by rw[aq npL,ag],by omega,?_,λx hx=>?_⟩
  ·exact pm.nodup_iff.mpr nd
  exact sub x (pm.mem_iff.mp hx)
 obtain⟨kp,hl,zs,sp,rfl,hz,_,_,nd,sub⟩:=pv;exact k L zs H' hz (kp1.free hL) hl kp (List.nodup_append.mp nd).1 (λx hx=>sub x (List.mem_append_left _ hx))
end
def iF (d:Nat):Sp:=λvs H Q _=>∃(D:Dk) (l:Addr) (ns:List Str) (m:Nat),vs=[.ref D.d,.ref l,.int (m:Int)]/\D.At H/\H l=some (.lst (ns.map V.str))/\1<=ns.length/\ns.length<=1000/\1<=m/\m<=d/\∀b r H',Kp D H H'->RAt H' (.ref b) r->r.ok ns->r.dep<=m->Q (.ref b) H'
def iZ:Sp:=λvs H Q _=>∃v1 v2 v3 r1 r2 r3,vs=[v1,v2,v3]/\RAt H v1 r1/\RAt H v2 r2/\RAt H v3 r3/\∀b H',aw H H'->RAt H' (.ref b) (.orr (.an r1 r2) (.an r3 (.orr r1 r2)))->Q (.ref b) H'
def iX:Sp:=λvs H Q _=>∃(kd:Int) (l:Addr) (ns:List Str) (a i m:Nat),vs=[.int kd,.ref l,.int (a:Int),.int (i:Int)]/\H l=some (.lst (ns.map V.str))/\ns.length=i+m/\a<m/\m<=100/\i<=100/\∀b r H',aw H H'->RAt H' (.ref b) r->r.ok ns->r.dep<=6->Q (.ref b) H'
theorem v_ {ws:List Str} (h:1<=ws.length):∃n∈ws,atI (ws.map V.str) (-1)=some (.str n):=by
 have hl:ws.length-1<ws.length:=by omega
 refine⟨ws[ws.length-1],Xj hl,?_⟩;unfold atI ixN;rw[QA (by decide),Qc,Qz (by omega)];show (ws.map V.str)[((-1:Int)+(ws.length:Int)).toNat]?=_;rw[show ((-1:Int)+(ws.length:Int)).toNat=ws.length-1 by omega,Qi,Qb hl];rfl
section
theorem oA {k:Nat} {f:Addr} {fd:FuncData} {ps:List Str} {sp:Sp} (h:∀vs H Q E,sp vs H Q E->False):FnOk P w K mg base CX0 k f fd ps sp :=
 ⟨λvs H Q E q=>(h vs H Q E q).elim,λ_ _ _ _ _ _ vs Q E _ _ _ _ q=>(h _ _ _ _ q).elim⟩
theorem nG:FnScope ["store", "names", "deep", "kind", "one"] ["store", "names", "deep"] (au (top 33)):=by walk_at "k"
theorem nZ {f:Addr} {fd:FuncData} (Fu:Fun K "_law_rule" "_law_rule" (top 33) f fd) (T:Txt K mg TT) (f_law_take:Fn P w K mg base "_law_take" ["store", "many"] 1 dR) (hm:mg "_law_rule" = some (.ref f)) (hk:PySem.W.keepIn K (.ref f)=true) (hb:fM K fd ["store", "names", "deep"] []):∀d,FnOk P w K mg base CX0 (d+1) f fd ["store", "names", "deep"] (iF d)
 | 0=>oA λvs H Q E ⟨D,l,ns,m,_,_,_,_,_,h1,h2,_⟩=>by omega
 | d+1=>by
  have S:=nG;have f_law_rule:Fn P w K mg base "_law_rule" ["store", "names", "deep"] (d+1) (iF d):=⟨f,fd,nZ Fu T f_law_take hm hk hb d,hm,hk,hb⟩;refine Fu.ok S (λvs H Q E h=>?_) (λcdv A outer s H vs Q E hr h=>?_)
  ·obtain⟨D,l,ns,m,rfl,_⟩:=h;rfl
  obtain⟨D,l,ns,m,rfl,DA,hl,n1,few,m1,m2,k⟩:=h;refine'⟨?_,?bb,?_⟩
  case bb =>
   walk_at "b";exact aO 3 S.nd (aF f_law_take hr (ad (pv 0) (ad ak af aA) ae));exact(PW.pt (je (aL kL (pv 2) ak (aZ _)) (fT (aL kL (pv 3) ak (aZ _)))));exact(aB (be (ad aE (ad (aD bo (pv 1) (aF f_law_take hr (ad (pv 0) (ad (aK aN (by rfl) T.n_len Q7 (ad (pv 1) af ae)) af aS) ae))) af) aA)));exact aO 4 S.nd (aF f_law_rule hr (ad (pv 0) (ad (pv 1) (ad (a8 pC (pv 2) ak) af) ae) ae));exact(aL kL (pv 3) ak (aZ _));exact(aB (be (ad aE (ad (pv 4) af ae) aA)));refine' aB ?e
   case e =>
    walk_at "q";exact(aD bo (pe_lst (ad aE (ad aE af aA) aA)) (a8 dY (pv 3) ak));exact(pv 4);exact(aF f_law_rule hr (ad (pv 0) (ad (pv 1) (ad (aD bo (pe_lst (ad (a8 pC (pv 2) ak) (ad ak af aA) se_bin)) (cU lh (by rfl) T.n_int PyProof.Rows.boot_int (ad (cD qE (pv 2) ak (aZ _)) af))) af se_sub) ae) ae))
  walk_at "e";walk_at "w";refine⟨D,8,rfl,DA,by decide,by decide,λkind H1 k0 k8 kp1=>?_⟩;have hl1:=kp1.strs DA hl
  have leaf:xx (cE (tC (V.str "wire")) (cE (tOp (vz K) (eN 1) (kI dR [] E0 (cE (eN 0) (cE (tCB (λxs H Q=>∃p ys,xs=[V.ref p]/\(SqL K H p ys\/SqT K H p ys)/\Q (V.int ↑ys.length) H) (cE (eN 1) lC)) lC)))) lC)) [some (.ref D.d),some (.ref l),some (.int m),some (.int kind),none] H1 Q:=by
   walk_at "w";refine⟨D,_,rfl,kp1.dk,by rw[Qc];omega,by rw[Qc];omega,λr H2 r0 r1 kp2=>?_⟩;have hl2:=kp2.strs kp1.dk hl1;rw[Qc]at r1;obtain⟨nm,hnm,en⟩:=gL (ws:=ns) r0 r1;refine i_ixL (SqL.of hl2) en ?_;walk_at "w";refine⟨by simp[sizeLine],λp hp=>?_⟩;exact k _ (.w nm) _ ((kp1.trans kp2).new hp) (.w ag) hnm m1
  walk_at "w";by_cases c1:m<2
  ·refine ifT (QU (by omega)) ?_;exact bV leaf
  refine ifF (QI (by omega)) ?_;walk_at "w";refine ki (λh2=>?_) (λh2=>?_)
  ·exact leaf
  walk_at "w";refine⟨D,l,ns,m-1,?_,kp1.dk,hl1,n1,few,by omega,by omega,λb1 r1 H2 kp2 ra1 ok1 dp1=>?_⟩
  ·have:(m:Int)-1=((m-1:Nat):Int):=by omega
   rw[this]
  have hl2:=kp2.strs kp1.dk hl1;have kp12:=kp1.trans kp2;walk_at "w";refine ki (λh3=>?_) (λh3=>?_)
  ·walk_at "w";refine⟨by simp[sizeLine],λp hp=>?_⟩;exact k _ (.no r1) _ (kp12.new hp) (.no ag (ra1.mono (aw.tups (ap hp)))) ok1 (by show r1.dep+1<=m;omega)
  walk_at "w";refine⟨by simp[sizeLine],λp hp=>?_⟩;generalize hE:upd H2 p _=H3;obtain⟨S3,q3⟩:=ay hp hE;clear hE;have kp13:=kp12.trans (Kp.of kp12.dk S3);have hl3:=S3 _ _ hl2;walk_at "w"
  obtain⟨wd,ew,hw⟩:∃wd:Str,atI [V.str "and", V.str "or"] (kind % 2)=some (.str wd)/\(wd = "and" \/ wd = "or"):=by
   have:kind % 2=0\/kind % 2=1:=by omega
   rcases this with e|e
   ·rw[e];exact⟨_,rfl,.inl rfl⟩
   rw[e];exact⟨_,rfl,.inr rfl⟩
  refine i_ixL (SqL.of q3) ew ?_;walk_at "w";refine⟨by simp[sizeLine],λp4 hp4=>?_⟩;generalize hE:upd H3 p4 _=H4;obtain⟨S4,q4⟩:=ay hp4 hE;clear hE;have kp14:=kp13.trans (Kp.of kp13.dk S4);walk_at "w"
  obtain⟨m',em,m'1,m'2,m'3⟩:∃m':Nat,atI [V.int ((m:Int)-1),V.int 1] (if decide ((5:Int)<(m:Int))=true then 1 else 0)=some (.int (m':Int))/\1<=m'/\m'<=d/\m'<=m-1:=by
   cases decide ((5:Int)<(m:Int)) with
   | true=>exact⟨1,rfl,by omega,by omega,by omega⟩
   | false=>exact⟨m-1,by rw[show ((m-1:Nat):Int)=(m:Int)-1 by omega];rfl,by omega,by omega,by omega⟩
  refine i_ixL (SqL.of q4) em ?_;walk_at "w";refine⟨D,l,ns,m',rfl,kp14.dk,S4 _ _ hl3,n1,few,m'1,m'2,λb5 r5 H5 kp5 ra5 ok5 dp5=>?_⟩;walk_at "w";refine⟨by simp[sizeLine],λp6 hp6=>?_⟩;have ra15:RAt H5 (.ref b1) r1:=ra1.mono λb xs e=>kp5.tups kp14.dk _ _ (S4 _ _ (S3 _ _ e));have s6:cr H5 (upd H5 p6 (.tup [.str wd,.ref b1,.ref b5])):=aw.tups (ap hp6);rcases hw with rfl|rfl
  ·exact k _ (.an r1 r5) _ ((kp14.trans kp5).new hp6) (.an ag (ra15.mono s6) (ra5.mono s6)) ⟨ok1,ok5⟩ (by show max r1.dep r5.dep+1<=m;omega)
  exact k _ (.orr r1 r5) _ ((kp14.trans kp5).new hp6) (.orr ag (ra15.mono s6) (ra5.mono s6)) ⟨ok1,ok5⟩ (by show max r1.dep r5.dep+1<=m;omega)
theorem j_:FnScope ["one", "other", "own"] ["one", "other", "own"] (au (top 34)):=by walk_at "k"
theorem rV {f:Addr} {fd:FuncData} (Fu:Fun K "_law_holder" "_law_holder" (top 34) f fd) (T:Txt K mg TT):FnOk P w K mg base CX0 1 f fd ["one", "other", "own"] iZ:=by
 have S:=j_;refine Fu.ok S (by walk_at "l") (λcdv A outer s H vs Q E hr h=>?_);obtain⟨v1,v2,v3,r1,r2,r3,rfl,ra1,ra2,ra3,k⟩:=h;refine⟨_,(aI (aB (be (ad aE (ad (be (ad aE (ad (pv 0) (ad (pv 1) af ae) ae) aA)) (ad (be (ad aE (ad (pv 2) (ad (be (ad aE (ad (pv 0) (ad (pv 1) af ae) ae) aA)) af se_tup) ae) aA)) af se_tup) se_tup) aA)))),?_⟩;walk_at "e";walk_at "w";refine⟨by simp[sizeLine],λp1 hp1=>?_⟩;generalize hE:upd H p1 _=H1;obtain⟨S1,q1⟩:=ay hp1 hE;clear hE;walk_at "w";refine⟨by simp[sizeLine],λp2 hp2=>?_⟩;generalize hE:upd H1 p2 _=H2;obtain⟨S2,q2⟩:=ay hp2 hE;clear hE;walk_at "w";refine⟨by simp[sizeLine],λp3 hp3=>?_⟩;generalize hE:upd H2 p3 _=H3;obtain⟨S3,q3⟩:=ay hp3 hE;clear hE;walk_at "w";refine⟨by simp[sizeLine],λp4 hp4=>?_⟩;have S4:=ap (o:=.tup [.str "or", .ref p1,.ref p3]) hp4;have S04:=S1.trans (S2.trans (S3.trans S4));have m1:=ra1.mono (aw.tups S04);have m2:=ra2.mono (aw.tups S04);have m3:=ra3.mono (aw.tups S04);exact k _ _ S04 (.orr ag (.an (S4 _ _ (S3 _ _ (S2 _ _ q1))) m1 m2) (.an (S4 _ _ q3) m3 (.orr (S4 _ _ (S3 _ _ q2)) m1 m2)))
end
section
theorem gp:FnScope ["kind", "names", "at", "ins", "gates", "own", "ahead", "one", "after"] ["kind", "names", "at", "ins"] (au (top 35)):=by walk_at "k"
theorem rS {f:Addr} {fd:FuncData} (Fu:Fun K "_law_known_rule" "_law_known_rule" (top 35) f fd) (T:Txt K mg TT) (f_law_holder:Fn P w K mg base "_law_holder" ["one", "other", "own"] 1 iZ):FnOk P w K mg base CX0 2 f fd ["kind", "names", "at", "ins"] iX:=by
 have S:=gp;refine Fu.ok S (by walk_at "l") (λcdv A outer s H vs Q E hr h=>?_);obtain⟨kd,l,ns,a,i,m,rfl,hl,nl,am,m100,i100,k⟩:=h;refine'⟨?_,?bb,?_⟩
 case bb =>
  walk_at "b";exact aO 4 S.nd (eU qo (pv 1) (gt (pv 3)) gu);exact aO 5 S.nd (be (ad aE (ad (aD bo (pv 4) (pv 2)) af) aA));exact aO 6 S.nd (be (ad aE (ad (aD bo (pv 4) (a8 pC (pv 2) ak)) af) aA));exact aO 7 S.nd (be (ad aE (ad (aD bo (pv 1) (a8 dY (pv 2) (aK aN (by rfl) T.n_len Q7 (ad (pv 1) af ae)))) af) aA));exact aO 8 S.nd (be (ad aE (ad (aD bo (pv 4) (a8 dY (a8 cu (pv 2) ak) (aK aN (by rfl) T.n_len Q7 (ad (pv 4) af ae)))) af) aA));exact(aL eF (pv 0) ak (aZ _));exact(aB (be (ad aE (ad (pv 6) af ae) aA)));exact(aL eF (pv 0) ak (aZ _));refine' aB ?e
  case e =>
   walk_at "q";exact(pv 6);exact(pv 7)
  exact(aL eF (pv 0) ak (aZ _));exact(aB (aF f_law_holder hr (ad (pv 7) (ad (pv 6) (ad (pv 5) af ae) ae) ae)))
  with_reducible refine' aB ?e
  case e =>
   refine' aF f_law_holder hr ?a36
   case a36 =>
    with_reducible refine' ad ?e37 ?s37 ae
    case e37 =>
     exact(pv 6)
    case s37 =>
     with_reducible refine' ad ?e39 ?s39 se_tup
     case e39 =>
      with_reducible refine' be ?a40
      case a40 =>
       with_reducible refine' ad ?e41 ?s41 aA
       case e41 =>
        exact aE
       case s41 =>
        with_reducible refine' ad ?e43 ?s43 ae
        case e43 =>
         exact(pv 8)
        case s43 =>
         exact af
     case s39 =>
      with_reducible refine' ad ?e45 ?s45 ae
      case e45 =>
       exact(pv 5)
      case s45 =>
       exact af
 walk_at "e";walk_at "w";refine xk (SqL.of hl) λpg hpg=>?_;rw[u3 (by rw[Qc];omega),<-List.map_drop];generalize hE:upd H pg _=H1;obtain⟨S1,q1⟩:=ay hpg hE;clear hE;have dl:(ns.drop i).length=m:=by rw[Xc];omega
 have hl1:=S1 _ _ hl;have dsub:∀x∈ns.drop i,x∈ns:=λx hx=>List.mem_of_mem_drop hx;generalize hds:ns.drop i=ds at *;walk_at "w";obtain⟨n2,h2,e2⟩:=gL (ws:=ds) (r:=(a:Int)) (by omega) (by omega);refine i_ixL (SqL.of q1) e2 ?_;walk_at "w";refine⟨by simp[sizeLine],λp2 hp2=>?_⟩;generalize hE:upd H1 p2 _=H2;obtain⟨S2,q2⟩:=ay hp2 hE;clear hE;walk_at "w"
 obtain⟨n3,h3,e3⟩:∃n,n∈ds/\atI (ds.map V.str) ((a:Int)-1)=some (.str n):=by
  by_cases c:a=0
  ·subst c;obtain⟨n,hn,e⟩:=v_ (ws:=ds) (by omega);exact⟨n,hn,e⟩
  obtain⟨n,hn,e⟩:=gL (ws:=ds) (r:=(a:Int)-1) (by omega) (by omega);exact⟨n,hn,e⟩
 refine i_ixL (SqL.of (S2 _ _ q1)) e3 ?_;walk_at "w";refine⟨by simp[sizeLine],λp3 hp3=>?_⟩;generalize hE:upd H2 p3 _=H3;obtain⟨S3,q3⟩:=ay hp3 hE;clear hE;have hl3:=(S2.trans S3) _ _ hl1;have q13:=(S2.trans S3) _ _ q1;walk_at "w";refine i_rI (show (0:Int)<((ns.map V.str).length:Nat) by rw[Qc];omega) ?_;rw[Qc];obtain⟨n4,h4,e4⟩:=gL (ws:=ns) (r:=(a:Int) % (ns.length:Int)) (Int.emod_nonneg _ (by omega)) (Int.emod_lt_of_pos _ (by omega));refine i_ixL (SqL.of hl3) e4 ?_;walk_at "w";refine⟨by simp[sizeLine],λp4 hp4=>?_⟩;generalize hE:upd H3 p4 _=H4;obtain⟨S4,q4⟩:=ay hp4 hE;clear hE;have q14:=S4 _ _ q13;walk_at "w";refine i_rI (show (0:Int)<((ds.map V.str).length:Nat) by rw[Qc];omega) ?_;rw[Qc];obtain⟨n5,h5,e5⟩:=gL (ws:=ds) (r:=((a:Int)+1) % (ds.length:Int)) (Int.emod_nonneg _ (by omega)) (Int.emod_lt_of_pos _ (by omega));refine i_ixL (SqL.of q14) e5 ?_;walk_at "w";refine⟨by simp[sizeLine],λp5 hp5=>?_⟩;generalize hE:upd H4 p5 _=H5;obtain⟨S5,q5⟩:=ay hp5 hE;clear hE;have S05:=S1.trans (S2.trans (S3.trans (S4.trans S5)));have w2:RAt H5 (.ref p2) (.w n2):=.w (S5 _ _ (S4 _ _ (S3 _ _ q2)));have w3:RAt H5 (.ref p3) (.w n3):=.w (S5 _ _ (S4 _ _ q3));have w4:RAt H5 (.ref p4) (.w n4):=.w (S5 _ _ q4);have w5:RAt H5 (.ref p5) (.w n5):=.w q5
 replace h2:=dsub _ h2
 replace h3:=dsub _ h3
 replace h5:=dsub _ h5
 clear q1 q2 q3 q4 q5 q13 q14 hl hl1 hl3;walk_at "w";refine ki (λ_=>?_) (λ_=>?_)
 ·walk_at "w";refine⟨by simp[sizeLine],λp6 hp6=>?_⟩;exact k _ (.no (.w n3)) _ (S05.trans (ap hp6)) (.no ag (w3.mono (aw.tups (ap hp6)))) h3 (by simp[Rl.dep])
 walk_at "w";refine ki (λ_=>?_) (λ_=>?_)
 ·walk_at "w";refine⟨by simp[sizeLine],λp6 hp6=>?_⟩;generalize hE:upd H5 p6 _=H6;obtain⟨S6,q6⟩:=ay hp6 hE;clear hE;walk_at "w";refine⟨by simp[sizeLine],λp7 hp7=>?_⟩;have S7:=ap (o:=.tup [.str "not", .ref p6]) hp7;exact k _ (.no (.orr (.w n3) (.w n4))) _ (S05.trans (S6.trans S7)) (.no ag (.orr (S7 _ _ q6) (w3.mono (aw.tups (S6.trans S7))) (w4.mono (aw.tups (S6.trans S7))))) ⟨h3,h4⟩ (by simp[Rl.dep])
 walk_at "w";refine ki (λ_=>?_) (λ_=>?_)
 ·walk_at "w";exact⟨_,_,_,_,_,_,rfl,w4,w3,w2,λb H' S' ra=>k b _ H' (S05.trans S') ra ⟨⟨h4,h3⟩,h2,h4,h3⟩ (by simp[Rl.dep])⟩
 walk_at "w";refine⟨by simp[sizeLine],λp6 hp6=>?_⟩;generalize hE:upd H5 p6 _=H6;obtain⟨S6,q6⟩:=ay hp6 hE;clear hE;walk_at "w";exact⟨_,_,_,_,_,_,rfl,w3.mono (aw.tups S6),.no q6 (w5.mono (aw.tups S6)),w2.mono (aw.tups S6),λb H' S' ra=>k b _ H' (S05.trans (S6.trans S')) ra ⟨⟨h3,h5⟩,h2,h3,h5⟩ (by simp[Rl.dep])⟩
end
def o7:Sp:=λvs H Q _=>∃(D:Dk),vs=[.ref D.d,.int 7]/\D.At H/\∀a li lg ins gvs gs H',NAt H' a li lg ins gvs gs->NetOk ins gs->H a=none->Kp D H H'->Q (.ref a) H'
section
theorem pb:FnScope ["store", "most", "ins", "many", "names", "kind", "deep", "gates", "at", "rule"] ["store", "most"] (au (top 36)):=by walk_at "k"
theorem vO {f:Addr} {fd:FuncData} (Fu:Fun K "_law_net" "_law_net" (top 36) f fd) (T:Txt K mg TT) (f_law_take:Fn P w K mg base "_law_take" ["store", "many"] 1 dR) (f_law_names:Fn P w K mg base "_law_names" ["store", "many"] 2 lI) (f_law_rule:Fn P w K mg base "_law_rule" ["store", "names", "deep"] 11 (iF 10)) (f_law_known_rule:Fn P w K mg base "_law_known_rule" ["kind", "names", "at", "ins"] 2 iX):FnOk P w K mg base CX0 12 f fd ["store", "most"] o7:=by
 have S:=pb;refine Fu.ok S (by walk_at "l") (λcdv A outer s H vs Q E hr h=>?_);obtain⟨D,rfl,DA,k⟩:=h;refine'⟨?_,?bb,?_⟩
 case bb =>
  walk_at "b";exact aO 2 S.nd (aF f_law_take hr (ad (pv 0) (ad ak af aA) ae));exact aO 3 S.nd (a8 cu ak (aF f_law_take hr (ad (pv 0) (ad (pv 1) af ae) ae)));exact aO 4 S.nd (aF f_law_names hr (ad (pv 0) (ad (a8 cu (pv 2) (pv 3)) af) ae));exact aO 5 S.nd (aF f_law_take hr (ad (pv 0) (ad ak af aA) ae));exact aO 6 S.nd (aD bo (pe_lst (ad ak (ad ak (ad ak (ad ak (ad ak (ad ak (ad ak (ad ak af aA) aA) aA) aA) aA) aA) aA) aA)) (aF f_law_take hr (ad (pv 0) (ad ak af aA) ae)));exact(aL qE (pv 3) ak (aZ _));exact aO 6 S.nd (aK (ld rfl) (by rfl) T.n_min PyProof.Rows.boot_min (ad (pv 6) (ad ak af aA) ae));exact aO 7 S.nd (pe_lst af);walk_at "f";exact(fA (by rfl) T.n_range (ad (pv 3) af ae));exact(cK 8 S.nd);walk_at "p";exact aO 9 S.nd (aF f_law_rule hr (ad (pv 0) (ad (pv 4) (ad (pv 6) af ae) ae) ae));exact(PW.pt (tP (aL kL (pv 5) ak (aZ _)) (qw (aL qE (aF f_law_take hr (ad (pv 0) (ad ak af aA) ae)) ak (aZ _)))));exact aO 9 S.nd (aF f_law_known_rule hr (ad (pv 5) (ad (pv 4) (ad (pv 8) (ad (pv 2) af ae) ae) ae) ae));refine' cO (eV Xs PySem.F.slot_list_append PySem.F.type_list_append cw (pv 7) ?a)
  case a =>
   walk_at "q";exact(aD bo (pv 4) (a8 cu (pv 2) (pv 8)));exact(pv 9)
  exact(aB (be (ad (eU qo (pv 4) gu (gt (pv 2))) (ad (pv 7) af ae))))
 walk_at "e";walk_at "w";refine⟨D,5,rfl,DA,by decide,by decide,λri H1 i0 i5 k1=>?_⟩;obtain⟨I,rfl⟩:∃I:Nat,ri=(I:Int):=⟨ri.toNat,by omega⟩;walk_at "w";refine⟨D,7,rfl,k1.dk,by decide,by decide,λrg H2 g0 g7 k2=>?_⟩;obtain⟨G,rfl⟩:∃G:Nat,rg=(G:Int):=⟨rg.toNat,by omega⟩;walk_at "w";refine⟨D,I+(1+G),?_,k2.dk,by omega,by omega,λl ns H3 nl hl0 hl k3 nnd nsub=>?_⟩
 ·rw[show ((I+(1+G):Nat):Int)=(I:Int)+(1+(G:Int)) by omega]
 walk_at "w";refine⟨D,12,rfl,k3.dk,by decide,by decide,λkd H4 kd0 kd12 k4=>?_⟩;have hl4:=k4.strs k3.dk hl;walk_at "w";refine⟨by simp[sizeLine],λpd hpd=>?_⟩;generalize hE:upd H4 pd _=H5;obtain⟨S5,q5⟩:=ay hpd hE;clear hE;have k45:=Kp.of k4.dk S5;have opd:¬D.own pd:=mw k4.dk hpd;walk_at "w";refine⟨D,8,rfl,k45.dk,by decide,by decide,λrd H6 rd0 rd8 k6=>?_⟩;have k46:=k45.trans k6;have hl6:=k46.strs k4.dk hl4
 obtain⟨dp,ed,d1,d10⟩:∃dp:Nat,atI [V.int 1,V.int 2,V.int 3,V.int 4,V.int 5,V.int 6,V.int 6,V.int 10] rd=some (.int dp)/\1<=dp/\dp<=10:=by
  have:rd=0\/rd=1\/rd=2\/rd=3\/rd=4\/rd=5\/rd=6\/rd=7:=by omega
  rcases this with z|z|z|z|z|z|z|z <;> subst z
  ·exact⟨1,rfl,by omega,by omega⟩
  ·exact⟨2,rfl,by omega,by omega⟩
  ·exact⟨3,rfl,by omega,by omega⟩
  ·exact⟨4,rfl,by omega,by omega⟩
  ·exact⟨5,rfl,by omega,by omega⟩
  ·exact⟨6,rfl,by omega,by omega⟩
  ·exact⟨6,rfl,by omega,by omega⟩
  exact⟨10,rfl,by omega,by omega⟩
 refine i_ixL (SqL.of (k6.old _ _ q5 opd)) ed ?_;have kpA:=k1.trans (k2.trans (k3.trans (k4.trans k46)));refine ax ?_;let I13:IvJ:=λσ H'=>∃dp:Nat,σ=[some (.ref D.d),some (.int 7),some (.int I),some (.int (1+(G:Int))),some (.ref l),some (.int kd),some (.int dp),none,none,none]/\1<=dp/\dp<=10/\H'=H6;with_reducible refine gn I13 (λR hR=>?_) (λσ' H' j'=>?_)
 ·walk_at "w";refine ki (λ_=>?_) (λ_=>?_)
  ·walk_at "w";refine⟨_,_,rfl,?_⟩;walk_at "w";by_cases c:(3:Int)<(dp:Int)
   ·rw[Qz c];exact hR _ _ ⟨3,rfl,by omega,by omega,rfl⟩
   rw[QA c];exact hR _ _ ⟨dp,rfl,by omega,by omega,rfl⟩
  walk_at "w";exact hR _ _ ⟨dp,rfl,by omega,by omega,rfl⟩
 obtain⟨dp',rfl,d1',d10',rfl⟩:=j';walk_at "w";refine⟨by simp[sizeLine],λp hp=>?_⟩;generalize hE:upd _ p _=H7;obtain⟨S7,q7⟩:=ay hp hE;clear hE;have kp7:=kpA.trans (Kp.of kpA.dk S7);have hl7:=S7 _ _ hl6;have Hp0:H p=none:=kpA.free hp;have nlp:l≠p:=av hl6 hp;walk_at "w";refine⟨by omega,by omega,?_⟩;rw[show ((1:Int)+(G:Int)).toNat=1+G by omega];let I14:IvF:=λj σ H'=>∃(x8 x9:Option V) (gvs:List V),σ=[some (.ref D.d),some (.int 7),some (.int I),some (.int (1+(G:Int))),some (.ref l),some (.int kd),some (.int dp'),some (.ref p),x8,x9]/\Kp D H H'/\H' l=some (.lst (ns.map V.str))/\H' p=some (.lst gvs)/\gvs.length=j/\∃gs:List (Str × Rl),Paired (GAt H') gvs gs/\gs.map (·.1)=(ns.drop I).take j/\∀g∈gs,g.2.ok ns/\g.2.dep<=10
 refine kW (n:=1+G) I14
  ⟨none,none,[],rfl,kp7,hl7,q7,rfl,[],.nil,rfl,(λx h=>nomatch h)⟩ (λj σ H' hj pv=>?_) (λσ H' pv=>?_)
 ·obtain⟨x8,x9,gvs,rfl,kp,hlm,hpm,gl,gs,prg,gsn,gok⟩:=pv;have gr:=d6 prg;refine ax ?_;walk_at "w";refine⟨D,l,ns,dp',rfl,kp.dk,hlm,by omega,by omega,d1',d10',λb rr H8 k8 ra rok rdp=>?_⟩;have kp8:=kp.trans k8;have hl8:=k8.strs kp.dk hlm;have hp8:=k8.refs kp.dk hpm gr;refine ax ?_;let I15:IvJ:=λσ H'=>∃b:Addr,σ=[some (.ref D.d),some (.int 7),some (.int I),some (.int (1+(G:Int))),some (.ref l),some (.int kd),some (.int dp'),some (.ref p),some (.int (0+j)),some (.ref b)]/\Kp D H8 H'/\∃r,RAt H' (.ref b) r/\r.ok ns/\r.dep<=10;with_reducible refine gn I15 (λR hR=>?_) (λσ' H' j'=>?_)
  ·have stay:Kp D H8 H8:=Kp.of kp8.dk (aw.refl _);walk_at "w";refine ki (λ_=>?_) (λ_=>?_)
   ·walk_at "w";refine⟨D,8,rfl,kp8.dk,by decide,by decide,λr9 H9 r90 r98 k9=>?_⟩;walk_at "w";refine ki (λ_=>?_) (λ_=>?_)
    ·walk_at "w";refine⟨kd,l,ns,j,I,1+G,by rw[Int.zero_add],k9.strs kp8.dk hl8,by omega,hj,by omega,by omega,λb' r' H10 S10 ra' rok' rdp'=>?_⟩;refine ax ?_;exact hR _ _ ⟨b',rfl,k9.trans (Kp.of k9.dk S10),r',ra',rok',by omega⟩
    walk_at "w";exact hR _ _ ⟨b,rfl,k9,rr,ra.mono (k9.tups kp8.dk),rok,by omega⟩
   walk_at "w";exact hR _ _ ⟨b,rfl,stay,rr,ra,rok,by omega⟩
  obtain⟨b',rfl,k9,r',ra',rok',rdp'⟩:=j';have hl9:=k9.strs kp8.dk hl8;have hp9:=k9.refs kp8.dk hp8 gr;have kp9:=kp8.trans k9;walk_at "w";have hIj:I+j<ns.length:=by omega
  have en:atI (ns.map V.str) ((I:Int)+(0+(j:Int)))=some (.str ns[I+j]):=by
   rw[show (I:Int)+(0+(j:Int))=((I+j:Nat):Int) by omega];exact dj (by rw[Qi,Qb hIj];rfl)
  refine i_ixL (SqL.of hl9) en ?_;walk_at "w";refine⟨by simp[sizeLine],λtt ht=>?_⟩;generalize hE:upd _ tt _=H11;obtain⟨S11,q11⟩:=ay ht hE;clear hE;have hp11:=S11 _ _ hp9;walk_at "w";refine ou hp11 (by omega) ?_
  have kt:cr H11 (upd H11 p (.lst (gvs++[.ref tt]))):=λb xs e=>by
   have:b≠p:=λx=>by rw[x,hp11]at e;cases e
   rw[aq this];exact e
  refine⟨_,_,gvs++[.ref tt],rfl,Kp.fresh DA Hp0 (kp9.trans (Kp.of kp9.dk S11)),by rw[aq nlp];exact S11 _ _ hl9,ag,by rw[Qj,gl];rfl,gs++[(ns[I+j],r')],?_,?_,λg hg=>?_⟩
  ·exact eW (bi kt (bi (aw.tups S11) (bi (k9.tups kp8.dk) (bi (k8.tups kp.dk) prg)))) ⟨tt,.ref b',rfl,kt _ _ q11,(ra'.mono (aw.tups S11)).mono kt⟩
  ·rw[Qw,gsn,QO,XT,Qb hIj];rfl
  rcases QH.mp hg with h|h
  ·exact gok g h
  rw[Q3]at h;subst h;exact⟨rok',rdp'⟩
 obtain⟨x8,x9,gvs,rfl,kp,hlm,hpm,gl,gs,prg,gsn,gok⟩:=pv
 try dsimp only
 walk_at "w";refine xk (SqL.of hlm) λli hli=>?_;rw[yH (by rw[Qc];omega),<-List.map_take];generalize hE:upd _ li _=H12;obtain⟨S12,q12⟩:=ay hli hE;clear hE;walk_at "w";refine⟨by simp[sizeLine],λpa hpa=>?_⟩;generalize hE:upd _ pa _=H13;obtain⟨S13,q13⟩:=ay hpa hE;clear hE;have il:(ns.take I).length=I:=by rw[Qv];omega
 have lgs:gs.length=1+G:=by rw[<-aQ prg];exact gl
 have ew:aj (ns.take I) gs=ns:=by
  unfold aj;have e:(ns.drop I).take (1+G)=ns.drop I:=Qs (by rw[Xc];omega);rw[gsn,e,Xf]
 have S23:=S12.trans S13;exact k pa li p (ns.take I) gvs gs H13 ⟨q13,S13 _ _ q12,S23 _ _ hpm,bi (aw.tups S23) prg⟩ ⟨by rw[ew];exact nnd,by omega,by omega,by omega,λg hg=>by rw[ew];exact gok g hg⟩ ((kp.trans (Kp.of kp.dk S12)).free hpa) (kp.trans (Kp.of kp.dk S23))
end
theorem mH (h:x∈ws):ws[ws.idxOf x]?=some x:=by
 have hi:=Xy h;rw[Qb hi];exact congrArg some (List.getElem_idxOf hi)
section
theorem lV:FnScope ["net"] ["net"] (au (top 38)):=by walk_at "k"
theorem rR {f:Addr} {fd:FuncData} (Fu:Fun K "_law_wires" "_law_wires" (top 38) f fd) (T:Txt K mg TT):FnOk P w K mg base CX0 1 f fd ["net"] fj:=by
 have S:=lV;refine Fu.ok S (by walk_at "l") (λcdv A outer s H vs Q E hr h=>?_);obtain⟨a,li,lg,ins,gvs,gs,rfl,NA,ok,k⟩:=h;refine⟨_,(aI (aB (a8 t_ (aD aH (pv 0) ak) (qy (tgs:=["name", "rule"]) (cap:=[]) rfl ⟨rfl,rfl,rfl,rfl,rfl,rfl⟩ (bq (aD aH (pv 0) ak)) (λ_ _ _ _=>(me (K:=K) (n:=2) rfl rfl (bz (cP (i:=0) (show List.Nodup [("name" : Str),("rule" : Str)] by decide +kernel) rfl (by walk_at "z")) (bz (cP (i:=1) (show List.Nodup [("name" : Str),("rule" : Str)] by decide +kernel) rfl (by walk_at "z")) dU)))) (λ_ _ _ _=>gv) (λ_ _ _ _=>(pv 0)))))),?_⟩;walk_at "e";have i4:=ok.i4;have g7:=ok.g7;have lgn:=aQ NA.gates;have ha:=NA.ha;refine s_ret (a_ (a_ (ah rfl (i_c (bA ha rfl ?_)))));refine i_comp (s_list (a_ (ah rfl (i_c (bA ha rfl ⟨lg,rfl,⟨_,SqL.of NA.hg⟩,λL hL=>?_⟩)))));refine bD (xs:=gvs) (λm H' ys=>aw H H'/\H' L=some (.lst ys)/\ys=((gs.take m).map (·.1)).map V.str) ⟨ap hL,ag,by simp⟩ (λm H' ys p=>⟨p.2.1,SqL.of (p.1 _ _ NA.hg)⟩) (λm v H' ys e p=>?_) (λH' ys p=>?_)
 ·obtain⟨Sm,hd,rfl⟩:=p;obtain⟨g,hgi,b,rv,rfl,hb,_⟩:=paired_get NA.gates e;have hm:m<gvs.length:=(Qe.mp e).1;refine⟨b,_,rfl,SqT.of (Sm _ _ hb),rfl,_,_,rfl,ax ⟨_,_,rfl,ax ⟨rfl,by repeat' (first|exact trivial|refine⟨rfl,?_⟩),i_yes (bV ?_)⟩⟩⟩;refine ah rfl (bM.mk hd hm (by rw[Qc,Qc,Qv];omega) ⟨bp Sm hL,ag,?_⟩);rw[QO,hgi,Qw,Qw];rfl
 obtain⟨Sm,hd,rfl⟩:=p;rw[lgn,Qs (Qh _)]at hd;refine xm (Sm _ _ NA.hi) hd (by simp;omega) λp hp=>?_;rw[<-Qw];have p0:H p=none:=aw.free Sm hp;exact k p _ (Sm.trans (ap hp)) p0 ag
end
section
end
section
end
inductive PathE (es:List (Str × (Str × Str))) (s:Str):Str->List Str->Prop
 | nil:PathE es s s []
 | snoc {x h nm:Str} {ns:List Str}:x≠s->bY es x=some (nm,h)->PathE es s h ns->PathE es s x (ns++[nm])
theorem mK (h:ls.length=xs.length):bn (fdK (aC xs) ls) (Sum.inr x)=none↔x∉xs:=by
 rw[fg,gG,Qs (by unfold aC;rw[Qc];omega)];unfold aC;refine not_congr ⟨λq=>?_,λq=>Qo.mpr ⟨x,q,rfl⟩⟩;obtain⟨y,hy,e⟩:=Qo.mp q;cases e;exact hy
theorem yF (nd:xs.Nodup) (e1:xs[i]?=some x) (e2:ls[i]?=some b):bn (fdK (aC xs) ls) (Sum.inr x)=some (.ref b):=by
 refine db (fV nd) (i:=i) ?_;have hz:((aC xs).zip ls)[i]?=some (Sum.inr x,b):=List.getElem?_zip_eq_some.mpr ⟨bL.mpr ⟨x,e1,rfl⟩,e2⟩;unfold fdK;rw[Qi,hz];rfl
theorem uT (h:ls.length=xs.length):fdK (aC (xs++[x])) (ls++[b])=fdK (aC xs) ls++[(Sum.inr x,.ref b)]:=by
 unfold fdK aC;rw[Qw,List.zip_append (by rw[Qc];omega),Qw];rfl
section
end
theorem BS {t:TE} {u:HO} (r:Rd H a u) (f:Fz u) (q:∀o,t σ (upd H a (.frz o u)) λv H'=>H' a=some (.frz o u)/\Q v (back H a H')):ww t σ H Q:=⟨a,u,r,f,q⟩
def SD (H:Hp) (F:Addr) (ins:List Str) (gs:List (Str × Rl)) (xs:List Str):Prop:=∃as:List Addr,Rd H F (.dK (fdK (aC xs) as))/\as.length=xs.length/\∀(i:Nat) x b,xs[i]?=some x->as[i]?=some b->a9 H b (cg (az ins gs x))
theorem qr {u:HO} (S:aw H H') (r:Rd H a u):Rd H' a u:=by
 rcases r with r|⟨o,r⟩
 ·exact .inl (S _ _ r)
 exact .inr ⟨o,S _ _ r⟩
theorem v6 (h:Rd H F (.dK (fdK (aC xs) as))) (nd:xs.Nodup) (e1:xs[i]?=some x) (e2:as[i]?=some b):cC H F (.str x) (some (.ref b)) :=
 .inl ⟨_,Sum.inr x,h,rfl,(yF nd e1 e2).symm⟩
section
variable {H H':Hp} {F:Addr} {ins:List Str} {gs:List (Str × Rl)} {xs:List Str}
theorem SD.fat (h:SD H F ins gs xs) (nd:xs.Nodup):FAt H F ins gs (·∈xs):=λy hy=>by
 obtain⟨as,r,las,sts⟩:=h;obtain⟨i,hi,e⟩:=Qr.mp hy;have e1:xs[i]?=some y:=by rw[Qb hi,e]
 obtain⟨b,e2⟩:∃b,as[i]?=some b:=⟨_,Qb (by omega)⟩;exact⟨b,v6 r nd e1 e2,sts i y b e1 e2⟩
theorem SD.same (S:aw H H') (h:SD H F ins gs xs):SD H' F ins gs xs:=let ⟨as,r,l,s⟩:=h;⟨as,qr S r,l,λi x b e1 e2=>(s i x b e1 e2).same S⟩
variable {kvs:List (Key × V)}
theorem jd (r:Rd H F (.dK kvs)) {b:Addr} {o:HO} (e:H b=some o) (n1:∀k,o≠.dK k) (n2:∀ob u,o≠.frz ob u):b≠F:=λz=>by
 rcases r with r|⟨ob,r⟩
 ·rw[z,r]at e;exact n1 _ (QX e).symm
 rw[z,r]at e;exact n2 _ _ (QX e).symm
theorem SD.frz {o:Obj} (h:SD H F ins gs xs) (r:Rd H F (.dK kvs)) (e:∀{as:List Addr},Rd H F (.dK (fdK (aC xs) as))->kvs=fdK (aC xs) as):SD (upd H F (.frz o (.dK kvs))) F ins gs xs:=by
 obtain⟨as,r2,las,sts⟩:=h;refine⟨as,.inr ⟨o,by rw[<-e r2];exact ag⟩,las,λi x b e1 e2=>?_⟩;obtain⟨vs,h1,h2⟩:=sts i x b e1 e2;refine⟨vs,by rw[aq (jd r h1 (λ_ z=>nomatch z) λ_ _ z=>nomatch z)];exact h1,bd (λv s ⟨c,ec,q⟩=>⟨c,ec,?_⟩) h2⟩;rw[aq (jd r q (λ_ z=>nomatch z) λ_ _ z=>nomatch z)];exact q
theorem tL {u v:HO} {a:Addr} (r:Rd H a u) (f:Fz u) (r2:Rd H a v) (f2:Fz v):u=v:=by
 rcases r with r|⟨o,r⟩ <;> rcases r2 with r2|⟨o2,r2⟩ <;> rw[r]at r2 <;> cases r2 <;> first|rfl|exact f.elim|exact f2.elim
theorem jV {o:Obj} {u:HO} (r:Rd H F u) (S:aw (upd H F (.frz o u)) H'):aw H (back H F H'):=λb w e=>by
 by_cases c:b=F
 ·subst c;rw[dL];exact e
 rw[bu c];exact S _ _ (by rw[aq c];exact e)
end
def cN (ins:List Str) (gs:List (Str × Rl)) (xs:List Str):Bool:=xs.all λh=>decide ((bR ins gs h).head?=none)
def cR (ins:List Str) (gs:List (Str × Rl)) (xs:List Str):Bool:=xs.all λh=>(az ins gs h).all λp=>decide (p.2∈xs)
def gj:Sp:=λvs H Q _=>∃(F li:Addr) (ins:List Str) (gs:List (Str × Rl)) (xs:List Str),vs=[.ref F,.ref li]/\SD H F ins gs xs/\xs.Nodup/\xs.length<=5000/\cR ins gs xs=true/\H li=some (.lst (ins.map V.str))/\NetOk ins gs/\∀H',aw H H'->Q (.bl (cN ins gs xs)) H'
def fR:Sp:=λvs H Q _=>∃(F:Addr) (ins:List Str) (gs:List (Str × Rl)) (xs:List Str),vs=[.ref F]/\SD H F ins gs xs/\xs.Nodup/\xs.length<=5000/\NetOk ins gs/\∀H',aw H H'->Q (.bl (cR ins gs xs)) H'
theorem e_:cR ins gs xs=true↔∀h∈xs,∀p∈az ins gs h,p.2∈xs:=by
 unfold cR;simp[QJ]
section
theorem pc:FnScope ["steps", "inputs"] ["steps", "inputs"] (au (top 22)):=by walk_at "k"
theorem rT {f:Addr} {fd:FuncData} (Fu:Fun K "is_calm" "is_calm" (top 22) f fd) (T:Txt K mg TT) (f_first_calmed:Fn P w K mg base "first_calmed" ["steps", "here", "inputs"] 2 lP):FnOk P w K mg base CX0 3 f fd ["steps", "inputs"] gj:=by
 have S:=pc;refine Fu.ok S (by walk_at "l") (λcdv A outer s H vs Q E hr h=>?_);obtain⟨F,li,ins,gs,xs,rfl,sd,nd,few,cl,hli,ok,k⟩:=h;have hu:=eI hr;refine⟨_,(aI (aB (aK (gI rfl) (by rfl) T.n_all PyProof.Rows.boot_all (ad (xS (c7 "here" [("steps", 0),("inputs", 1)] (gx (pv 0)) (λ_ _ _ _=>(cD jk (aF f_first_calmed hr (ad (pv 1) (ad (pv 0) (ad (pv 2) af ae) ae) ae)) bU rfl)))) af)))),?_⟩;walk_at "e";have cl:=e_.mp cl;obtain⟨as,r,las,sts⟩:=id sd;refine s_ret (i_cb (ao (BS r trivial λo=>?_)))
 have sd2:SD (upd H F (.frz o (.dK (fdK (aC xs) as)))) F ins gs xs:=sd.frz r λr2=>by
  injection tL r trivial r2 trivial
 have hF2:upd H F (.frz o (.dK (fdK (aC xs) as))) F=some (.frz o (.dK (fdK (aC xs) as))):=ag;have bk:∀{H':Hp},aw (upd H F (.frz o (.dK (fdK (aC xs) as)))) H'->aw H (back H F H'):=λS=>jV r S;have hli2:upd H F (.frz o (.dK (fdK (aC xs) as))) li=some (.lst (ins.map V.str)):=by rw[aq (jd r hli (λ_ z=>nomatch z) λ_ _ z=>nomatch z)];exact hli
 generalize upd H F (.frz o (.dK (fdK (aC xs) as)))=H2 at *;have lk:(fdK (aC xs) as).length=xs.length:=by unfold fdK aC;simp[las]
 refine i_comp (iK (ah rfl ⟨F,o,_,rfl,hF2,λL hL=>?_⟩));let I16:IvC:=λm H' ys=>aw H2 H'/\H' L=some (.lst ys)/\ys=((xs.take m).map λh=>decide ((bR ins gs h).head?=none)).map V.bl;refine sL I16 ⟨ap hL,ag,rfl⟩ (λm H' ys p=>⟨p.2.1,p.1 _ _ hF2⟩) (λm k' v H' ys e p=>?_) (λH' ys p=>?_)
 ·obtain⟨Sm,hd,rfl⟩:=p;obtain⟨x,b,e1,e2,rfl,rfl⟩:=mJ e;have hm:m<xs.length:=(Qe.mp e1).1;have hx:=Qg e1;refine ax ⟨by repeat' (first|exact trivial|refine⟨rfl,?_⟩),i_yes (bV ?_)⟩;refine a_ (aW (ao (ah rfl (ao (ah rfl (ao (ah rfl (aG ?_))))))));refine⟨F,li,ins,gs,(·∈xs),x,rfl,(sd2.same Sm).fat nd,hx,cl,Sm _ _ hli2,ok,λv H3 S3 cv=>?_⟩;refine i_c ⟨rfl,?_⟩
  have dv:decide (v=V.non)=decide ((bR ins gs x).head?=none):=by
   cases hc:(bR ins gs x).head? with
   | none=>rw[hc]at cv;cases cv;rfl
   | some p=>rw[hc]at cv;obtain⟨t,rfl,_⟩:=cv;rfl
  refine bM.mk (S3 _ _ hd) (by rw[lk];exact hm) (by rw[Qc,Qc,Qv];omega) ⟨bp (Sm.trans S3) hL,ag,?_⟩;rw[QO,e1,Q8,Qw,Qw,dv];rfl
 obtain⟨Sm,hd,rfl⟩:=p;rw[lk,Qs (Qh _)]at hd;have hLF:L≠F:=λz=>by rw[z,hF2]at hL;cases hL
 refine⟨Sm _ _ hF2,aG ⟨L,_,rfl,SqL.of (by rw[bu hLF];exact hd),?_⟩⟩;rw[List.all_map];exact k _ (bk Sm)
theorem l4:FnScope ["steps", "here"] ["steps"] (au (top 26)):=by walk_at "k"
theorem n8 {f:Addr} {fd:FuncData} (Fu:Fun K "is_closed" "is_closed" (top 26) f fd) (T:Txt K mg TT):FnOk P w K mg base CX0 1 f fd ["steps"] fR:=by
 have S:=l4;refine Fu.ok S (by walk_at "l") (λcdv A outer s H vs Q E hr h=>?_);obtain⟨F,ins,gs,xs,rfl,sd,nd,few,ok,k⟩:=h;have hu:=eI hr;refine'⟨?_,?bb,?_⟩
 case bb =>
  walk_at "b";refine' pp ?_;rotate_left 1;walk_at "f";exact(gx (pv 0));exact(cK 1 S.nd);walk_at "p";exact(dS (c6 (aK (gI rfl) (by rfl) T.n_all PyProof.Rows.boot_all (ad (c7 "step" [("steps", 0)] (bq (bO hu (pv 0) (pv 1))) (λ_ _ _ _=>(xU (xW hu (aD (gC (K:=K) rfl) (pv 0) ak) (pv 1))))) af))));exact(aB dF);exact(aB dF)
 walk_at "e";obtain⟨as,r,las,sts⟩:=id sd;have lk:(fdK (aC xs) as).length=xs.length:=by unfold fdK aC;simp[las]
 walk_at "s";refine tJ r trivial λo=>?_
 have sd2:SD (upd H F (.frz o (.dK (fdK (aC xs) as)))) F ins gs xs:=sd.frz r λr2=>by
  injection tL r trivial r2 trivial
 have hF2:upd H F (.frz o (.dK (fdK (aC xs) as))) F=some (.frz o (.dK (fdK (aC xs) as))):=ag;have bk:∀{H':Hp},aw (upd H F (.frz o (.dK (fdK (aC xs) as)))) H'->aw H (back H F H'):=λS=>jV r S;generalize upd H F (.frz o (.dK (fdK (aC xs) as)))=H2 at *;refine s_for (iK (ah rfl ⟨F,o,_,rfl,hF2,?_⟩));let I17:IvF:=λi σ' H'=>(∃x1,σ'=[some (.ref F),x1])/\aw H2 H'/\∀i'<i,∀h,xs[i']?=some h->((az ins gs h).all λp=>decide (p.2∈xs))=true;refine jI I17 ⟨⟨_,rfl⟩,aw.refl _,λi' h=>absurd h (Nat.not_lt_zero _)⟩ (λi σ' H' _ pv=>pv.2.1 _ _ hF2) (λi k' v σ' H' e pv=>?_) (λσ' H' pv=>?_)
 ·obtain⟨⟨x1,rfl⟩,Sm,no⟩:=pv;obtain⟨x,b,e1,e2,rfl,rfl⟩:=mJ e;have hx:=Qg e1;obtain⟨b',dg,vs,hvs,pvs⟩:=(sd2.same Sm).fat nd x hx;have rF:Rd H' F (.dK (fdK (aC xs) as)):=.inr ⟨o,Sm _ _ hF2⟩;have lvs:vs.length=(az ins gs x).length:=by have:=aQ pvs;unfold cg at this;rwa [Qc]at this
  have l7:=dQ ins gs x;have g7:=ok.g7;refine ax ?_;walk_at "s";refine i_not (i_tB (i_cb (ao (i_comp (s_list (i_dget (ah rfl (ah rfl ⟨F,_,rfl,dg,b',rfl,⟨_,SqL.of hvs⟩,λL hL=>?_⟩))))))));let I18:IvC:=λm H3 ys=>aw H' H3/\H3 L=some (.lst ys)/\ys=(((az ins gs x).take m).map λp=>decide (p.2∈xs)).map V.bl;refine bD (xs:=vs) I18 ⟨ap hL,ag,rfl⟩ (λm H' ys p=>⟨p.2.1,SqL.of (p.1 _ _ hvs)⟩) (λm v H3 ys e p=>?_) (λH3 ys p=>?_)
  ·obtain⟨S3,hd,rfl⟩:=p;obtain⟨p,b2,hp,rfl,hb2⟩:=dP pvs e;have hm:m<vs.length:=(Qe.mp e).1;refine ax ⟨by repeat' (first|exact trivial|refine⟨rfl,?_⟩),i_yes (bV ?_)⟩;refine BU (a_ (ah rfl (i_c (bA (S3 _ _ hb2) rfl (ah rfl ?_)))));refine⟨F,bn (fdK (aC xs) as) (Sum.inr p.2),rfl,.inl ⟨_,Sum.inr p.2,qr S3 rF,rfl,rfl⟩,?_⟩
   have dv:(bn (fdK (aC xs) as) (Sum.inr p.2)).isSome=decide (p.2∈xs):=by
    by_cases c:p.2∈xs
    ·rw[QU c]
     cases hv:bn (fdK (aC xs) as) (Sum.inr p.2) with
     | none=>exact absurd c ((mK las).mp hv)
     | some _=>rfl
    rw[QI c,(mK las).mpr c];rfl
   rw[dv];refine bM.mk hd hm (by rw[Qc,Qc,Qv];omega) ⟨bp S3 hL,ag,?_⟩;rw[QO,hp,Q8,Qw,Qw];rfl
  obtain⟨S3,hd,rfl⟩:=p;rw[lvs,Qs (Qh _)]at hd;refine aG ⟨L,_,rfl,SqL.of hd,?_⟩;refine⟨_,rfl,?_⟩;rw[List.all_map];by_cases c:((az ins gs x).all λp=>decide (p.2∈xs))=true
  ·have e:((az ins gs x).all (id∘λp=>decide (p.2∈xs)))=true:=c;rw[e];refine iteF ?_;walk_at "w";refine⟨⟨_,rfl⟩,Sm.trans S3,λi' hi' h eh=>?_⟩;by_cases ci:i'<i
   ·exact no i' ci h eh
   have:i'=i:=by omega
   subst this;rw[e1]at eh;cases eh;exact c
  have e:((az ins gs x).all (id∘λp=>decide (p.2∈xs)))=false:=Xm.mpr c;rw[e];refine bV ?_;walk_at "w";refine⟨(Sm.trans S3) _ _ hF2,?_⟩;have hb:cR ins gs xs=false:=Xm.mpr λz=>c (QJ.mp z x hx);have:=k _ (bk (Sm.trans S3));rwa [hb]at this
 obtain⟨⟨x1,rfl⟩,Sm,no⟩:=pv;refine⟨Sm _ _ hF2,?_⟩;walk_at "w"
 have hb:cR ins gs xs=true:=QJ.mpr λh hh=>by
  obtain⟨i,hi,e⟩:=Qr.mp hh;exact no i (by rw[lk];exact hi) h (by rw[Qb hi,e])
 have:=k _ (bk Sm);rwa [hb]at this
end
theorem sr (q:ta σ H λvs H1=>∃l ts,vs=[.ref l]/\SqL K H1 l (ts.map V.str)/\ts.length<4000/\∀(p:Addr) (ss:List Str),H1 p=none->wf ts ss->Q (.ref p) (upd H1 p (.lst (ss.map V.str)))):nu K ta σ H Q:=q
theorem uL (q:ta σ H λvs H1=>∃l xs ps,vs=[.ref l]/\SqL K H1 l xs/\xs.length<10000/\Paired (sR H1) xs ps/\∀d,H1 d=none->Q (.ref d) (upd H1 d (.dK (bG [] (eG ps))))):qj K ta σ H Q:=q
theorem BT {neg:Bool} {ys:List Str} (h1:SqL K H a (xs.map V.str)) (h2:SqL K H b (ys.map V.str)) (q:Q (.bl (if neg then !decide (xs=ys) else decide (xs=ys))) H):xL K neg (.ref a) (.ref b) H Q:=by
 refine⟨a,b,_,_,λj=>decide (xs[j]?=ys[j]?),rfl,rfl,h1,h2,λj x y e1 e2=>?_,?_⟩
 ·rw[Qi]at e1 e2
  cases c1:xs[j]? with
  | none=>rw[c1]at e1;cases e1
  | some u =>
  cases c2:ys[j]? with
  | none=>rw[c2]at e2;cases e2
  | some v =>
  rw[c1]at e1;rw[c2]at e2;cases e1;cases e2;have q:=EqD.flat (K:=K) (H:=H) (n:=8) (x:=V.str u) (y:=V.str v) rfl rfl
  have e:eqV (.str u) (.str v)=decide (some u=some v):=by
   show decide (u=v)=_;simp
  rw[e]at q;show EqD K H 8 (V.str u) (V.str v) (decide (xs[j]?=ys[j]?));rw[c1,c2];exact q
 have e:((xs.map V.str).length==(ys.map V.str).length&&(List.range (xs.map V.str).length).all λj=>decide (xs[j]?=ys[j]?))=decide (xs=ys):=by
  rw[Qc,Qc];by_cases c:xs=ys
  ·subst c;rw[QU rfl,beq_self_eq_true,Bool.true_and,QJ];intro j _;exact QU rfl
  rw[QI c];refine Xm.mpr λz=>c ?_;rw[XA,QJ]at z;obtain⟨z1,z2⟩:=z;have z1:xs.length=ys.length:=of_decide_eq_true z1;refine List.ext_getElem? λj=>?_;by_cases cj:j<xs.length
  ·exact of_decide_eq_true (z2 j (Xk.mpr cj))
  rw[QY (by omega),QY (by omega)]
 rw[e];exact q
noncomputable def vt (ss:List Str):Bool:=@decide (ss.Nodup/\ss.Pairwise leT) (Classical.propDecidable _)
theorem gi:vt ss=true↔ss.Nodup/\ss.Pairwise leT:=by
 unfold vt;exact @decide_eq_true_iff _ (Classical.propDecidable _)
theorem tu (h:wf ts ss):decide (ts=ss)=vt ts:=by
 by_cases c:ts=ss
 ·rw[QU c,c];exact(gi.mpr ⟨h.1,h.2.2⟩).symm
 rw[QI c];refine(Xm.mpr λz=>c ?_).symm;obtain⟨z1,z2⟩:=gi.mp z;exact tG z2 h.2.2 ((List.perm_ext_iff_of_nodup z1 h.1).mpr λx=>(h.2.1 x).symm)
noncomputable def nU (n:Nat) (ss:List Str):Bool:=ss.all (stB n)&&vt ss
def gQ:Sp:=λvs H Q _=>∃(a li lg:Addr) (ins:List Str) (gvs:List V) (gs:List (Str × Rl)) (p:Addr) (ss:List Str),vs=[.ref a,.ref p]/\NAt H a li lg ins gvs gs/\NetOk ins gs/\H p=some (.lst (ss.map V.str))/\ss.length<4000/\(∀x∈ss,x.length<=1000)/\∀H',aw H H'->Q (.bl (nU (aj ins gs).length ss)) H'
def de (TL:Addr):Sp:=λvs H Q _=>∃a li lg ins gvs gs z,vs=[.ref a,.str z]/\NAt H a li lg ins gvs gs/\NetOk ins gs/\StOk (aj ins gs).length z/\cS TL cH H /\
 ∀(xs:List Str) v (H':Hp),Tk TL H H'->Met ins gs z xs->(if cN ins gs xs=true then ∃(p:Addr) (ss:List Str),v=.ref p/\H p=none/\ss.Perm xs/\ss.Pairwise leT/\H' p=some (.lst (ss.map V.str)) else v=.non)->Q v H'
noncomputable def eR (ins:List Str) (gs:List (Str × Rl)) (z:Str) (ss:List Str):Bool:=nU (aj ins gs).length ss&&decide (z∈ss)&&cR ins gs ss&&cN ins gs ss
def eO:Sp:=λvs H Q _=>∃(a li lg:Addr) (ins:List Str) (gvs:List V) (gs:List (Str × Rl)) (z:Str) (p:Addr) (ss:List Str),vs=[.ref a,.str z,.ref p]/\NAt H a li lg ins gvs gs/\NetOk ins gs/\StOk (aj ins gs).length z/\H p=some (.lst (ss.map V.str))/\ss.length<4000/\(∀x∈ss,x.length<=1000) /\
 ∀H',aw H H'->Q (.bl (eR ins gs z ss)) H'
theorem xX (h:nU n ss=true):(∀x∈ss,StOk n x)/\ss.Nodup/\ss.Pairwise leT:=by
 unfold nU at h;rw[XA,QJ]at h;exact⟨λx hx=>lD.mp (h.1 x hx),gi.mp h.2⟩
theorem yq (ok:NetOk ins gs) (st:StOk (aj ins gs).length z) (ln:(Bf.bfs (nxK (stN ins gs)) (Sum.inr z) n).length=n):∃xs,Bf.bfs (nxK (stN ins gs)) (Sum.inr z) n=aC xs/\xs.length=n/\Met ins gs z xs/\xs.length<=2048:=by
 have w11:(aj ins gs).length<=11:=by rw[aP];have:=ok.i4;have:=ok.g7;omega
 obtain⟨xs,exs⟩:=jC (ks:=Bf.bfs (nxK (stN ins gs)) (Sum.inr z) n) λk hk=>by
  obtain⟨y,e,_⟩:=cZ st (Bf.bw n k hk);exact⟨y,e⟩
 have lxs:xs.length=n:=by rw[<-ln,exs];unfold aC;rw[Qc]
 have met:Met ins gs z xs:=⟨by rw[lxs];exact exs.symm,λx hx=>by
  obtain⟨y,e,sy⟩:=cZ st (Bf.bw n (Sum.inr x) (by rw[exs];exact Qo.mpr ⟨x,hx,rfl⟩));cases e
  exact sy⟩
 refine⟨xs,exs,lxs,met,?_⟩
 have:=eZ w11 (xs:=aC xs) (by rw[<-exs];exact Bf.bx n) λx hx=>by
  obtain⟨y,hy,rfl⟩:=Qo.mp hx;exact⟨y,rfl,met.st y hy⟩
 unfold aC at this;rwa [Qc]at this
theorem yE (h:Rd H F (.dK (fdK (aC xs) as))) (l:as.length=xs.length):B2 K H F xs:=.inr ⟨_,h,by rw[gG,Qs (by unfold aC;rw[Qc];omega)];rfl⟩
theorem rG (nd:xs.Nodup) (l:as.length=xs.length):bG [] (eG (xs.zip (as.map V.ref)))=fdK (aC xs) as:=by
 suffices h:∀(pre:List Str) (pas:List Addr),pas.length=pre.length->(pre++xs).Nodup->bG (fdK (aC pre) pas) (eG (xs.zip (as.map V.ref)))=fdK (aC (pre++xs)) (pas++as) from h [] [] rfl nd
 clear nd
 induction xs generalizing as with
 | nil=>intro pre pas h _;simp at l;subst l;simp[eG,bG]
 | cons x xs ih =>
 cases as with
 | nil=>simp at l
 | cons a as =>
 intro pre pas h nd;show bG (bN (fdK (aC pre) pas) (Sum.inr x) (.ref a)) (eG (xs.zip (as.map V.ref)))=_;have nx:x∉pre:=λhx=>(List.nodup_append.mp nd).2.2 x hx x (by simp) rfl;rw[dE _ ((mK h).mpr nx),<-uT h,ih (by simpa using l) (pre++[x]) (pas++[a]) (by simp[h]) (by simpa using nd)];simp
section
theorem nK:FnScope ["net", "thing"] ["net", "thing"] (au (top 25)):=by walk_at "k"
variable {fd:FuncData} {f TL:Addr}
theorem pG (Fu:Fun K "is_paper" "is_paper" (top 25) f fd) (T:Txt K mg TT) (f_is_standing:Fn P w K mg base "is_standing" ["net", "thing"] 2 iH):FnOk P w K mg base CX0 3 f fd ["net", "thing"] gQ:=by
 have S:=nK;refine Fu.ok S (by walk_at "l") (λcdv A outer s H vs Q E hr h=>?_);obtain⟨a,li,lg,ins,gvs,gs,p,ss,rfl,NA,ok,hp,few,len,k⟩:=h;refine'⟨?_,?bb,?_⟩
 case bb =>
  walk_at "b";exact(PW.pt (je (dS (c6 (aK io (by rfl) T.n_isinstance PyProof.Rows.boot_isinstance (ad (pv 1) (ad (qC (v:=.ty "list") (by rfl) T.n_list PyProof.Rows.boot_list rfl) af ae) ae)))) (fT (dS (c6 (aK (gI rfl) (by rfl) T.n_all PyProof.Rows.boot_all (ad (c7 "part" [("net", 0)] (bq (pv 1)) (λ_ _ _ _=>(aF f_is_standing hr (ad (pv 1) (ad (pv 0) af ae) ae)))) af)))))));exact(aB dF);exact(aB (cD (ya hr.units) (pv 1) (pA rfl (by rfl) T.n_sorted (by rfl) T.n_set (ad (pv 1) af ae)) (aZ _)))
 walk_at "e";walk_at "w";refine⟨_,_,_,_,rfl,TyOf.lst hp,ot "list", ?_⟩;refine⟨_,rfl,iteF ?_⟩;refine i_not (i_tB (i_cb (ao (i_comp (s_list (ah rfl ⟨p,rfl,⟨_,SqL.of hp⟩,λL hL=>?_⟩))))));refine bD (xs:=ss.map V.str) (λm H3 ys=>aw H H3/\H3 L=some (.lst ys)/\ys=((ss.take m).map (stB (aj ins gs).length)).map V.bl) ⟨ap hL,ag,rfl⟩ (λm H' ys pv=>⟨pv.2.1,SqL.of (pv.1 _ _ hp)⟩) (λm v H3 ys e pv=>?_) (λH3 ys pv=>?_)
 ·obtain⟨S3,hd,rfl⟩:=pv;rw[Qi]at e
  cases ex:ss[m]? with
  | none=>rw[ex]at e;cases e
  | some x =>
  rw[ex]at e;cases e;have hm:m<ss.length:=(Qe.mp ex).1;refine ax ⟨by repeat' (first|exact trivial|refine⟨rfl,?_⟩),i_yes (bV ?_)⟩;refine aW (ao (ah rfl (ao (ah rfl (aG ⟨a,li,lg,ins,gvs,gs,x,rfl,NA.same S3,ok,len x (Qg ex),λH4 S4=>?_⟩)))));refine bM.mk (S4 _ _ hd) (by rw[Qc];exact hm) (by rw[Qc,Qc,Qv];omega) ⟨bp (S3.trans S4) hL,ag,?_⟩;rw[QO,ex,Q8,Qw,Qw];rfl
 obtain⟨S3,hd,rfl⟩:=pv;rw[Qc,Qs (Qh _)]at hd;refine aG ⟨L,_,rfl,SqL.of hd,?_⟩;refine⟨_,rfl,?_⟩;rw[List.all_map];by_cases c:ss.all (stB (aj ins gs).length)=true
 ·have e:ss.all (id∘stB (aj ins gs).length)=true:=c;rw[e];refine iteF ?_;walk_at "w";refine sr (ao (ah rfl (aG ⟨p,ss,rfl,SqL.of (S3 _ _ hp),few,λq s7 hq su=>?_⟩)));refine BT (SqL.of (ap hq _ _ (S3 _ _ hp))) (SqL.of ag) ?_;have:=k _ (S3.trans (ap (o:=.lst (s7.map V.str)) hq));unfold nU at this;rw[c,Bool.true_and,<-tu su]at this;exact this
 have e:ss.all (id∘stB (aj ins gs).length)=false:=Xm.mpr c;rw[e];refine bV ?_;walk_at "w";have:=k _ S3;unfold nU at this;rw[Xm.mpr c]at this;exact this
theorem kg:FnScope ["net", "standing", "found"] ["net", "standing"] (au (top 24)):=by walk_at "k"
theorem mo (Fu:Fun K "calm_paper" "calm_paper" (top 24) f fd) (T:Txt K mg TT) (f_check_standing:Fn P w K mg base "check_standing" ["net", "thing"] 3 (iY .non)) (f_steps_found:Fn P w K mg base "steps_found" ["net", "standing"] 15 (fo TL)) (f_is_calm:Fn P w K mg base "is_calm" ["steps", "inputs"] 3 gj) :
  FnOk P w K mg base CX0 16 f fd ["net", "standing"] (de TL):=by
 have S:=kg;refine Fu.ok S (by walk_at "l") (λcdv A outer s H vs Q E hr h=>?_);obtain⟨a,li,lg,ins,gvs,gs,z,rfl,NA,ok,st,tb,k⟩:=h;refine'⟨?_,?bb,?_⟩
 case bb =>
  walk_at "b";exact(cO (aF f_check_standing hr (ad (pv 0) (ad (pv 1) af ae) ae)));exact aO 2 S.nd (aF f_steps_found hr (ad (pv 0) (ad (pv 1) af ae) ae));exact(aB (nR (c6 (aF f_is_calm hr (ad (pv 2) (ad (aD aH (pv 0) ak) af) ae))) (aK (f8 rfl) (by rfl) T.n_sorted PyProof.Rows.boot_sorted (ad (pv 2) af ae)) bU))
 walk_at "e";walk_at "w";refine⟨a,li,lg,ins,gvs,gs,z,rfl,NA,ok,st,λH0 S0=>?_⟩;have NA0:=NA.same S0;have tb0:=fi tb S0;walk_at "w";refine⟨a,li,lg,ins,gvs,gs,z,rfl,NA0,ok,st,tb0,λF as n H1 t1 hF0 ln las hF1 sts=>?_⟩;obtain⟨xs,exs,lxs,met,few⟩:=yq ok st ln;rw[exs]at hF1 sts;have NA1:=NA0.mono (t1.lst tb0) (t1.tup tb0);have sd:SD H1 F ins gs xs:=⟨as,.inl hF1,by omega,λi x b e1 e2=>sts i (Sum.inr x) b (bL.mpr ⟨x,e1,rfl⟩) e2⟩;have t01:Tk TL H H1:=(Tk.of tb S0).trans t1;have cl:cR ins gs xs=true:=e_.mpr λh hh p hp=>met.closed hh hp;refine ax ?_;refine s_ret (i_ifE (i_tB (aW (ao (ah rfl (ao (a_ (ah rfl (i_c (bA NA1.ha rfl (aG ⟨F,li,ins,gs,xs,rfl,sd,met.nd,by omega,cl,NA1.hi,ok,λH2 S2=>?_⟩)))))))))));refine⟨_,rfl,?_⟩;have t02:Tk TL H H2:=t01.trans (Tk.of t01.tab S2);by_cases c:cN ins gs xs=true
 ·rw[c];refine bV (i_cb (ao (ah rfl (aG ⟨F,xs,rfl,yE (.inl (S2 _ _ hF1)) (by omega),by omega,λp ss hp pm so=>?_⟩))))
  have p0:H p=none:=by
   cases e:H p with
   | none=>rfl
   | some u =>
   by_cases c:p=TL
   ·obtain⟨ps,e2⟩:=vo t02.tab;rw[c,e2]at hp;cases hp
   rw[t02.old _ _ e c]at hp;cases hp
  refine k xs _ _ (t02.trans (Tk.of t02.tab (ap hp))) met ?_;rw[Qz c];exact⟨p,ss,rfl,p0,pm,so,ag⟩
 rw[Xm.mpr c];refine iteF (i_c ?_);refine k xs _ _ t02 met ?_;rw[QA c]
theorem kf:FnScope ["net", "standing", "paper", "steps"] ["net", "standing", "paper"] (au (top 27)):=by walk_at "k"
theorem mn (Fu:Fun K "calm_shows" "calm_shows" (top 27) f fd) (T:Txt K mg TT) (f_check_standing:Fn P w K mg base "check_standing" ["net", "thing"] 3 (iY .non)) (f_is_paper:Fn P w K mg base "is_paper" ["net", "thing"] 3 gQ) (f_steps_from:Fn P w K mg base "steps_from" ["net", "standing"] 12 fk)
  (f_is_closed:Fn P w K mg base "is_closed" ["steps"] 1 fR) (f_is_calm:Fn P w K mg base "is_calm" ["steps", "inputs"] 3 gj):FnOk P w K mg base CX0 13 f fd ["net", "standing", "paper"] eO:=by
 have S:=kf;refine Fu.ok S (by walk_at "l") (λcdv A outer s H vs Q E hr h=>?_);obtain⟨a,li,lg,ins,gvs,gs,z,p,ss,rfl,NA,ok,st,hp,few,len,k⟩:=h;refine'⟨?_,?bb,?_⟩
 case bb =>
  walk_at "b";exact(cO (aF f_check_standing hr (ad (pv 0) (ad (pv 1) af ae) ae)));exact(PW.pt (je (dS (c6 (aF f_is_paper hr (ad (pv 0) (ad (pv 2) af ae) ae)))) (fT (aL dX (pv 1) (pv 2) rfl))));exact(aB dF);exact aO 3 S.nd (rK rfl (by rfl) T.n_dict (ad (c7 "here" [("net", 0)] (bq (pv 2)) (λ_ _ _ _=>(be (ad (pv 0) (ad (aF f_steps_from hr (ad (pv 1) (ad (pv 0) af ae) ae)) af aS) ae)))) af));exact(aB (tZ (aF f_is_closed hr (ad (pv 3) af ae)) (mf (aF f_is_calm hr (ad (pv 3) (ad (aD aH (pv 0) ak) af) ae)))))
 walk_at "e";walk_at "w";refine⟨a,li,lg,ins,gvs,gs,z,rfl,NA,ok,st,λH0 S0=>?_⟩;walk_at "w";refine⟨a,li,lg,ins,gvs,gs,p,ss,rfl,NA.same S0,ok,S0 _ _ hp,few,len,λH1 S1=>?_⟩;refine⟨_,rfl,?_⟩;have S01:=S0.trans S1;by_cases c:nU (aj ins gs).length ss=true
 case neg =>
  rw[Xm.mpr c];refine bV ?_;walk_at "w";have:=k _ S01;unfold eR at this;rw[Xm.mpr c]at this;exact this
 rw[c];refine iteF ?_;refine i_test (a_ (ah rfl (ah rfl (jH (SqL.of (S01 _ _ hp)) ⟨_,rfl,?_⟩))));by_cases cz:z∈ss
 case neg =>
  rw[QI cz];refine bV ?_;walk_at "w";have:=k _ S01;unfold eR at this;rw[c,QI cz]at this;exact this
 rw[QU cz];refine iteF ?_;obtain⟨sts,nd,so⟩:=xX c;walk_at "s";walk_at "s";refine bE (uL (ao (i_comp (s_list (ah rfl ⟨p,rfl,⟨_,SqL.of (S01 _ _ hp)⟩,λL hL=>?_⟩)))));have NA1:=NA.same S01;have hp1:=S01 _ _ hp;let I19:IvC:=λm H3 ys=>aw H1 H3/\H3 L=some (.lst ys)/\ys.length=m/\∃as:List Addr,as.length=m/\(∀b∈as,b≠L)/\Paired (sR H3) ys ((ss.take m).zip (as.map V.ref))/\∀(i:Nat) x b,(ss.take m)[i]?=some x->as[i]?=some b->a9 H3 b (cg (az ins gs x))
 refine bD (xs:=ss.map V.str) I19
  ⟨ap hL,ag,rfl,[],rfl,(λb h=>nomatch h),.nil,λi x b _ e=>by simp at e⟩ (λm H' ys pv=>⟨pv.2.1,SqL.of (pv.1 _ _ hp1)⟩) (λm v H3 ys e pv=>?_) (λH3 ys pv=>?_)
 ·obtain⟨S3,hd,ly,as,las,nL,pr,sas⟩:=pv;rw[Qi]at e
  cases ex:ss[m]? with
  | none=>rw[ex]at e;cases e
  | some x =>
  rw[ex]at e;cases e;have hm:m<ss.length:=(Qe.mp ex).1;refine ax ⟨by repeat' (first|exact trivial|refine⟨rfl,?_⟩),i_yes (bV ?_)⟩;refine i_tup (ao (ah rfl (ao (aW (ao (ah rfl (ao (ah rfl (aG ?_)))))))));refine⟨a,li,lg,ins,gvs,gs,x,rfl,NA1.same S3,ok,sts x (Qg ex),λl vs H4 S4 hl0 hl4 pr4=>?_⟩;refine aG ⟨by simp[sizeLine],λt ht=>?_⟩;generalize hE:upd H4 t _=H5;obtain⟨S5,q5⟩:=ay ht hE;clear hE;have S45:=S4.trans S5;have hd5:=S45 _ _ hd;refine bM.mk hd5 (by rw[Qc];exact hm) (by omega) ⟨bp (S3.trans S45) hL,ag,by rw[Qj,ly];rfl,as++[l],by rw[Qj,las];rfl,λb hb=>?_,?_,λi y b e1 e2=>?_⟩
  all_goals have kt:cr H5 (upd H5 L (.lst (ys++[V.ref t]))):=λb us e=>by rw[aq (λzz=>by rw[zz,hd5]at e;cases e)];exact e
  ·rcases QH.mp hb with h|h
   ·exact nL b h
   rw[Q3]at h;rw[h];exact λzz=>by rw[zz,hd]at hl0;cases hl0
  ·rw[QO,ex,Q8,Qw,List.zip_append (by rw[Qv,Qc];omega)];refine eW (bd (λv q ⟨b,e,h⟩=>⟨b,e,kt _ _ (S45 _ _ h)⟩) pr) ⟨t,rfl,kt _ _ q5⟩
  rw[QO,ex,Q8]at e1;have ltk:(ss.take m).length=m:=by rw[Qv];omega
  have lift:∀{Hx:Hp} {b:Addr} {sts:List (V × Key)},b≠L->cr Hx (upd H5 L (.lst (ys++[V.ref t])))->(∀us,Hx b=some (.lst us)->H5 b=some (.lst us))->a9 Hx b sts->a9 (upd H5 L (.lst (ys++[V.ref t]))) b sts:=λ{Hx b sts} hb kk hh ⟨us,h1,h2⟩=>⟨us,by rw[aq hb];exact hh us h1,bd (λv s ⟨c,ec,q⟩=>⟨c,ec,kk _ _ q⟩) h2⟩;by_cases ci:i<m
  ·rw[QT (by omega)]at e1;rw[QT (by omega)]at e2;have st3:=sas i y b e1 e2;have hb:b≠L:=nL b (Qg e2);exact lift hb (λc us e=>kt _ _ (S45 _ _ e)) (λus e=>S45 _ _ e) st3
  rw[QN (by omega)]at e1 e2
  have hi:i=m:=by
   have:=(Qe.mp e2).1;simp at this;omega
  subst hi;rw[ltk,Nat.sub_self]at e1;rw[las,Nat.sub_self]at e2;cases e1;cases e2;have hb:l≠L:=λzz=>by rw[zz,hd]at hl0;cases hl0
  exact lift hb (λc us e=>kt _ _ (S5 _ _ e)) (λus e=>S5 _ _ e) (ic hl4 pr4)
 obtain⟨S3,hd,ly,as,las,nL,pr,sas⟩:=pv;rw[Qc]at ly las;rw[Qc,Qs (Qh _)]at pr sas;refine aG ⟨L,ys,_,rfl,SqL.of hd,by omega,pr,λd hd0=>?_⟩;rw[rG nd las];refine ax ?_;generalize hE:upd H3 d _=H4;obtain⟨S4,q4⟩:=ay hd0 hE;clear hE;have S14:=S3.trans S4;have sd:SD H4 d ins gs ss:=⟨as,.inl q4,las,λi x b e1 e2=>(sas i x b e1 e2).same S4⟩;refine s_ret (i_andV (aW (ao (ah rfl (aG ⟨d,ins,gs,ss,rfl,sd,nd,by omega,ok,λH5 S5=>?_⟩)))));refine⟨_,rfl,?_⟩;have S05:=S01.trans (S14.trans S5);by_cases cc:cR ins gs ss=true
 ·rw[cc];refine bV ?_;have NA5:=NA.same S05;refine aW (ao (ah rfl (ao (a_ (ah rfl (i_c (bA NA5.ha rfl (aG ⟨d,li,ins,gs,ss,rfl,sd.same S5,nd,by omega,cc,NA5.hi,ok,λH6 S6=>?_⟩))))))));have:=k _ (S05.trans S6);unfold eR at this;rw[c,QU cz,cc]at this;exact this
 rw[Xm.mpr cc];refine iteF ?_;have:=k _ S05;unfold eR at this;rw[c,QU cz,Xm.mpr cc]at this;exact this
end
def Rl.ren (ρ:Str->Str):Rl->Rl
 | .w n=>.w (ρ n)
 | .no r=>.no (r.ren ρ)
 | .an a b=>.an (a.ren ρ) (b.ren ρ)
 | .orr a b=>.orr (a.ren ρ) (b.ren ρ)
theorem fu (ρ:Str->Str):∀r:Rl,(r.ren ρ).dep=r.dep
 | .w _=>rfl
 | .no r=>by simp[Rl.ren,Rl.dep,fu ρ r]
 | .an a b=>by simp[Rl.ren,Rl.dep,fu ρ a,fu ρ b]
 | .orr a b=>by simp[Rl.ren,Rl.dep,fu ρ a,fu ρ b]
theorem gT {ρ:Str->Str} {ns ms:List Str} (h:∀n∈ns,ρ n∈ms):∀r:Rl,r.ok ns->(r.ren ρ).ok ms
 | .w n,q=>h n q
 | .no r,q=>gT h r q
 | .an a b,q=>⟨gT h a q.1,gT h b q.2⟩
 | .orr a b,q=>⟨gT h a q.1,gT h b q.2⟩
theorem fq {ρ:Str->Str} {f g:Str->Bool} {ns:List Str} (h:∀n∈ns,g (ρ n)=f n):∀r:Rl,r.ok ns->(r.ren ρ).val g=r.val f
 | .w n,q=>h n q
 | .no r,q=>by show (!(r.ren ρ).val g)=!r.val f;rw[fq h r q]
 | .an a b,q=>by show ((a.ren ρ).val g&&(b.ren ρ).val g)=(a.val f&&b.val f);rw[fq h a q.1,fq h b q.2]
 | .orr a b,q=>by show ((a.ren ρ).val g || (b.ren ρ).val g)=(a.val f || b.val f);rw[fq h a q.1,fq h b q.2]
def ce (z:Str) (mv:List Nat):Str:=⟨(mv.map λk=>z.cps.getD k 0).toArray⟩
theorem eS (z:Str) (mv:List Nat) (j:Nat):(ce z mv).cps.getD j 0=(mv[j]?.map λk=>z.cps.getD k 0).getD 0:=by
 unfold ce;rw[Q9,List.getElem?_toArray,Qi]
theorem pk {mv:List Nat} (st:StOk n z) (pm:mv.Perm (List.range n)):StOk n (ce z mv):=by
 refine⟨by unfold ce;rw[Qk,Qc,pm.length_eq,Xl],λc hc=>?_⟩;unfold ce at hc;simp only[Qo]at hc;obtain⟨k,hk,rfl⟩:=hc;have hk:=Xk.mp (pm.mem_iff.mp hk);refine st.signs _ ?_;rw[Q9,QF (by rw[st.len];exact hk)];exact Array.getElem_mem_toList _
theorem gg {n:Nat} (hx:x.cps.size=n) (hy:y.cps.size=n) (h:∀i,i<n->x.cps.getD i 0=y.cps.getD i 0):x=y:=by
 cases x with|mk a =>
 cases y with|mk b =>
 refine congrArg Str.mk (Array.ext (hx.trans hy.symm) λi h1 h2=>?_);have:=h i (by rw[<-hx];exact h1);simpa[Array.getD,h1,h2] using this
theorem mB {mv:List Nat} (pm:mv.Perm (List.range n)) (hi:i<n):∃j,j<n/\mv[j]?=some i:=by
 obtain⟨j,hj,e⟩:=Qr.mp (pm.mem_iff.mpr (Xk.mpr hi));exact⟨j,by rw[pm.length_eq,Xl]at hj;exact hj,by rw[Qb hj,e]⟩
theorem vA {mv:List Nat} (sx:StOk n x) (sy:StOk n y) (pm:mv.Perm (List.range n)) (e:ce x mv=ce y mv):x=y:=by
 refine gg sx.len sy.len λi hi=>?_;obtain⟨j,_,ej⟩:=mB pm hi;have h1:=eS x mv j;have h2:=eS y mv j;rw[e,h2,ej]at h1;exact h1.symm
theorem eM (st:StOk n z) (hi:i<n) (k:Nat):(bW z i).cps.getD k 0=if k=i then (if (z.cps.getD i 0==49)=true then 48 else 49) else z.cps.getD k 0:=by
 have l:z.cps.toList.length=n:=by rw[Qu];exact st.len
 have e:(bW z i).cps.toList=z.cps.toList.set i (if (z.cps.getD i 0==49)=true then 48 else 49):=by
  rw[turn_list st hi,List.set_eq_take_append_cons_drop,Qz (show i<z.cps.toList.length by omega)]
 have g:∀(y:Str) (k:Nat),y.cps.getD k 0=y.cps.toList[k]?.getD 0:=λy k=>by rw[Qx,Q9]
 rw[g,e,List.getElem?_set];by_cases c:k=i
 ·subst c;rw[Qz rfl,Qz rfl,Qz (by omega)];rfl
 rw[QA (λz=>c z.symm),QA c,<-g]
theorem sY {n:Nat} {z:Str} {mv:List Nat} (st:StOk n z) (pm:mv.Perm (List.range n)) (hj:j<n) (e:mv[j]?=some i) (hi:i<n):bW (ce z mv) j=ce (bW z i) mv:=by
 have sp:=pk st pm;have nd:mv.Nodup:=pm.nodup_iff.mpr List.nodup_range;refine gg (fh sp hj).len (pk (fh st hi) pm).len λk hk=>?_;rw[eM sp hj k,eS,eS,eS,e];by_cases c:k=j
 ·subst c;rw[Qz rfl,e];show _=(bW z i).cps.getD i 0;rw[eM st hi i,Qz rfl];rfl
 rw[QA c]
 cases ek:mv[k]? with
 | none=>rfl
 | some i' =>
 have ne:i'≠i:=λq=>c (by
  subst q
  exact(List.getElem?_inj (Qe.mp ek).1 nd).mp (by rw[ek,e]))
 show _=(bW z i).cps.getD i' 0;rw[eM st hi i',QA ne];rfl
def g0:Str × Rl:=("", .w "")
theorem fw (n i:Nat):(List.range n)[i]?=if i<n then some i else none:=by
 by_cases c:i<n
 ·rw[Qz c,List.getElem?_range c]
 rw[QA c,QY (by rw[Xl];omega)]
theorem gE {α β:Type} {f g:α->Option β}:∀{xs:List α},(∀x∈xs,f x=g x)->xs.filterMap f=xs.filterMap g
 | [],_=>rfl
 | x::xs,h=>by rw[XC,XC,h x (by simp),gE λy hy=>h y (Qq _ hy)]
theorem my {α β:Type} {f:α->β}:∀{xs:List α},(∀a∈xs,∀b∈xs,f a=f b->a=b)->xs.Nodup->(xs.map f).Nodup
 | [],_,_=>by simp
 | x::xs,h,nd=>by
  rw[Xi]at nd;rw[QC,Xi];refine⟨λq=>?_,my (λa ha b hb=>h a (Qq _ ha) b (Qq _ hb)) nd.2⟩;obtain⟨b,hb,e⟩:=Qo.mp q;exact nd.1 (by rw[<-h b (Qq _ hb) x (by simp) e];exact hb)
theorem qX {α:Type} (d:α) (gs:List α) (n:Nat):gs.zipIdx n=(List.range gs.length).map λk=>(gs.getD k d,n+k):=by
 refine List.ext_getElem? λi=>?_;rw[List.getElem?_zipIdx,Qi,fw];by_cases c:i<gs.length
 ·rw[Qb c,Qz c];simp[Ql,Qb c]
 rw[QY (by omega),QA c];rfl
def ie (ins:List Str) (gs:List (Str × Rl)) (z:Str) (k:Nat):Option (Str × Str):=cs (sgn (aj ins gs) z) z (gs.getD k g0,ins.length+k)
theorem cG (ins:List Str) (gs:List (Str × Rl)) (z:Str):az ins gs z=(List.range gs.length).filterMap (ie ins gs z):=by
 unfold az;rw[qX g0,List.filterMap_map];rfl
structure Oth (ins:List Str) (gs:List (Str × Rl)) (is os:List Nat) (ρ:Str->Str) (ins':List Str) (gs':List (Str × Rl)):Prop where
 pi:is.Perm (List.range ins.length)
 po:os.Perm (List.range gs.length)
 inj:∀a∈aj ins gs,∀b∈aj ins gs,ρ a=ρ b->a=b
 ei:ins'=is.map λk=>ρ (ins.getD k "")
 eg:gs'=os.map λk=>(ρ (gs.getD k g0).1,(gs.getD k g0).2.ren ρ)
def mvd (is os:List Nat) (n:Nat):List Nat:=is++os.map (n+·)
section
variable {ins:List Str} {gs:List (Str × Rl)} {is os:List Nat} {ρ:Str->Str} {ins':List Str} {gs':List (Str × Rl)}
theorem Oth.mv (h:Oth ins gs is os ρ ins' gs'):(mvd is os ins.length).Perm (List.range (ins.length+gs.length)):=by
 unfold mvd;rw[List.range_add];exact h.pi.append (h.po.map _)
theorem Oth.li (h:Oth ins gs is os ρ ins' gs'):ins'.length=ins.length:=by rw[h.ei,Qc,h.pi.length_eq,Xl]
theorem Oth.lg (h:Oth ins gs is os ρ ins' gs'):gs'.length=gs.length:=by rw[h.eg,Qc,h.po.length_eq,Xl]
theorem Oth.wires (h:Oth ins gs is os ρ ins' gs'):aj ins' gs'=(mvd is os ins.length).map λk=>ρ ((aj ins gs).getD k ""):=by
 unfold aj mvd;rw[h.ei,h.eg,Qw,QW,QW];congr 1
 ·refine List.map_congr_left λk hk=>?_;have hk:=Xk.mp (h.pi.mem_iff.mp hk);rw[Ql,Ql,QT hk]
 refine List.map_congr_left λk hk=>?_;have hk:=Xk.mp (h.po.mem_iff.mp hk);show ρ (gs.getD k g0).1=ρ ((ins++gs.map (·.1)).getD (ins.length+k) "");rw[Ql,Ql,QN (by omega),Xg,Qi,Qb hk];rfl
theorem Oth.ok (h:Oth ins gs is os ρ ins' gs') (ok:NetOk ins gs):NetOk ins' gs':=by
 have mvp:=h.mv;have wl:=aP ins gs
 have memw:∀k∈mvd is os ins.length,(aj ins gs).getD k "" ∈ aj ins gs:=λk hk=>by
  have hk:=Xk.mp (mvp.mem_iff.mp hk);rw[Ql,Qb (by omega)];exact Xj _
 refine⟨?_,by rw[h.li];exact ok.i4,by rw[h.lg];exact ok.g1,by rw[h.lg];exact ok.g7,λg hg=>?_⟩
 ·rw[h.wires];refine my (λa ha b hb e=>?_) (mvp.nodup_iff.mpr List.nodup_range);have e2:=h.inj _ (memw a ha) _ (memw b hb) e;have ha:=Xk.mp (mvp.mem_iff.mp ha);have hb:=Xk.mp (mvp.mem_iff.mp hb);rw[Ql,Ql,Qb (by omega),Qb (by omega)]at e2;exact(List.getElem_inj ok.nd).mp e2
 rw[h.eg]at hg;obtain⟨k,hk,rfl⟩:=Qo.mp hg;have hk:=Xk.mp (h.po.mem_iff.mp hk);have hm:gs.getD k g0∈gs:=by rw[Ql,Qb hk];exact Xj _
 obtain⟨r1,r2⟩:=ok.rules _ hm;refine⟨gT (λn hn=>?_) _ r1,by show ((gs.getD k g0).2.ren ρ).dep<=10;rw[fu];exact r2⟩;rw[h.wires];obtain⟨i,hi,e⟩:=Qr.mp hn;obtain⟨j,_,ej⟩:=mB mvp (i:=i) (by omega);refine Qo.mpr ⟨i,Qg ej,?_⟩;rw[Ql,Qb hi,e];rfl
theorem Oth.sgn (h:Oth ins gs is os ρ ins' gs') (ok:NetOk ins gs) {z:Str} {n:Str} (hn:n∈aj ins gs):sgn (aj ins' gs') (ce z (mvd is os ins.length)) (ρ n)=sgn (aj ins gs) z n:=by
 have wl:=aP ins gs;obtain⟨i,hi,e⟩:=Qr.mp hn;obtain⟨j,_,ej⟩:=mB h.mv (i:=i) (by omega);have nd':=(h.ok ok).nd
 have ew:(aj ins' gs')[j]?=some (ρ n):=by
  rw[h.wires,Qi,ej];show some (ρ ((aj ins gs).getD i ""))=_;rw[Ql,Qb hi,e];rfl
 have ix:∀{ws:List Str} {x:Str} {k:Nat},ws.Nodup->ws[k]?=some x->ws.idxOf x=k:=λ{ws x k} nd e=>by
  have hm:=Qg e;have h1:=List.idxOf_lt_length_iff.mpr hm;refine(List.getElem?_inj h1 nd).mp ?_;rw[e,Qb h1,List.getElem_idxOf h1]
 unfold K2.sgn;rw[ix nd' ew,ix ok.nd (by rw[Qb hi,e]),eS,ej];rfl
variable {z:Str}
theorem Oth.step (h:Oth ins gs is os ρ ins' gs') (ok:NetOk ins gs) (st:StOk (aj ins gs).length z) {j k:Nat} (ek:os[j]?=some k) :
  ie ins' gs' (ce z (mvd is os ins.length)) j=(ie ins gs z k).map λp=>(ρ p.1,ce p.2 (mvd is os ins.length)):=by
 have hk:=Xk.mp (h.po.mem_iff.mp (Qg ek))
 have hj:j<gs.length:=by
  have:=(Qe.mp ek).1;rw[h.po.length_eq,Xl]at this;exact this
 have hm:gs.getD k g0∈gs:=by rw[Ql,Qb hk];exact Xj _
 obtain⟨r1,_⟩:=ok.rules _ hm;have wl:=aP ins gs
 have eg:gs'.getD j g0=(ρ (gs.getD k g0).1,(gs.getD k g0).2.ren ρ):=by
  rw[h.eg,Ql,Qi,ek];rfl
 have em:(mvd is os ins.length)[ins.length+j]?=some (ins.length+k):=by
  unfold mvd;have l:is.length=ins.length:=by rw[h.pi.length_eq,Xl]
  rw[QN (by omega),l,Xg,Qi,ek];rfl
 have ev:=fq (λn hn=>h.sgn ok (z:=z) hn) _ r1;have ez:(ce z (mvd is os ins.length)).cps.getD (ins.length+j) 0=z.cps.getD (ins.length+k) 0:=by rw[eS,em];rfl
 have et:=sY (n:=(aj ins gs).length) (z:=z) (mv:=mvd is os ins.length) st (by rw[wl];exact h.mv) (i:=ins.length+k) (j:=ins.length+j) (by omega) em (by omega);unfold ie cs;rw[h.li,eg];show (if ((((gs.getD k g0).2.ren ρ).val _==_)=true) then none else some (ρ (gs.getD k g0).1,bW _ (ins.length+j)))=_;rw[ev,ez,et]
 split
 ·rfl
 rfl
theorem Oth.steps (h:Oth ins gs is os ρ ins' gs') (ok:NetOk ins gs) (st:StOk (aj ins gs).length z) :
  az ins' gs' (ce z (mvd is os ins.length))=os.filterMap λk=>(ie ins gs z k).map λp=>(ρ p.1,ce p.2 (mvd is os ins.length)):=by
 have lo:os.length=gs.length:=by rw[h.po.length_eq,Xl]
 rw[cG,h.lg,<-lo]
 have eo:os=(List.range os.length).map λj=>os.getD j 0:=by
  refine List.ext_getElem? λi=>?_;rw[Qi,fw];by_cases c:i<os.length
  ·rw[Qb c,Qz c];simp[Ql,Qb c]
  rw[QY (by omega),QA c];rfl
 generalize hf:(λk=>(ie ins gs z k).map λp=>(ρ p.1,ce p.2 (mvd is os ins.length)))=F
 conv=>rhs;rw[eo,List.filterMap_map]
 subst hf;refine gE λj hj=>?_;have hj:=Xk.mp hj;have ek:os[j]?=some (os.getD j 0):=by rw[Ql,Qb hj];rfl
 exact h.step ok st ek
theorem Oth.perm (h:Oth ins gs is os ρ ins' gs') (ok:NetOk ins gs) (st:StOk (aj ins gs).length z) :
  (az ins' gs' (ce z (mvd is os ins.length))).Perm ((az ins gs z).map λp=>(ρ p.1,ce p.2 (mvd is os ins.length))):=by
 rw[h.steps ok st,cG ins gs z,List.map_filterMap];exact h.po.filterMap _
theorem Oth.same (h:Oth ins gs is os ρ ins' gs') (ok:NetOk ins gs) (e:os=List.range gs.length) (st:StOk (aj ins gs).length z) :
  az ins' gs' (ce z (mvd is os ins.length))=(az ins gs z).map λp=>(ρ p.1,ce p.2 (mvd is os ins.length)):=by
 rw[h.steps ok st,cG ins gs z,List.map_filterMap];generalize hf:(λk=>(ie ins gs z k).map λp=>(ρ p.1,ce p.2 (mvd is os ins.length)))=F;clear hf;rw[e]
end
def Rl.turn:Rl->Rl
 | .w n=>.w n
 | .no r=>.no r.turn
 | .an a b=>.orr a.turn b.turn
 | .orr a b=>.an a.turn b.turn
theorem dD:∀r:Rl,r.turn.dep=r.dep
 | .w _=>rfl
 | .no r=>by simp only[Rl.turn,Rl.dep,dD r]
 | .an a b=>by simp only[Rl.turn,Rl.dep,dD a,dD b]
 | .orr a b=>by simp only[Rl.turn,Rl.dep,dD a,dD b]
theorem dC {ns:List Str}:∀r:Rl,r.ok ns->r.turn.ok ns
 | .w _,h=>h
 | .no r,h=>dC r h
 | .an a b,h=>⟨dC a h.1,dC b h.2⟩
 | .orr a b,h=>⟨dC a h.1,dC b h.2⟩
theorem dB {f g:Str->Bool} {ns:List Str} (h:∀n∈ns,g n=!f n):∀r:Rl,r.ok ns->r.turn.val g=!r.val f
 | .w n,k=>h n k
 | .no r,k=>by show (!r.turn.val g)=!(!r.val f);rw[dB h r k]
 | .an a b,k=>by show (a.turn.val g || b.turn.val g)=!(a.val f&&b.val f);rw[dB h a k.1,dB h b k.2,Bool.not_and]
 | .orr a b,k=>by show (a.turn.val g&&b.turn.val g)=!(a.val f || b.val f);rw[dB h a k.1,dB h b k.2,Bool.not_or]
theorem bh {v:V} {r:Rl} (S:aw H H') (h:RAt H v r):RAt H' v r:=h.mono (aw.tups S)
def lK (d:Nat):Sp:=λvs H Q _=>∃(v:V) (a:Addr) (kvs:List (Key × V)) (r:Rl) (ns:List Str) (ρ:Str->Str),vs=[v,.ref a]/\RAt H v r/\r.dep<=d/\r.ok ns/\H a=some (.dK kvs)/\(∀n∈ns,bn kvs (Sum.inr n:Key)=some (.str (ρ n)))/\∀u H',aw H H'->RAt H' u (r.ren ρ)->Q u H'
def iE (d:Nat):Sp:=λvs H Q _=>∃(v:V) (r:Rl),vs=[v]/\RAt H v r/\r.dep<=d/\∀u H',aw H H'->RAt H' u r.turn->Q u H'
section
theorem fH:FnScope ["rule", "others"] ["rule", "others"] (au (top 43)):=by walk_at "k"
theorem qH {f:Addr} {fd:FuncData} (Fu:Fun K "_law_renamed_rule" "_law_renamed_rule" (top 43) f fd) (T:Txt K mg TT) (hm:mg "_law_renamed_rule" = some (.ref f)) (hk:PySem.W.keepIn K (.ref f)=true) (hb:fM K fd ["rule", "others"] []):∀d,FnOk P w K mg base CX0 d f fd ["rule", "others"] (lK d)
 | 0=>fX λvs H Q E ⟨v,a,kvs,r,ns,ρ,_,_,h,_⟩=>by have:=mM r;omega
 | d+1=>by
  have S:=fH;have f_law_renamed_rule:Fn P w K mg base "_law_renamed_rule" ["rule", "others"] d (lK d):=⟨f,fd,qH Fu T hm hk hb d,hm,hk,hb⟩;refine Fu.ok S (λvs H Q E h=>?_) (λcdv A outer s H vs Q E hr h=>?_)
  ·obtain⟨v,a,kvs,r,ns,ρ,rfl,_⟩:=h;rfl
  obtain⟨v,a,kvs,r,ns,ρ,rfl,ra,hd,rok,ha,hf,q⟩:=h;have hu:=eI hr
  refine⟨_,(pss_cons (ps_if (aL eF (aD aH (pv 0) ak) aE (aZ _)) (aI (aB (be (ad aE (ad (bO hu (pv 1) (aD aH (pv 0) ak)) af) aA)))) pss_nil)
  (pss_cons (ps_if (aL eF (aD aH (pv 0) ak) aE (aZ _)) (aI (aB (be (ad aE (ad (aF f_law_renamed_rule hr (ad (aD aH (pv 0) ak) (ad (pv 1) af ae))) af aS) aA)))) pss_nil)
  (aI (aB (be (ad (aD aH (pv 0) ak) (ad (aF f_law_renamed_rule hr (ad (aD aH (pv 0) ak) (ad (pv 1) af ae))) (ad (aF f_law_renamed_rule hr (ad (aD aH (pv 0) ak) (ad (pv 1) af ae))) af aS) aS))))))),?_⟩
  walk_at "e"
  cases ra with
  | @w b n hb =>
   walk_at "w";refine ifT (by decide +kernel) ?_;walk_at "w";refine⟨a,.str (ρ n),rfl,by rw[<-hf n rok];exact cC.k (k:=Sum.inr n) ha,?_⟩;walk_at "w";refine⟨by simp[sizeLine],λt ht=>q _ _ (ap ht) (.w ag)⟩
  | @no b u r hb hr1 =>
   walk_at "w";refine ifF (by decide +kernel) ?_;walk_at "w";refine ifT (by decide +kernel) ?_;walk_at "w";refine⟨u,a,kvs,r,ns,ρ,rfl,hr1,by simp only[Rl.dep]at hd;omega,rok,ha,hf,λu1 H1 S1 r1=>?_⟩;walk_at "w";refine⟨by simp[sizeLine],λt ht=>q _ _ (S1.trans (ap ht)) (.no ag (bh (ap ht) r1))⟩
  | @an b u x r1 r2 hb hr1 hr2 =>
   walk_at "w";refine ifF (by decide +kernel) ?_;walk_at "w";refine ifF (by decide +kernel) ?_;walk_at "w";simp only[Rl.dep]at hd;refine⟨u,a,kvs,r1,ns,ρ,rfl,hr1,by omega,rok.1,ha,hf,λu1 H1 S1 q1=>?_⟩;have hb1:=S1 _ _ hb;have ha1:=S1 _ _ ha;walk_at "w";refine⟨x,a,kvs,r2,ns,ρ,rfl,bh S1 hr2,by omega,rok.2,ha1,hf,λu2 H2 S2 q2=>?_⟩;walk_at "w";refine⟨by simp[sizeLine],λt ht=>q _ _ (S1.trans (S2.trans (ap ht))) (.an ag (bh (S2.trans (ap ht)) q1) (bh (ap ht) q2))⟩
  | @orr b u x r1 r2 hb hr1 hr2 =>
  walk_at "w";refine ifF (by decide +kernel) ?_;walk_at "w";refine ifF (by decide +kernel) ?_;walk_at "w";simp only[Rl.dep]at hd;refine⟨u,a,kvs,r1,ns,ρ,rfl,hr1,by omega,rok.1,ha,hf,λu1 H1 S1 q1=>?_⟩;have hb1:=S1 _ _ hb;have ha1:=S1 _ _ ha;walk_at "w";refine⟨x,a,kvs,r2,ns,ρ,rfl,bh S1 hr2,by omega,rok.2,ha1,hf,λu2 H2 S2 q2=>?_⟩;walk_at "w";refine⟨by simp[sizeLine],λt ht=>q _ _ (S1.trans (S2.trans (ap ht))) (.orr ag (bh (S2.trans (ap ht)) q1) (bh (ap ht) q2))⟩
theorem fS:FnScope ["rule"] ["rule"] (au (top 47)):=by walk_at "k"
theorem nX {f:Addr} {fd:FuncData} (Fu:Fun K "_law_turned_rule" "_law_turned_rule" (top 47) f fd) (T:Txt K mg TT) (hm:mg "_law_turned_rule" = some (.ref f)) (hk:PySem.W.keepIn K (.ref f)=true) (hb:fM K fd ["rule"] []):∀d,FnOk P w K mg base CX0 d f fd ["rule"] (iE d)
 | 0=>fX λvs H Q E ⟨v,r,_,_,h,_⟩=>by have:=mM r;omega
 | d+1=>by
  have S:=fS;have f_law_turned_rule:Fn P w K mg base "_law_turned_rule" ["rule"] d (iE d):=⟨f,fd,nX Fu T hm hk hb d,hm,hk,hb⟩;refine Fu.ok S (λvs H Q E h=>?_) (λcdv A outer s H vs Q E hr h=>?_)
  ·obtain⟨v,r,rfl,_⟩:=h;rfl
  obtain⟨v,r,rfl,ra,hd,q⟩:=h
  refine⟨_,(pss_cons (ps_if (aL eF (aD aH (pv 0) ak) aE (aZ _)) (aI (aB (pv 0))) pss_nil)
  (pss_cons (ps_if (aL eF (aD aH (pv 0) ak) aE (aZ _)) (aI (aB (be (ad aE (ad (aF f_law_turned_rule hr (ad (aD aH (pv 0) ak) af)) af aS) aA)))) pss_nil)
  (aI (aB (be (ad (aD bo (pe_lst (ad aE (ad aE af aA) aA)) (cU lh (by rfl) T.n_int PyProof.Rows.boot_int (ad (cD eF (aD aH (pv 0) ak) aE (aZ _)) af))) (ad (aF f_law_turned_rule hr (ad (aD aH (pv 0) ak) af)) (ad (aF f_law_turned_rule hr (ad (aD aH (pv 0) ak) af)) af aS) aS))))))),?_⟩
  walk_at "e"
  cases ra with
  | @w b n hb =>
   walk_at "w";refine ifT (by decide +kernel) ?_;walk_at "w";exact q _ _ (aw.refl _) (.w hb)
  | @no b u r hb hr1 =>
   walk_at "w";refine ifF (by decide +kernel) ?_;walk_at "w";refine ifT (by decide +kernel) ?_;walk_at "w";refine⟨u,r,rfl,hr1,by simp only[Rl.dep]at hd;omega,λu1 H1 S1 r1=>?_⟩;walk_at "w";refine⟨by simp[sizeLine],λt ht=>q _ _ (S1.trans (ap ht)) (.no ag (bh (ap ht) r1))⟩
  | @an b u x r1 r2 hb hr1 hr2 =>
   walk_at "w";refine ifF (by decide +kernel) ?_;walk_at "w";refine ifF (by decide +kernel) ?_;walk_at "w";refine⟨by simp[sizeLine],λl hl=>?_⟩;generalize hE:upd H l _=H0;obtain⟨S0,q0⟩:=ay hl hE;clear hE;have hb0:=S0 _ _ hb;walk_at "w";simp only[Rl.dep]at hd;refine⟨u,r1,rfl,bh S0 hr1,by omega,λu1 H1 S1 q1=>?_⟩;have hb1:=S1 _ _ hb0;walk_at "w";refine⟨x,r2,rfl,bh (S0.trans S1) hr2,by omega,λu2 H2 S2 q2=>?_⟩;walk_at "w";refine⟨by simp[sizeLine],λt ht=>q _ _ (S0.trans (S1.trans (S2.trans (ap ht)))) (.orr ag (bh (S2.trans (ap ht)) q1) (bh (ap ht) q2))⟩
  | @orr b u x r1 r2 hb hr1 hr2 =>
  walk_at "w";refine ifF (by decide +kernel) ?_;walk_at "w";refine ifF (by decide +kernel) ?_;walk_at "w";refine⟨by simp[sizeLine],λl hl=>?_⟩;generalize hE:upd H l _=H0;obtain⟨S0,q0⟩:=ay hl hE;clear hE;have hb0:=S0 _ _ hb;walk_at "w";simp only[Rl.dep]at hd;refine⟨u,r1,rfl,bh S0 hr1,by omega,λu1 H1 S1 q1=>?_⟩;have hb1:=S1 _ _ hb0;walk_at "w";refine⟨x,r2,rfl,bh (S0.trans S1) hr2,by omega,λu2 H2 S2 q2=>?_⟩;walk_at "w";refine⟨by simp[sizeLine],λt ht=>q _ _ (S0.trans (S1.trans (S2.trans (ap ht)))) (.an ag (bh (S2.trans (ap ht)) q1) (bh (ap ht) q2))⟩
end
theorem fY {α β:Type} {f g:α->List β}:∀{xs:List α},(∀x∈xs,f x=g x)->xs.flatMap f=xs.flatMap g
 | [],_=>rfl
 | x::xs,h=>by rw[List.flatMap_cons,List.flatMap_cons,h x (by simp),fY λy hy=>h y (Qq _ hy)]
theorem d8 {st:Str->List (Str × Str)}:∀{xs:List Str} {x nm h:Str},bY (evs st xs) x=some (nm,h)->∃b:Nat,xs[b]?=some h/\(nm,x)∈st h/\∀(c:Nat) g,c<b->xs[c]?=some g->∀p∈st g,p.2≠x
 | [],x,nm,h,e=>by cases e
 | x0::xs,x,nm,h,e=>by
  have split:evs st (x0::xs)=((st x0).map λp=>(p.2,(p.1,x0)))++evs st xs:=rfl;unfold bY at e;rw[split,List.find?_append]at e
  cases q:((st x0).map λp=>(p.2,(p.1,x0))).find? λe=>e.1==x with
  | some r =>
   rw[q]at e;have hm:=List.mem_of_find?_eq_some q;have hx:=List.find?_some q;obtain⟨p',hp,rfl⟩:=Qo.mp hm;cases e;have hx:p'.2=x:=by simpa using hx
   exact⟨0,rfl,by rw[<-hx];exact hp,λc g l=>by omega⟩
  | none =>
  rw[q,Option.none_or]at e;obtain⟨b,h1,h2,h3⟩:=d8 (xs:=xs) (x:=x) (nm:=nm) (h:=h) e;refine⟨b+1,by simpa using h1,h2,λc g l e2 p hp z=>?_⟩
  cases c with
  | zero =>
   simp at e2;subst e2;have:=List.find?_eq_none.mp q (p.2,(p.1,x0)) (Qo.mpr ⟨p,hp,rfl⟩);simp[z]at this
  | succ c=>exact h3 c g (by omega) (by simpa using e2) p hp z
structure TrX (ins:List Str) (gs:List (Str × Rl)) (ins':List Str) (gs':List (Str × Rl)) (φ ρ:Str->Str):Prop where
 steps:∀x,StOk (aj ins gs).length x->az ins' gs' (φ x)=(az ins gs x).map λp=>(ρ p.1,φ p.2)
 st:∀x,StOk (aj ins gs).length x->StOk (aj ins' gs').length (φ x)
 inj:∀x y,StOk (aj ins gs).length x->StOk (aj ins gs).length y->φ x=φ y->x=y
 rho:∀a b,a∈aj ins gs->b∈aj ins gs->ρ a=ρ b->a=b
theorem bK (h:p∈az ins gs x):p.1∈aj ins gs:=by
 obtain⟨i,_,_,_,g,eg,e⟩:=gh h;rw[e];exact QL _ (Qo.mpr ⟨g,Qg eg,rfl⟩)
theorem iD (st:StOk (aj ins gs).length x) (h:p∈az ins gs x):StOk (aj ins gs).length p.2:=by
 obtain⟨i,_,h2,e,_⟩:=gh h;rw[e];exact fh st (by rw[aP];exact h2)
section
variable {ins:List Str} {gs:List (Str × Rl)} {ins':List Str} {gs':List (Str × Rl)} {φ ρ:Str->Str} (h:TrX ins gs ins' gs' φ ρ)
include h
variable {xs ns:List Str} {z x:Str}
theorem TrX.met (m:Met ins gs z xs):Met ins' gs' (φ z) (xs.map φ):=by
 have sz:=m.st z (Qg m.zero);let f:Key->Key:=λk=>match k with|.inr x=>.inr (φ x)|.inl i=>.inl i
 have rs:∀k,Bf.Reach (nxK (stN ins gs)) (Sum.inr z) k->∃y:Str,k=Sum.inr y/\StOk (aj ins gs).length y:=λk r=>cZ sz r
 have bm:=Bf.qV (f:=f) (nx:=nxK (stN ins gs)) (nx':=nxK (stN ins' gs')) (s:=Sum.inr z) (λk r=>by
  obtain⟨y,rfl,sy⟩:=rs k r;show nxK (stN ins' gs') (Sum.inr (φ y))=_;unfold nxK stN cg;dsimp only;rw[h.steps y sy,QW,QW,QW,QW];rfl) (λa b ra rb q=>by
  obtain⟨y,rfl,sy⟩:=rs a ra;obtain⟨y',rfl,sy'⟩:=rs b rb
  rw[h.inj y y' sy sy' (Sum.inr.inj q)]) xs.length
 refine⟨?_,λx hx=>?_⟩
 ·rw[Qc];show _=Bf.bfs (nxK (stN ins' gs')) (f (Sum.inr z)) xs.length;rw[bm,<-m.bfs];unfold aC;rw[QW,QW];rfl
 obtain⟨y,hy,rfl⟩:=Qo.mp hx;exact h.st y (m.st y hy)
theorem TrX.ask (sx:StOk (aj ins gs).length x):f_ ins' gs' (φ x)=(f_ ins gs x).map ρ:=by
 unfold f_;rw[h.steps x sx,QW,QW];rfl
theorem TrX.calm (sx:StOk (aj ins gs).length x):bR ins' gs' (φ x)=(bR ins gs x).map λp=>(ρ p.1,ρ p.2):=by
 unfold bR;rw[h.ask sx,h.steps x sx,List.flatMap_map,List.map_flatMap];refine fY λc hc=>?_;rw[List.filterMap_map,List.map_filterMap];refine gE λp hp=>?_
 have hcw:c∈aj ins gs:=by
  obtain⟨q,hq,rfl⟩:=Qo.mp hc;exact bK hq
 have e1:(ρ p.1≠ρ c)↔(p.1≠c):=not_congr ⟨λe=>h.rho _ _ (bK hp) hcw e,λe=>by rw[e]⟩
 have e2:(ρ c∉f_ ins' gs' (φ p.2))↔(c∉f_ ins gs p.2):=by
  rw[h.ask (iD sx hp)];refine not_congr ⟨λq=>?_,λq=>Qo.mpr ⟨c,q,rfl⟩⟩;obtain⟨d,hd,e⟩:=Qo.mp q;obtain⟨u,hu,rfl⟩:=Qo.mp (id hd);rw[<-h.rho _ _ (bK hu) hcw e];exact hd
 show di ins' gs' (φ x) (ρ c) (ρ p.1,φ p.2)=(di ins gs x c p).map λp=>(ρ p.1,ρ p.2);unfold di;by_cases k:p.1≠c/\c∉f_ ins gs p.2
 ·rw[Qz k,Qz ⟨e1.mpr k.1,e2.mpr k.2⟩];rfl
 rw[QA k,QA λq=>k ⟨e1.mp q.1,e2.mp q.2⟩];rfl
theorem TrX.path (m:Met ins gs z xs) (p:Path (az ins gs) xs z x ns):x∈xs->Path (az ins' gs') (xs.map φ) (φ z) (φ x) (ns.map ρ):=by
 have zx:z∈xs:=Qg m.zero
 have ev:evs (az ins' gs') (xs.map φ)=(evs (az ins gs) xs).map λe=>(φ e.1,(ρ e.2.1,φ e.2.2)):=by
  unfold evs;rw[List.flatMap_map,List.map_flatMap];refine fY λa ha=>?_;rw[h.steps a (m.st a ha),QW,QW];rfl
 induction p with
 | nil=>exact λ_=>.nil
 | @snoc x hh nm ns ne c p ih =>
 intro hx;obtain⟨b,hb,hs,_⟩:=d8 c;have hhx:=Qg hb;rw[Qw];refine .snoc (λq=>ne (h.inj x z (m.st x hx) (m.st z zx) q)) ?_ (ih hhx);rw[ev];unfold bY at c ⊢
 have find:∀{es:List (Str × (Str × Str))},(∀e∈es,StOk (aj ins gs).length e.1)->(es.map λe=>(φ e.1,(ρ e.2.1,φ e.2.2))).find? (λe=>e.1==φ x)=(es.find? λe=>e.1==x).map λe=>(φ e.1,(ρ e.2.1,φ e.2.2)):=by
  intro es
  induction es with
  | nil=>intro _;rfl
  | cons e es ih =>
  intro hs;rw[QC,XJ,XJ];by_cases q:e.1=x
  ·rw[show (φ e.1==φ x)=true by rw[q];simp,show (e.1==x)=true by simpa using q];rfl
  rw[show (φ e.1==φ x)=false from beq_false_of_ne λz=>q (h.inj e.1 x (hs e (by simp)) (m.st x hx) z),show (e.1==x)=false from beq_false_of_ne q];exact ih λe' he'=>hs e' (Qq _ he')
 rw[find λe he=>?_]
 ·cases q:(evs (az ins gs) xs).find? (λe=>e.1==x) with
  | none=>rw[q]at c;cases c
  | some r =>
   rw[q]at c;have c:r.2=(nm,hh):=QX c;show some (ρ r.2.1,φ r.2.2)=_;rw[c]
 unfold evs at he;obtain⟨a,ha,he⟩:=List.mem_flatMap.mp he;obtain⟨p,hp,rfl⟩:=Qo.mp he;exact m.st _ (m.closed ha hp)
end
def gP:Sp:=λvs H Q _=>∃(D:Dk) (a li lg:Addr) (ins:List Str) (gvs:List V) (gs:List (Str × Rl)),vs=[.ref D.d,.ref a]/\D.At H/\NAt H a li lg ins gvs gs/\NetOk ins gs /\
 ∀(t O a' li' lg':Addr) (kvs:List (Key × V)) (ρ:Str->Str) (gvs':List V) (H':Hp),Kp D H H'->H' t=some (.tup [.ref O,.ref a'])->H' O=some (.dK kvs)->(∀n∈aj ins gs,bn kvs (Sum.inr n:Key)=some (.str (ρ n)))->(∀a∈aj ins gs,∀b∈aj ins gs,ρ a=ρ b->a=b) ->
  NAt H' a' li' lg' (ins.map ρ) gvs' (gs.map λg=>(ρ g.1,g.2.ren ρ))->Q (.ref t) H'
def ir (ws zs:List Str):List (Key × V):=(ws.zip zs).map λp=>(Sum.inr p.1,V.str p.2)
theorem kB (h:ws.length=zs.length):(ir ws zs).map (·.1)=aC ws:=by
 unfold ir aC;rw[QW,show ((λ(x:Key × V)=>x.1)∘λ(p:Str × Str)=>((Sum.inr p.1:Key),V.str p.2))=Sum.inr∘Prod.fst from rfl,<-QW,List.map_fst_zip (by omega)]
theorem qZ (h:ws.length=zs.length) (n:x∉ws):bn (ir ws zs) (Sum.inr x:Key)=none:=fg.mpr λq=>by
 rw[kB h]at q;obtain⟨y,hy,e⟩:=Qo.mp q;cases e;exact n hy
theorem sS (h:ws.length=zs.length) (nd:ws.Nodup) (e1:ws[i]?=some x) (e2:zs[i]?=some y):bn (ir ws zs) (Sum.inr x:Key)=some (.str y):=by
 refine db (i:=i) (by rw[kB h];unfold aC;exact List.Pairwise.map _ (λa b h z=>h (Sum.inr.inj z)) nd) ?_;unfold ir;rw[Qi,show (ws.zip zs)[i]?=some (x,y) from List.getElem?_zip_eq_some.mpr ⟨e1,e2⟩];rfl
theorem qY (h:ws.length=zs.length) (n:x∉ws):bN (ir ws zs) (Sum.inr x:Key) (.str y)=ir (ws++[x]) (zs++[y]):=by
 rw[dE _ (qZ h n)];unfold ir;rw[List.zip_append h,Qw];rfl
section
theorem jb:FnScope ["store", "net", "others", "spare", "name", "gates"] ["store", "net"] (au (top 44)):=by walk_at "k"
theorem pF {f:Addr} {fd:FuncData} (Fu:Fun K "_law_renamed" "_law_renamed" (top 44) f fd) (T:Txt K mg TT) (f_law_take:Fn P w K mg base "_law_take" ["store", "many"] 1 dR) (f_law_wires:Fn P w K mg base "_law_wires" ["net"] 1 fj) (f_law_renamed_rule:Fn P w K mg base "_law_renamed_rule" ["rule", "others"] 10 (lK 10)):FnOk P w K mg base CX0 11 f fd ["store", "net"] gP:=by
 have S:=jb;refine Fu.ok S (by walk_at "l") (λcdv A outer s H vs Q E hr h=>?_);obtain⟨D,a,li,lg,ins,gvs,gs,rfl,DA,NA,ok,k⟩:=h;have hu:=eI hr;refine'⟨?_,?bb,?_⟩
 case bb =>
  walk_at "b";exact aO 2 S.nd jj;refine' l_ (i:=3) ?n ?r ?l ?e ?s ?f
  case n=>exact S.nd
  case r=>rfl
  case l=>walk_at "z"
  case s=>rfl
  case f=>walk_at "z"
  case e =>
   with_reducible refine' pe_lst ?a5
   case a5 =>
    with_reducible refine' ad ?e6 ?s6 aA
    case e6 =>
     exact aE
    case s6 =>
     with_reducible refine' ad ?e8 ?s8 aA
     case e8 =>
      exact aE
     case s8 =>
      with_reducible refine' ad ?e10 ?s10 aA
      case e10 =>
       exact aE
      case s10 =>
       with_reducible refine' ad ?e12 ?s12 aA
       case e12 =>
        exact aE
       case s12 =>
        with_reducible refine' ad ?e14 ?s14 aA
        case e14 =>
         exact aE
        case s14 =>
         with_reducible refine' ad ?e16 ?s16 aA
         case e16 =>
          exact aE
         case s16 =>
          with_reducible refine' ad ?e18 ?s18 aA
          case e18 =>
           exact aE
          case s18 =>
           with_reducible refine' ad ?e20 ?s20 aA
           case e20 =>
            exact aE
           case s20 =>
            with_reducible refine' ad ?e22 ?s22 aA
            case e22 =>
             exact aE
            case s22 =>
             with_reducible refine' ad ?e24 ?s24 aA
             case e24 =>
              exact aE
             case s24 =>
              with_reducible refine' ad ?e26 ?s26 aA
              case e26 =>
               exact aE
              case s26 =>
               exact af
  walk_at "f";exact(bq (aF f_law_wires hr (ad (pv 1) af ae)));exact(cK 4 S.nd);walk_at "p";exact(ma hu (pv 2) (pv 4) (eV Xs PySem.F.slot_list_pop PySem.F.type_list_pop js (pv 3) (ad (aF f_law_take hr (ad (pv 0) (ad (aK aN (by rfl) T.n_len Q7 (ad (pv 3) af ae)) af aS) ae)) af aS)) rfl);exact(y_ (j:=5) S.nd rfl (by walk_at "z") (tgs:=["name", "rule"]) (cap:=[("others", 2)]) rfl ⟨rfl,rfl,rfl,rfl,rfl,rfl⟩ (bq (aD aH (pv 1) ak)) (λ_ _ _ _=>(me (K:=K) (n:=2) rfl rfl (bz (cP (i:=0) (show List.Nodup [("name" : Str),("rule" : Str),("others" : Str)] by decide +kernel) rfl (by walk_at "z")) (bz (cP (i:=1) (show List.Nodup [("name" : Str),("rule" : Str),("others" : Str)] by decide +kernel) rfl (by walk_at "z")) dU)))) (λ_ _ _ _=>gv) (λ_ _ _ _=>(be (ad (bO hu (pv 2) (pv 0)) (ad (aF f_law_renamed_rule hr (ad (pv 1) (ad (pv 2) af ae) ae)) af aS)))));refine' aB ?e
  case e =>
   walk_at "q";exact(pv 2);exact(c7 "name" [("others", 2)] (bq (aD aH (pv 1) ak)) (λ_ _ _ _=>(bO hu (pv 1) (pv 0))));exact(pv 5)
 walk_at "e";have w11:(aj ins gs).length<=11:=by rw[aP];have:=ok.i4;have:=ok.g7;omega
 have ndw:=ok.nd;refine s_seq (bE ?_);intro O hO;refine ax ?_;generalize hE:upd H O _=H1;obtain⟨S1,q1⟩:=ay hO hE;clear hE;walk_at "s";with_reducible refine bE ?_
 walk_at "w";refine⟨by simp[sizeLine],λp hp=>?_⟩;generalize hE:upd H1 p _=H2;obtain⟨S2,q2⟩:=ay hp hE;clear hE;have q2':H2 p=some (.lst ((["w", "go", "abcdefgh", "z", "yy", "nand", "m", "in", "out", "k", "kk"]:List Str).map V.str)):=q2;have S12:=S1.trans S2;have kp2:Kp D H H2:=Kp.of DA S12;have Op:O≠p:=av q1 hp;have p0:H p=none:=aw.free S1 hp;refine ax ?_;walk_at "s";refine s_for (s_list (aW (ao (ah rfl (aG ⟨a,li,lg,ins,gvs,gs,rfl,NA.same S12,ok,λW H3 S3 hW0 hW=>⟨W,rfl,⟨_,SqL.of hW⟩,?_⟩⟩)))));have kp3:Kp D H H3:=kp2.trans (Kp.of kp2.dk S3);have W0:H W=none:=kp2.free hW0;have WO:W≠O:=λe=>by rw[e,S2 _ _ q1]at hW0;cases hW0
 have Wp:W≠p:=λe=>by rw[e,q2]at hW0;cases hW0
 generalize hws:aj ins gs=ws at *;let I20:IvF:=λi σ G=>(∃x4:Option V,σ=[some (.ref D.d),some (.ref a),some (.ref O),some (.ref p),x4,none])/\Kp D H G/\G W=some (.lst (ws.map V.str))/\∃zs sp:List Str,zs.length=i/\G O=some (.dK (ir (ws.take i) zs))/\G p=some (.lst (sp.map V.str))/\sp.length+i=11/\(zs++sp).Nodup
 refine e9 (xs:=ws.map V.str) I20
  ⟨⟨_,rfl⟩,kp3,hW,[],_,rfl,(S2.trans S3) _ _ q1,S3 _ _ q2',rfl,by decide +kernel⟩ (λi σ G _ pv=>SqL.of pv.2.2.1) (λi v σ G hv pv=>?_) (λσ G pv=>?_)
 ·obtain⟨⟨x4,rfl⟩,kp,hWG,zs,sp,lz,hOG,hsp,ls,nd⟩:=pv;rw[Qi]at hv
  cases ex:ws[i]? with
  | none=>rw[ex]at hv;cases hv
  | some x =>
  rw[ex]at hv;cases hv;have hi:i<ws.length:=(Qe.mp ex).1;refine ax ?_;refine pf (i_bm (ah rfl ⟨i_tyL hsp,ao (aW (ao (ah rfl (ao (i_cb (ao (ah rfl (aG ⟨p,_,rfl,.inl (SqL.of hsp),aG ?_⟩))))))))⟩));refine⟨D,_,rfl,kp.dk,by rw[Qc];omega,by rw[Qc];omega,λr G2 r0 r1 k2=>?_⟩;rw[Qc]at r1;have hsp2:=k2.strs kp.dk hsp;have hW2:=k2.strs kp.dk hWG;have hO2:=k2.old O _ hOG (dr kp.dk hOG (λ_ z=>nomatch z));have kpp:=kp.trans k2;have hjl:r.toNat<sp.length:=by omega
  have ez:sp[r.toNat]?=some sp[r.toNat]:=Qb hjl;refine aG ⟨p,sp.map V.str,r,r.toNat,.str sp[r.toNat],rfl,rfl,hsp2,by omega,by omega,?_,by rw[Qi,ez];rfl,?_⟩
  ·have:ixN (sp.map V.str).length r=some r.toNat:=by unfold ixN;rw[Qz r0,Qc,Qz r1]
   exact(gD this).1
  rw[fD];have le:(sp.eraseIdx r.toNat).length=sp.length-1:=by rw[List.length_eraseIdx,Qz hjl]
  have pm:((zs++[sp[r.toNat]])++sp.eraseIdx r.toNat).Perm (zs++sp):=by
   rw[QZ];exact Xx _ (dW sp r.toNat hjl)
  have nx:x∉ws.take i:=λq=>by
   obtain⟨j,hj,ej⟩:=Qr.mp q;rw[Qv]at hj;rw[List.getElem_take]at ej;have:=(List.getElem?_inj (i:=j) (j:=i) (by omega) ndw).mp (by rw[Qb (by omega),ej,ex]);omega
  have hO3:upd G2 p (.lst ((sp.eraseIdx r.toNat).map V.str)) O=some (.dK (ir (ws.take i) zs)):=by rw[aq Op];exact hO2
  have lt:(ws.take i).length=zs.length:=by rw[Qv];omega
  refine ah rfl (ah rfl ⟨O,_,rfl,oU.k (k:=Sum.inr x) hO3 (by unfold ir;rw[Qc,List.length_zip];omega),?_⟩);rw[qY lt nx,show ws.take i++[x]=ws.take (i+1) by rw[QO,ex];rfl];refine⟨⟨_,rfl⟩,Kp.fresh DA hO (Kp.fresh DA p0 kpp),by rw[aq WO,aq Wp];exact hW2,zs++[sp[r.toNat]],sp.eraseIdx r.toNat,by rw[Qj,lz];rfl,ag,by rw[aq Op.symm,ag],by omega,pm.nodup_iff.mpr nd⟩
 obtain⟨⟨x4,rfl⟩,kp,hWG,zs,sp,lz,hOG,hsp,ls,nd⟩:=pv;rw[Qc]at lz;rw[Qc,Qs (Qh _)]at hOG;let ρ:Str->Str:=λn=>zs.getD (ws.idxOf n) ""
 have val:∀n∈ws,bn (ir ws zs) (Sum.inr n:Key)=some (.str (ρ n)):=λn hn=>by
  have hi:=Xy hn;refine sS lz.symm ndw (mH hn) ?_;show zs[ws.idxOf n]?=some (zs.getD (ws.idxOf n) "");rw[Ql,Qb (by omega)];rfl
 have inj:∀a∈ws,∀b∈ws,ρ a=ρ b->a=b:=λa ha b hb e=>by
  have ia:=Xy ha;have ib:=Xy hb;have e':zs.getD (ws.idxOf a) "" = zs.getD (ws.idxOf b) "" := e;rw[Ql,Ql,Qb (by omega),Qb (by omega)]at e';have ij:=(List.getElem_inj (List.nodup_append.mp nd).1).mp e';have h1:=mH ha;rw[ij,mH hb]at h1;cases h1;rfl
 have NAG:=NA.kp DA kp;generalize hρ:ρ=ρ' at *;clear hρ ρ;have dg:∀{G':Hp} {n:Str},aw G G'->n∈ws->cC G' O (.str n) (some (.str (ρ' n))):=λ{G' n} S h=>.inl ⟨_,Sum.inr n,.inl (S _ _ hOG),rfl,(val n h).symm⟩;have l7:=ok.g7;have i4:=ok.i4;have lgv:=aQ NAG.gates
 try dsimp only
 walk_at "s";refine bE (i_comp (s_list (a_ (ah rfl (i_c (bA NAG.ha rfl ⟨lg,rfl,⟨_,SqL.of NAG.hg⟩,λL hL=>?_⟩))))));refine bD (xs:=gvs) (λm G' ys=>aw G G'/\G' L=some (.lst ys)/\Paired (GAt G') ys ((gs.take m).map λg=>(ρ' g.1,g.2.ren ρ'))) ⟨ap hL,ag,by rw[List.take_zero];exact .nil⟩ (λm G' ys pv=>⟨pv.2.1,SqL.of (pv.1 _ _ NAG.hg)⟩) (λm v G' ys e pv=>?_) (λG' ys pv=>?_)
 ·obtain⟨SG,hd,pr⟩:=pv;obtain⟨g,hg,b,rv,rfl,h1,h2⟩:=cV NAG.gates m v e;have hm:m<gvs.length:=(Qe.mp e).1;have hgm:=Qg hg;obtain⟨rok,rdep⟩:=ok.rules g hgm;have gw:g.1∈ws:=by rw[<-hws];exact QL _ (Qo.mpr ⟨g,hgm,rfl⟩)
  rw[hws]at rok;refine⟨b,_,rfl,SqT.of (SG _ _ h1),rfl,?_⟩;refine⟨_,_,rfl,ax ⟨_,_,rfl,ax ⟨rfl,by repeat' (first|exact trivial|refine⟨rfl,?_⟩),i_yes (bV ?_)⟩⟩⟩;refine i_tup (ao (i_dget (ah rfl (ah rfl ⟨O,_,rfl,dg SG gw,ao (aW (ao (ah rfl (ao (ah rfl (aG ⟨rv,O,_,g.2,ws,ρ',rfl,bh SG h2,rdep,rok,SG _ _ hOG,val,λu G1 SG1 ru=>aG ⟨by simp[sizeLine],λt ht=>?_⟩⟩))))))⟩))));generalize hE:upd G1 t _=G2;obtain⟨SG2,q2⟩:=ay ht hE;clear hE;have SS:=SG1.trans SG2;have hd2:=SS _ _ hd;have kt:cr G2 (upd G2 L (.lst (ys++[V.ref t]))):=λb us e=>by rw[aq (λzz=>by rw[zz,hd2]at e;cases e)];exact e
  have lys:=aQ pr;rw[Qc,Qv]at lys;refine bM.mk hd2 hm (by omega) ⟨bp (SG.trans SS) hL,ag,?_⟩;rw[QO,hg,Q8,Qw];exact cf (bd (λv g h=>h.mono (λb us e=>kt _ _ (SS _ _ e))) pr) ⟨t,u,rfl,kt _ _ q2,ru.mono λb us e=>kt _ _ (SG2 _ _ e)⟩
 obtain⟨SG,hd,pr⟩:=pv;rw[Qs (by omega)]at pr;refine ax ?_;refine s_ret (i_tup (ao (ah rfl (ao (i_tup (ao (i_comp (s_list (a_ (ah rfl (i_c (bA (SG _ _ NAG.ha) rfl ⟨li,rfl,⟨_,SqL.of (SG _ _ NAG.hi)⟩,λL2 hL2=>?_⟩))))))))))));refine bD (xs:=ins.map V.str) (λm G2 us=>aw G' G2/\G2 L2=some (.lst us)/\us=((ins.take m).map ρ').map V.str) ⟨ap hL2,ag,by simp⟩ (λm G2 us pv=>⟨pv.2.1,SqL.of (pv.1 _ _ (SG _ _ NAG.hi))⟩) (λm v G2 us e pv=>?_) (λG2 us pv=>?_)
 ·obtain⟨SG2,hd2,rfl⟩:=pv;rw[Qi]at e
  cases ex:ins[m]? with
  | none=>rw[ex]at e;cases e
  | some x =>
  rw[ex]at e;cases e;have hm:m<ins.length:=(Qe.mp ex).1;have xw:x∈ws:=by rw[<-hws];exact List.mem_append_left _ (Qg ex)
  refine ax ⟨by repeat' (first|exact trivial|refine⟨rfl,?_⟩),i_yes (bV ?_)⟩;refine i_dget (ah rfl (ah rfl ⟨O,_,rfl,dg (SG.trans SG2) xw,?_⟩));refine bM.mk hd2 (by rw[Qc];exact hm) (by rw[Qc,Qc,Qv];omega) ⟨bp SG2 hL2,ag,?_⟩;rw[QO,ex,Q8,Qw,Qw];rfl
 obtain⟨SG2,hd2,rfl⟩:=pv;rw[Qc,Qs (Qh _)]at hd2;refine ao (ah rfl (aG ⟨by simp[sizeLine],λt1 ht1=>aG ⟨by simp[sizeLine],λt2 ht2=>?_⟩⟩));generalize hE:upd G2 t1 _=G3 at *;obtain⟨SG3,q3⟩:=ay ht1 hE;clear hE;generalize hE:upd G3 t2 _=G4;obtain⟨SG4,q4⟩:=ay ht2 hE;clear hE;have S24:=SG3.trans SG4;have S14:=SG2.trans S24;have S04:=SG.trans S14;exact k t2 O t1 L2 L _ ρ' ys G4 (kp.trans (Kp.of kp.dk S04)) q4 (S04 _ _ hOG) val inj ⟨SG4 _ _ q3,S24 _ _ hd2,S14 _ _ hd,bi (aw.tups S14) pr⟩
end
theorem sw (q:ta σ H λvs H1=>∃(n:Nat),vs=[.int (n:Int)]/\n<=1000/\∀l,H1 l=none->Q (.ref l) (upd H1 l (.lst ((List.range n).map λ(i:Nat)=>V.int (i:Int))))):nv ta σ H Q:=q
def bB (ks:List Nat):List V:=ks.map λ(k:Nat)=>V.int (k:Int)
theorem pick_perm {α:Type} {ls:List α} {z:α} (e:ls[j]?=some z):(z::ls.eraseIdx j).Perm ls:=by
 obtain⟨h,rfl⟩:=Qe.mp e;exact dW ls j h
def o0:Sp:=λvs H Q _=>∃(D:Dk) (a li lg:Addr) (ins:List Str) (gvs:List V) (gs:List (Str × Rl)),vs=[.ref D.d,.ref a]/\D.At H/\NAt H a li lg ins gvs gs/\NetOk ins gs /\
 ∀(l:Addr) (ks:List Nat) (H':Hp),Kp D H H'->H l=none->ks.Perm (List.range gs.length)->H' l=some (.lst (bB ks))->Q (.ref l) H'
def jy:Option (List Str × Str × Str)->V
 | none=>.non
 | some (ns,_)=>.int ns.length
def c_ (H:Hp):Option (List Str × Str × Str)->V->Prop
 | none,v=>v=.non
 | some (ns,c,b),v=>∃t l,v=.ref t/\H t=some (.tup [.ref l,.str c,.str b])/\H l=some (.lst (ns.map V.str))
def lM:Sp:=λvs H Q _=>∃(o:Option (List Str × Str × Str)) (v:V),vs=[v]/\c_ H o v/\Q (jy o) H
section
theorem lY:FnScope ["store", "net", "left", "order"] ["store", "net"] (au (top 45)):=by walk_at "k"
theorem vN {f:Addr} {fd:FuncData} (Fu:Fun K "_law_order" "_law_order" (top 45) f fd) (T:Txt K mg TT) (f_law_take:Fn P w K mg base "_law_take" ["store", "many"] 1 dR):FnOk P w K mg base CX0 2 f fd ["store", "net"] o0:=by
 have S:=lY;refine Fu.ok S (by walk_at "l") (λcdv A outer s H vs Q E hr h=>?_);obtain⟨D,a,li,lg,ins,gvs,gs,rfl,DA,NA,ok,k⟩:=h;refine'⟨?_,?bb,?_⟩
 case bb =>
  walk_at "b";exact aO 2 S.nd (pB rfl (by rfl) T.n_list (by rfl) T.n_range (ad (aK aN (by rfl) T.n_len Q7 (ad (aD aH (pv 1) ak) af)) af aS));exact aO 3 S.nd (pe_lst af);refine' jf XN ?_ ?_;rotate_left 2;exact(aL (xZ hr.units) (pv 2) (pe_lst af) (aZ _));walk_at "p";exact(cO (eV Xs PySem.F.slot_list_append PySem.F.type_list_append cw (pv 3) (ad (eV Xs PySem.F.slot_list_pop PySem.F.type_list_pop js (pv 2) (ad (aF f_law_take hr (ad (pv 0) (ad (aK aN (by rfl) T.n_len Q7 (ad (pv 2) af ae)) af aS) ae)) af aS)) af aS)));exact(aB (pv 3))
 walk_at "e";have g7:=ok.g7;have lgv:=aQ NA.gates;walk_at "s";refine bE (sw (ao (i_cb (ao (a_ (ah rfl (i_c (bA NA.ha rfl (aG ⟨lg,_,rfl,.inl (SqL.of NA.hg),aG ⟨gvs.length,rfl,by omega,λl hl=>?_⟩⟩)))))))));generalize hE:upd H l _=H1;obtain⟨S1,q1⟩:=ay hl hE;clear hE;rw[lgv]at q1;walk_at "w";refine⟨by simp[sizeLine],λp hp=>?_⟩;generalize hE:upd H1 p _=H2;obtain⟨S2,q2⟩:=ay hp hE;clear hE;have nlp:l≠p:=av q1 hp;have p0:H p=none:=aw.free S1 hp;have q12:=S2 _ _ q1;have kp2:Kp D H H2:=Kp.of DA (S1.trans S2)
 have own:∀{b:Addr},H b=none->¬D.own b:=λ{b} e q=>by
  obtain⟨x,y,z,e'⟩:=DA;cases q;rw[e']at e;cases e
 walk_at "w";let I21:IvF:=λn σ H'=>∃(ls fs:List Nat),n=ls.length/\fs.length+ls.length=gs.length/\σ=[some (.ref D.d),some (.ref a),some (.ref l),some (.ref p)]/\(fs++ls).Perm (List.range gs.length)/\H' l=some (.lst (bB ls))/\H' p=some (.lst (bB fs))/\Kp D H H';refine⟨I21,⟨_,List.range gs.length,[],rfl,by simp,rfl,List.Perm.refl _,q12,q2,kp2⟩,?_⟩;rintro n σ H' ⟨ls,fs,rfl,hlen,rfl,pm,hl',hp',SS⟩;walk_at "w";refine⟨by simp[sizeLine],λe he=>?_⟩;have Se:=ap (o:=.lst []) he;have hle:=Se _ _ hl';have hpe:=Se _ _ hp';have SSe:Kp D H (upd H' e (.lst [])):=SS.new he;refine⟨l,e,_,[],λ_=>true,rfl,rfl,SqL.of hle,SqL.of ag,(λj x y _ h=>by simp at h),⟨_,rfl,?_⟩⟩;generalize upd H' e (.lst [])=H3 at *;have ll:(bB ls).length=ls.length:=by unfold bB;rw[Qc]
 have lf:(bB fs).length=fs.length:=by unfold bB;rw[Qc]
 by_cases c0:ls.length=0
 ·have e0:ls=[]:=List.length_eq_zero_iff.mp c0;subst e0;refine ifF rfl ?_;walk_at "w";exact k p fs H3 SSe p0 (by simpa using pm) hpe
 refine ifT (by rw[ll,Qz rfl];simp[c0]) ?_;refine⟨_,λσ' H' w=>⟨ls.length-1,by omega,w⟩,?_⟩;refine s_drop (i_bm (ah rfl ⟨i_tyL hpe,?_⟩));refine ao (i_bm (ah rfl ⟨i_tyL hle,?_⟩));refine ao (aW (ao (ah rfl (ao (i_cb (ao (ah rfl (aG ⟨l,_,rfl,.inl (SqL.of hle),aG ?_⟩))))))));refine⟨D,_,rfl,SSe.dk,by rw[ll];omega,by rw[ll];omega,λr H4 r0 r1 k4=>?_⟩;rw[ll]at r1;have hle4:=k4.old l _ hle (own hl);have hpe4:=k4.old p _ hpe (own p0);have SS4:=SSe.trans k4;obtain⟨j,rfl⟩:∃j:Nat,r=(j:Int):=⟨r.toNat,by omega⟩;have hj:j<ls.length:=by omega
 obtain⟨y,hy⟩:∃y,ls[j]?=some y:=⟨_,Qb hj⟩;have pz:=pick_perm hy;refine aG ⟨l,bB ls,(j:Int),j,.int y,rfl,rfl,hle4,by omega,by omega,?_,by unfold bB;rw[Qi,hy];rfl,?_⟩
 ·have:ixN (bB ls).length (j:Int)=some j:=by unfold ixN;rw[Qz (by omega),Qz (by rw[ll];omega),Xu]
  exact(gD this).1
 have lz:(ls.eraseIdx j).length+1=ls.length:=by rw[List.length_eraseIdx,Qz hj];omega
 have ee:(bB ls).eraseIdx j=bB (ls.eraseIdx j):=by unfold bB;exact fD _ _ _
 have ef:bB fs++[V.int (y:Int)]=bB (fs++[y]):=by unfold bB;rw[Qw];rfl
 refine aG (ou (xs:=bB fs) (by rw[aq nlp.symm];exact hpe4) (by rw[lf];omega) ?_);rw[ee,ef];refine⟨ls.eraseIdx j,fs++[y],by omega,by rw[Qj];show fs.length+1+_=_;omega,rfl,?_,by rw[aq nlp,ag],ag,Kp.fresh DA p0 (Kp.fresh DA hl SS4)⟩;rw[QZ];exact(Xx fs pz).trans pm
theorem nH:FnScope ["told"] ["told"] (au (top 49)):=by walk_at "k"
theorem vP {f:Addr} {fd:FuncData} (Fu:Fun K "_law_long" "_law_long" (top 49) f fd) (T:Txt K mg TT):FnOk P w K mg base CX0 1 f fd ["told"] lM:=by
 have S:=nH;refine Fu.ok S (by walk_at "l") (λcdv A outer s H vs Q E hr h=>?_);obtain⟨o,v,rfl,hv,q⟩:=h
 refine⟨_,(pss_cons (ps_if (aL jk (pv 0) bU rfl) (aI (aB bU)) pss_nil)
  (aI (aB (aK aN (by rfl) T.n_len Q7 (ad (aD aH (pv 0) ak) af))))),?_⟩
 walk_at "d"
 match o,hv,q with
 | none,e,q=>?_
 | some (ns,c,b),⟨t,l,e,ht,hl⟩,q=>?_
 all_goals subst e
 ·rw[show L2.start ["told"] [.non]=[some .non] from rfl];refine s_seq (s_if (i_test (a_ (ah rfl (i_c ⟨rfl,⟨_,rfl,ifT rfl ?_⟩⟩)))));exact s_ret (i_c q)
 rw[show L2.start ["told"] [.ref t]=[some (.ref t)] from rfl];refine s_seq (s_if (i_test (a_ (ah rfl (i_c ⟨rfl,⟨_,rfl,ifF rfl ?_⟩⟩)))));walk_at "s"
 try dsimp only
 refine s_ret (i_cb (ao (a_ (ah rfl (i_c (bA ht rfl (aG ⟨l,_,rfl,.inl (SqL.of hl),?_⟩)))))));rw[Qc];exact q
end
def B3 (ins:List Str) (gs:List (Str × Rl)) (z:Str) (xs:List Str) (H:Hp) (pv:V):Prop:=(pv=.non/\cN ins gs xs=false)\/∃p ss,pv=.ref p/\H p=some (.lst (ss.map V.str))/\ss.length<4000/\(∀x∈ss,x.length<=1000)/\cN ins gs xs=true/\eR ins gs z ss=true
def lJ (TL:Addr):Sp:=λvs H Q _=>∃a li lg ins gvs gs z lv pw,vs=[.ref a,.str z,lv,pw]/\NAt H a li lg ins gvs gs/\NetOk ins gs/\StOk (aj ins gs).length z/\cS TL cH H/\(∀r,dM ins gs z r->lv=jy r)/\(∀xs,Met ins gs z xs->B3 ins gs z xs H pw)/\∀H',Tk TL H H'->Q (.bl true) H'
section
theorem lX:FnScope ["net", "standing", "long", "paper"] ["net", "standing", "long", "paper"] (au (top 50)):=by walk_at "k"
theorem ur {TL:Addr} {f:Addr} {fd:FuncData} (Fu:Fun K "_law_right" "_law_right" (top 50) f fd) (T:Txt K mg TT) (f_law_long:Fn P w K mg base "_law_long" ["told"] 1 lM) (f_first_race:Fn P w K mg base "first_race" ["net", "standing"] 16 (lL TL)) (f_calm_paper:Fn P w K mg base "calm_paper" ["net", "standing"] 16 (de TL)) (f_calm_shows:Fn P w K mg base "calm_shows" ["net", "standing", "paper"] 13 eO):FnOk P w K mg base CX0 17 f fd ["net", "standing", "long", "paper"] (lJ TL):=by
 have S:=lX;refine Fu.ok S (by walk_at "l") (λcdv A outer s H vs Q E hr h=>?_);obtain⟨a,li,lg,ins,gvs,gs,z,lv,pw,rfl,NA,ok,st,tb,hlong,hpap,k⟩:=h;refine'⟨?_,?bb,?_⟩
 case bb =>
  walk_at "b";exact(PW.pt (je (aL ii (aF f_law_long hr (ad (aF f_first_race hr (ad (pv 0) (ad (pv 1) af ae) ae)) af aS)) (pv 2) (aZ _)) (fT (aL ii (cD jk (aF f_calm_paper hr (ad (pv 0) (ad (pv 1) af ae) ae)) bU rfl) (cD jk (pv 3) bU rfl) (aZ _)))));exact(aB dF);exact(aB (wI (cD jk (pv 3) bU rfl) (mf (cD x_ (aF f_calm_shows hr (ad (pv 0) (ad (pv 1) (ad (pv 3) af ae) ae) ae)) dF rfl))))
 walk_at "e";walk_at "s";walk_at "s";walk_at "s";refine i_test (a_ (aW (ao (aW (ao (ah rfl (ao (ah rfl (aG ?_)))))))));refine⟨a,li,lg,ins,gvs,gs,z,rfl,NA,ok,st,tb,λr v H1 t1 rr rv=>aG ?_⟩;have el:=hlong r rr;subst el
 have la:c_ H1 r v:=by
  match r,rv with
  | none,e=>exact e
  | some (ns,c,b),⟨t,l,e,_,_,ht,hl⟩=>exact⟨t,l,e,ht,hl⟩
 refine⟨r,v,rfl,la,ah rfl (i_ne ?_ ⟨_,rfl,ifF (by simp) ?_⟩)⟩
 ·cases r <;> rfl
 refine i_test (a_ (a_ (aW (ao (ah rfl (ao (ah rfl (aG ?_))))))));refine⟨a,li,lg,ins,gvs,gs,z,rfl,NA.mono (t1.lst tb) (t1.tup tb),ok,st,t1.tab,λxs v2 H2 t2 met hv2=>?_⟩;have t12:=t1.trans t2;rcases hpap xs met with⟨rfl,c⟩|⟨p,ss,rfl,hp,few,len,c,sh⟩
 ·rw[c,QA Qn]at hv2;subst hv2;refine i_c ⟨rfl,a_ (ah rfl (i_c ⟨rfl,i_ne rfl ⟨_,rfl,iteF ?_⟩⟩))⟩;walk_at "s"
  try dsimp only
  exact s_ret (i_orV (a_ (ah rfl (i_c ⟨rfl,⟨_,rfl,bV (k _ t12)⟩⟩))))
 rw[c,Qz rfl]at hv2;obtain⟨p2,s2,rfl,_⟩:=hv2;refine i_c ⟨rfl,a_ (ah rfl (i_c ⟨rfl,i_ne rfl ⟨_,rfl,iteF ?_⟩⟩))⟩;walk_at "s"
 try dsimp only
 refine s_ret (i_orV (a_ (ah rfl (i_c ⟨rfl,⟨_,rfl,iteF ?_⟩⟩))));refine a_ (aW (ao (ah rfl (ao (ah rfl (ao (ah rfl (aG ⟨a,li,lg,ins,gvs,gs,z,p,ss,rfl,NA.mono (t12.lst tb) (t12.tup tb),ok,st,t12.lst tb _ _ hp,few,len,λH3 S3=>?_⟩))))))));rw[sh];exact i_c ⟨_,_,rfl,rfl,k _ (t12.trans (Tk.of t12.tab S3))⟩
end
theorem jl (f:Nat->Nat):∀ks:List Nat,((ks.map λk=>(⟨#[f k]⟩:Str)).map (·.length)).sum=ks.length
 | []=>rfl
 | a::r=>by
  rw[QC,QC,List.sum_cons,jl f r];show 1+r.length=r.length+1;omega
theorem kM (f:Nat->Nat) (ks:List Nat):Txt.join Str.empty (ks.map λk=>(⟨#[f k]⟩:Str))=⟨(ks.map f).toArray⟩:=by
 have h:=kU (ks.map λk=>(⟨#[f k]⟩:Str));rw[QW]at h
 have e2:(ks.map ((λy:Str=>y.cps.toList)∘λk=>(⟨#[f k]⟩:Str))).flatten=ks.map f:=by
  clear h
  induction ks with
  | nil=>rfl
  | cons a r ih=>rw[QC,List.flatten_cons,QC,ih];rfl
 rw[e2]at h
 cases e:Txt.join Str.empty (ks.map λk=>(⟨#[f k]⟩:Str)) with
 | mk a =>
 rw[e]at h;have h:a.toList=ks.map f:=h;exact congrArg Str.mk (by rw[<-h])
def flC (c:Nat):Nat:=if (c==49)=true then 48 else 49
def flS (z:Str):Str:=⟨(z.cps.toList.map flC).toArray⟩
theorem tK {ks:List Nat} (st:StOk n z) (hI:I<=n):Txt.slice z none (some (I:Int))++(⟨(ks.map λk=>z.cps.getD (I+k) 0).toArray⟩:Str)=ce z (mvd (List.range I) ks I):=by
 have a:=i6 (z:=z) (j:=I) (by rw[st.len];exact hI);have hz:=st.len
 have e:(List.range I).map (λk=>z.cps.getD k 0)=z.cps.toList.take I:=by
  refine List.ext_getElem? λi=>?_;rw[Qi,XS,fw];by_cases c:i<I
  ·rw[Qz c,Qz c,Qx,QF (by omega)];simp[Array.getD,show i<z.cps.size by omega]
  rw[QA c,QA c];rfl
 generalize hs:Txt.slice z none (some (I:Int))=s at a
 cases s with
 | mk arr =>
 have a:arr.toList=z.cps.toList.take I:=a;unfold ce mvd;show (⟨arr++_⟩:Str)=_;congr 1
 apply Array.ext'
 rw[QG,a,Qw,QW,e];rfl
def iG:Sp:=λvs H Q _=>∃(z:Str) (I n:Nat) (l:Addr) (ks:List Nat),vs=[.str z,.int (I:Int),.ref l]/\H l=some (.lst (bB ks))/\StOk n z/\n<=11/\I<=n/\ks.length<=11/\(∀k∈ks,I+k<n)/\∀H',aw H H'->Q (.str (ce z (mvd (List.range I) ks I))) H'
def iW:Sp:=λvs H Q _=>∃(z:Str) (n:Nat),vs=[.str z]/\StOk n z/\n<=11/\∀H',aw H H'->Q (.str (flS z)) H'
section
theorem gS:FnScope ["standing", "ins", "order"] ["standing", "ins", "order"] (au (top 46)):=by walk_at "k"
theorem ut {f:Addr} {fd:FuncData} (Fu:Fun K "_law_reordered" "_law_reordered" (top 46) f fd) (T:Txt K mg TT):FnOk P w K mg base CX0 1 f fd ["standing", "ins", "order"] iG:=by
 have S:=gS;refine Fu.ok S (by walk_at "l") (λcdv A outer s H vs Q E hr h=>?_);obtain⟨z,I,n,l,ks,rfl,hl,st,n11,hI,k11,kn,k⟩:=h;refine'⟨?_,?bb,?_⟩
 case bb =>
  refine' aI ?_;rotate_left 1;walk_at "p";exact(aB (a8 fU (eU o_ (pv 0) gu (gt (pv 1))) (eV PySem.F.plainAttrs_str PySem.F.slot_str_join PySem.F.type_str_join mC aE (ad (c7 "at" [("standing", 0),("ins", 1)] (bq (pv 2)) (λ_ _ _ _=>(aD jG (pv 1) (a8 cu (pv 2) (pv 0))))) af))))
 walk_at "e";have zl:z.length=n:=st.len;have zs:z.cps.size=n:=st.len;have lk:(bB ks).length=ks.length:=by unfold bB;rw[Qc]
 have s1:=Txt.slice_le z none (some (I:Int));refine s_ret (a_ (i_sl (ah rfl (i_nopart (i_part (ah rfl ⟨_,rfl,uK (by omega) ?_⟩))))));refine i_bm (i_c ⟨xj,ao (i_comp (s_list (ah rfl ⟨l,rfl,⟨_,SqL.of hl⟩,λL hL=>?_⟩)))⟩);let I22:IvC:=λm H' ys=>aw H H'/\H' L=some (.lst ys)/\ys=((ks.take m).map λk=>(⟨#[z.cps.getD (I+k) 0]⟩:Str)).map V.str;refine bD (xs:=bB ks) I22 ⟨ap hL,ag,rfl⟩ (λm H' ys p=>⟨p.2.1,SqL.of (p.1 _ _ hl)⟩) (λm v H' ys e p=>?_) (λH' ys p=>?_)
 ·obtain⟨Sm,hd,rfl⟩:=p;unfold bB at e;rw[Qi]at e
  cases ek:ks[m]? with
  | none=>rw[ek]at e;cases e
  | some kk =>
  rw[ek]at e;cases e;have hm:m<ks.length:=(Qe.mp ek).1;have hk:=kn kk (Qg ek);refine ax ⟨by repeat' (first|exact trivial|refine⟨rfl,?_⟩),i_yes (bV ?_)⟩;refine a_ (ah rfl (a_ (ah rfl (ah rfl (i_rI0 ?_)))));rw[show (I:Int)+(kk:Int)=((I+kk:Nat):Int) from rfl];refine qN (c:=z.cps.getD (I+kk) 0) (by omega) ?_ ?_
  ·exact dj (by rw[Qx,QF (by omega)];simp[Array.getD,show I+kk<z.cps.size by omega])
  refine bM.mk hd (by rw[lk];exact hm) (by rw[Qc,Qc,Qv];omega) ⟨bp Sm hL,ag,?_⟩;rw[QO,ek,Q8,Qw,Qw];rfl
 obtain⟨Sm,hd,rfl⟩:=p;rw[lk,Qs (Qh _)]at hd;refine aG ⟨_,L,ks.map λk=>(⟨#[z.cps.getD (I+k) 0]⟩:Str),rfl,rfl,SqL.of hd,?_,?_⟩
 ·rw[jl (λk=>z.cps.getD (I+k) 0),Qc];show ks.length+ks.length*0<=16777216;omega
 have e:=kM (λk=>z.cps.getD (I+k) 0) ks;have hj:Txt.join Str.empty (ks.map λk=>(⟨#[z.cps.getD (I+k) 0]⟩:Str))=⟨(ks.map λk=>z.cps.getD (I+k) 0).toArray⟩:=e;refine⟨_,_,rfl,rfl,?_,?_⟩
 ·show _+(Txt.join Str.empty _).length<=_;rw[hj];show _+(ks.map λk=>z.cps.getD (I+k) 0).toArray.size<=_;simp;omega
 have:=k H' Sm;rw[<-tK st hI,<-hj]at this;exact this
theorem fG:FnScope ["standing"] ["standing"] (au (top 48)):=by walk_at "k"
theorem rQ {f:Addr} {fd:FuncData} (Fu:Fun K "_law_turned_signs" "_law_turned_signs" (top 48) f fd) (T:Txt K mg TT):FnOk P w K mg base CX0 1 f fd ["standing"] iW:=by
 have S:=fG;refine Fu.ok S (by walk_at "l") (λcdv A outer s H vs Q E hr h=>?_);obtain⟨z,n,rfl,st,n11,k⟩:=h;refine'⟨?_,?bb,?_⟩
 case bb =>
  refine' aI ?_;rotate_left 1;walk_at "p";exact(aB (eV PySem.F.plainAttrs_str PySem.F.slot_str_join PySem.F.type_str_join mC aE (ad (c7 "sign" [] (tU (pv 0)) (λ_ _ _ _=>(aD jG aE (cU kz (by rfl) T.n_int PyProof.Rows.boot_int (ad (pv 0) af ae))))) af)))
 walk_at "e";have zl:z.length=n:=st.len;have zs:z.cps.size=n:=st.len;refine s_ret (i_bm (i_c ⟨xj,ao (i_comp ?_)⟩));walk_at "w";intro L hL;let I23:IvC:=λm H' ys=>aw H H'/\H' L=some (.lst ys)/\ys=((z.cps.toList.take m).map λc=>(⟨#[flC c]⟩:Str)).map V.str;refine oF I23 ⟨ap hL,ag,rfl⟩ (λm H' ys p=>p.2.1) (λm H' ys hm p=>?_) (λH' ys p=>?_)
 ·obtain⟨Sm,hd,rfl⟩:=p
  have e:z.cps.toList[m]?=some (z.cps.getD m 0):=by
   rw[Qx,QF hm];simp[Array.getD,hm]
  refine ax ⟨by repeat' (first|exact trivial|refine⟨rfl,?_⟩),i_yes (bV ?_)⟩;refine a_ (i_c (i_cb (ao (ah rfl (aG ?_)))))
  have step:∀(G:VK),G (.str ⟨#[flC (z.cps.getD m 0)]⟩) H'->(λxs H Q=>∃z n,xs=[V.str z]/\PySem.intText? z=some n/\z.length<=640/\Q (V.int n) H) [V.str ⟨#[z.cps.getD m 0]⟩] H' (λy H2=>xJ (V.str "10") y H2 G):=λG g=>by
   rcases st.signs _ (Qg e) with e|e
   ·rw[e]at g ⊢;refine⟨_,0,rfl,by decide +kernel,by decide,?_⟩;exact⟨"10", 0,49,rfl,rfl,by decide,by decide +kernel,g⟩
   rw[e]at g ⊢;refine⟨_,1,rfl,by decide +kernel,by decide,?_⟩;exact⟨"10", 1,48,rfl,rfl,by decide,by decide +kernel,g⟩
  refine step _ ?_;refine bM.mk hd hm (by rw[Qc,Qc,Qv];omega) ⟨bp Sm hL,ag,?_⟩;rw[QO,e,Q8,Qw,Qw];rfl
 obtain⟨Sm,hd,rfl⟩:=p;rw[Qs (by rw[Qu];exact Qh _)]at hd;refine aG ⟨_,L,z.cps.toList.map λc=>(⟨#[flC c]⟩:Str),rfl,rfl,SqL.of hd,?_,?_⟩
 ·rw[jl flC,Qc];show z.cps.toList.length+z.cps.toList.length*0<=16777216;rw[Qu];omega
 have e:=kM flC z.cps.toList;have:=k H' Sm;unfold flS at this;rw[<-e]at this;exact this
end
section
theorem Met.inj (m:Met ins gs z xs) {i j:Nat} {x:Str} (a:xs[i]?=some x) (b:xs[j]?=some x):i=j:=(List.getElem?_inj (Qe.mp a).1 m.nd).mp (by rw[a,b])
theorem Met.mono (m:Met ins gs z xs):∀(i i':Nat) (x x':Str) (ns ns':List Str),i'<=i->xs[i]?=some x->xs[i']?=some x'->Path (az ins gs) xs z x ns->Path (az ins gs) xs z x' ns'->ns'.length<=ns.length:=by
 intro i
 induction i using Nat.strongRecOn with
 | _ i ih =>
 intro i' x x' ns ns' le e e' p p';by_cases c:i'=i
 ·subst c;rw[e]at e';cases e';rw[p.det p'];exact Qh _
 have lt:i'<i:=by omega
 cases p' with
 | nil=>exact QM _
 | @snoc _ h' nm' ns1' ne' c' p1' =>
 cases p with
 | nil =>
  have:=m.inj e m.zero;omega
 | @snoc _ h nm ns1 ne c1 p1 =>
 obtain⟨a,ha,hsa,fa⟩:=d8 c1;obtain⟨b,hb,hsb,fb⟩:=d8 c';have hl:∀{q:Nat} {u:Str},xs[q]?=some u->(Bf.bfs (nxK (stN ins gs)) (Sum.inr z) xs.length)[q]?=some (Sum.inr u):=λ{q u} h=>by rw[<-m.bfs];exact bL.mpr ⟨u,h,rfl⟩
 have ln:∀{q:Nat} {u:Str},xs[q]?=some u->q<xs.length:=λ{q u} h=>(Qe.mp h).1
 have ai:a<i:=by
  obtain⟨i0,h0,p0,l0,e0,s0,q0⟩:=m.pred (j:=i) (by omega) e;rcases Nat.lt_or_ge i0 a with l|l
  ·exact absurd q0 (fa i0 h0 l e0 p0 s0)
  omega
 have ba:b<=a:=Nat.le_of_not_lt λl=>by
  have:=Bf.sP (i:=i) (i':=i') (x:=Sum.inr x) (x':=Sum.inr x') (hl ha) (ln ha) (mt.mpr ⟨(nm,x),hsa,rfl⟩) (hl e) (hl e') (Nat.pos_of_ne_zero λq=>ne' (by rw[q,m.zero]at e';cases e';rfl)) λc g lc eg hg=>by
   rw[<-m.bfs]at eg;obtain⟨u,eu,rfl⟩:=bL.mp eg;obtain⟨p,hp,ep⟩:=mt.mp hg;exact fb c u (by omega) eu p hp (Sum.inr.inj ep).symm
  omega
 have:=ih a ai b h h' ns1 ns1' ba ha hb p1 p1';simp;omega
theorem Met.step (m:Met ins gs z xs) {x y:Str} {n:Str} (hx:x∈xs) (s:(n,y)∈az ins gs x) {ns:List Str} (p:Path (az ins gs) xs z x ns):y∈xs/\∃ms,Path (az ins gs) xs z y ms/\ms.length<=ns.length+1:=by
 have hy:=m.closed hx s;refine⟨hy,?_⟩;by_cases c:y=z
 ·subst c;exact⟨[],.nil,QM _⟩
 obtain⟨i,hi,ei⟩:=Qr.mp hx;have e:xs[i]?=some x:=by rw[Qb hi,ei]
 obtain⟨i',h',nm,a,b,cm⟩:=f7 e s;obtain⟨ms,pm,_⟩:=m.path i' h' b;have:=m.mono i i' x h' ns ms a e b p pm;exact⟨ms++[nm],.snoc c cm pm,by simp;omega⟩
end
theorem oJ:(bR ins gs x).head?=none↔∀p∈az ins gs x,∀q∈az ins gs x,q.1≠p.1->∃r∈az ins gs q.2,r.1=p.1:=by
 rw[List.head?_eq_none_iff,bR,List.flatMap_eq_nil_iff]
 constructor
 ·intro h p hp q hq ne;have:=List.filterMap_eq_nil_iff.mp (h p.1 (Qo.mpr ⟨p,hp,rfl⟩)) q hq;unfold di at this;by_cases k:q.1≠p.1/\p.1∉f_ ins gs q.2
  ·rw[Qz k]at this;cases this
  have:p.1∈f_ ins gs q.2:=Classical.byContradiction λz=>k ⟨ne,z⟩;obtain⟨r,hr,e⟩:=Qo.mp this;exact⟨r,hr,e⟩
 intro h c hc;obtain⟨p,hp,rfl⟩:=Qo.mp hc;refine List.filterMap_eq_nil_iff.mpr λq hq=>?_;unfold di;refine QA λk=>?_;obtain⟨r,hr,e⟩:=h p hp q hq k.1;exact k.2 (Qo.mpr ⟨r,hr,e⟩)
structure TrP (ins:List Str) (gs:List (Str × Rl)) (ins':List Str) (gs':List (Str × Rl)) (φ ρ:Str->Str):Prop where
 steps:∀x,StOk (aj ins gs).length x->∀q,q∈az ins' gs' (φ x)↔∃p∈az ins gs x,q=(ρ p.1,φ p.2)
 inj:∀x y,StOk (aj ins gs).length x->StOk (aj ins gs).length y->φ x=φ y->x=y
 rho:∀a b,a∈aj ins gs->b∈aj ins gs->ρ a=ρ b->a=b
variable {ins:List Str} {gs:List (Str × Rl)} {ins':List Str} {gs':List (Str × Rl)} {φ ρ:Str->Str}
section
theorem TrX.toP (h:TrX ins gs ins' gs' φ ρ):TrP ins gs ins' gs' φ ρ:=⟨λx sx q=>by
 rw[h.steps x sx,Qo]
 exact⟨λ⟨p,hp,e⟩=>⟨p,hp,e.symm⟩,λ⟨p,hp,e⟩=>⟨p,hp,e.symm⟩⟩,h.inj,h.rho⟩
variable (h:TrP ins gs ins' gs' φ ρ)
include h
variable {x z y:Str}
theorem TrP.noC (sx:StOk (aj ins gs).length x):(bR ins' gs' (φ x)).head?=none↔(bR ins gs x).head?=none:=by
 rw[oJ,oJ]
 constructor
 ·intro k p hp q hq ne;obtain⟨r,hr,e⟩:=k _ ((h.steps x sx _).mpr ⟨p,hp,rfl⟩) _ ((h.steps x sx _).mpr ⟨q,hq,rfl⟩) λz=>ne (h.rho _ _ (bK hq) (bK hp) z);obtain⟨r',hr',rfl⟩:=(h.steps q.2 (iD sx hq) r).mp hr;exact⟨r',hr',h.rho _ _ (bK hr') (bK hp) e⟩
 intro k p' hp' q' hq' ne;obtain⟨p,hp,rfl⟩:=(h.steps x sx _).mp hp';obtain⟨q,hq,rfl⟩:=(h.steps x sx _).mp hq';obtain⟨r,hr,e⟩:=k p hp q hq λz=>ne (congrArg ρ z);exact⟨_,(h.steps q.2 (iD sx hq) _).mpr ⟨r,hr,rfl⟩,congrArg ρ e⟩
variable {ns xs ys:List Str}
theorem TrP.fwd (m:Met ins gs z xs) (m':Met ins' gs' (φ z) ys) (p:Path (az ins gs) xs z x ns):φ x∈ys/\∃ms,Path (az ins' gs') ys (φ z) (φ x) ms/\ms.length<=ns.length:=by
 induction p with
 | nil=>exact⟨Qg m'.zero,[],.nil,Qh _⟩
 | @snoc x hh nm ns ne c p ih =>
 obtain⟨b,hb,hs,_⟩:=d8 c;obtain⟨hy,ms,q,l⟩:=ih;obtain⟨h1,ms',q',l'⟩:=m'.step (n:=ρ nm) (y:=φ x) hy ((h.steps hh (m.st hh (Qg hb)) _).mpr ⟨_,hs,rfl⟩) q;exact⟨h1,ms',q',by rw[Qj];show _<=_+1;omega⟩
theorem TrP.bwd (m:Met ins gs z xs) (m':Met ins' gs' (φ z) ys) (p:Path (az ins' gs') ys (φ z) y ns):∃x∈xs,y=φ x/\∃ms,Path (az ins gs) xs z x ms/\ms.length<=ns.length:=by
 induction p with
 | nil=>exact⟨z,Qg m.zero,rfl,[],.nil,Qh _⟩
 | @snoc y hh nm ns ne c p ih =>
 obtain⟨b,hb,hs,_⟩:=d8 c;obtain⟨x,hx,rfl,ms,q,l⟩:=ih;obtain⟨r,hr,e⟩:=(h.steps x (m.st x hx) _).mp hs;injection e with e1 e2;obtain⟨h1,ms',q',l'⟩:=m.step (n:=r.1) (y:=r.2) hx hr q;exact⟨r.2,h1,e2,ms',q',by rw[Qj];show _<=_+1;omega⟩
theorem TrP.mem (m:Met ins gs z xs) (m':Met ins' gs' (φ z) ys):(∀x∈xs,φ x∈ys)/\∀y∈ys,∃x∈xs,y=φ x:=by
 constructor
 ·intro x hx;obtain⟨i,hi,e⟩:=Qr.mp hx;obtain⟨ns,p,_⟩:=m.path i x (by rw[Qb hi,e]);exact(h.fwd m m' p).1
 intro y hy;obtain⟨i,hi,e⟩:=Qr.mp hy;obtain⟨ns,p,_⟩:=m'.path i y (by rw[Qb hi,e]);obtain⟨x,hx,e,_⟩:=h.bwd m m' p;exact⟨x,hx,e⟩
theorem TrP.perm (m:Met ins gs z xs) (m':Met ins' gs' (φ z) ys):(xs.map φ).Perm ys:=by
 obtain⟨a,b⟩:=h.mem m m';refine(List.perm_ext_iff_of_nodup (my (λx hx y hy e=>h.inj x y (m.st x hx) (m.st y hy) e) m.nd) m'.nd).mpr λy=>?_;rw[Qo];exact⟨λ⟨x,hx,e⟩=>e▸a x hx,λhy=>let ⟨x,hx,e⟩:=b y hy;⟨x,hx,e.symm⟩⟩
theorem TrP.calmB (m:Met ins gs z xs) (m':Met ins' gs' (φ z) ys):cN ins' gs' ys=cN ins gs xs:=by
 obtain⟨a,b⟩:=h.mem m m';rw[Bool.eq_iff_iff];unfold K2.cN;rw[QJ,QJ]
 constructor
 ·intro k x hx;exact QU ((h.noC (m.st x hx)).mp (of_decide_eq_true (k _ (a x hx))))
 intro k y hy;obtain⟨x,hx,rfl⟩:=b y hy;exact QU ((h.noC (m.st x hx)).mpr (of_decide_eq_true (k x hx)))
theorem TrP.long {r r':Option (List Str × Str × Str)} (rr:dM ins gs z r) (rr':dM ins' gs' (φ z) r'):jy r=jy r':=by
 obtain⟨xs,m,rr⟩:=rr;obtain⟨ys,m',rr'⟩:=rr';obtain⟨a,b⟩:=h.mem m m';have no:∀{o:Option (Str × Str)} {p:Str × Str},o=some p->o≠none:=λe z=>by rw[e]at z;cases z
 match r,r',rr,rr' with
 | none,none,_,_=>rfl
 | none,some (ns,c,d),rr,⟨j,y,e,_,q,_⟩ =>
  obtain⟨x,hx,rfl⟩:=b y (Qg e);exact absurd ((h.noC (m.st x hx)).mpr (rr x hx)) (no q)
 | some (ns,c,d),none,⟨j,x,e,_,q,_⟩,rr' =>
  have hx:=Qg e;exact absurd ((h.noC (m.st x hx)).mp (rr' _ (a x hx))) (no q)
 | some (ns,c,d),some (ns',c',d'),⟨j,x,e,f,q,p⟩,⟨j',y,e',f',q',p'⟩ =>
  have hx:=Qg e
  have le1:ns'.length<=ns.length:=by
   obtain⟨hy,ms,pm,l⟩:=h.fwd m m' p;obtain⟨i,hi,ei⟩:=Qr.mp hy;have ei:ys[i]?=some (φ x):=by rw[Qb hi,ei]
   have ji:j'<=i:=Nat.le_of_not_lt λl=>no q ((h.noC (m.st x hx)).mp (f' i l _ ei));exact QP (m'.mono i j' _ _ _ _ ji ei e' pm p') l
  have le2:ns.length<=ns'.length:=by
   obtain⟨x',hx',rfl,ms,pm,l⟩:=h.bwd m m' p';obtain⟨i,hi,ei⟩:=Qr.mp hx';have ei:xs[i]?=some x':=by rw[Qb hi,ei]
   have ji:j<=i:=Nat.le_of_not_lt λl=>no q' ((h.noC (m.st x' hx')).mpr (f i l _ ei));exact QP (m.mono i j _ _ _ _ ji ei e pm p) l
  show V.int (ns.length:Int)=V.int (ns'.length:Int);rw[Nat.le_antisymm le2 le1]
end
section
theorem TrX.race (h:TrX ins gs ins' gs' φ ρ) {z:Str} {r:Option (List Str × Str × Str)} (rr:dM ins gs z r):dM ins' gs' (φ z) (r.map λt=>(t.1.map ρ,ρ t.2.1,ρ t.2.2)):=by
 obtain⟨xs,m,rr⟩:=rr;refine⟨xs.map φ,h.met m,?_⟩
 match r,rr with
 | none,rr =>
  intro y hy;obtain⟨x,hx,rfl⟩:=Qo.mp hy;exact(h.toP.noC (m.st x hx)).mpr (rr x hx)
 | some (ns,c,b),⟨j,y,e,f,q,p⟩ =>
  have hy:=Qg e;refine⟨j,φ y,by rw[Qi,e];rfl,λj' l y' e'=>?_,?_,h.path m p hy⟩
  ·rw[Qi]at e'
   cases ex:xs[j']? with
   | none=>rw[ex]at e';cases e'
   | some x =>
   rw[ex]at e';cases e';exact(h.toP.noC (m.st x (Qg ex))).mpr (f j' l x ex)
  rw[h.calm (m.st y hy),List.head?_map,q];rfl
end
theorem Met.few (m:Met ins gs z xs) (ok:NetOk ins gs):xs.length<=2048:=by
 have w11:(aj ins gs).length<=11:=by rw[aP];have:=ok.i4;have:=ok.g7;omega
 have:=eZ w11 (xs:=aC xs) (by unfold aC;exact List.Pairwise.map _ (λa b h zz=>h (Sum.inr.inj zz)) m.nd) λx hx=>by
  obtain⟨y,hy,rfl⟩:=Qo.mp hx;exact⟨y,rfl,m.st y hy⟩
 unfold aC at this;rwa [Qc]at this
theorem rp (met:Met ins gs z xs) (cb:cN ins gs xs=true) (pm:ss.Perm xs) (so:ss.Pairwise leT):eR ins gs z ss=true:=by
 have mem:∀x,x∈ss↔x∈xs:=λx=>pm.mem_iff;unfold eR nU
 rw[QJ.mpr λx hx=>lD.mpr (met.st x ((mem x).mp hx)),gi.mpr ⟨pm.nodup_iff.mpr met.nd,so⟩,QU ((mem z).mpr (Qg met.zero)),
  e_.mpr λh hh p hp=>(mem _).mpr (met.closed ((mem h).mp hh) hp),show cN ins gs ss=true from QJ.mpr λh hh=>QJ.mp cb h ((mem h).mp hh)]
 rfl
def oS (ins:List Str) (gs:List (Str × Rl)) (xs:List Str) (φ:Str->Str) (H:Hp) (pv:V):Prop:=(pv=.non/\cN ins gs xs=false)\/cN ins gs xs=true/\∃(p:Addr) (ss:List Str),pv=.ref p/\H p=some (.lst (ss.map V.str))/\ss.Perm (xs.map φ)/\ss.Pairwise leT
theorem oS.keep {φ:Str->Str} {pv:V} (h:oS ins gs xs φ H pv) (k:∀p (ss:List Str),H p=some (.lst (ss.map V.str))->H' p=some (.lst (ss.map V.str))):oS ins gs xs φ H' pv:=by
 rcases h with h|⟨c,p,ss,e,hp,h⟩
 ·exact .inl h
 exact .inr ⟨c,p,ss,e,k p ss hp,h⟩
theorem TrP.pap {φ ρ:Str->Str} (h:TrP ins gs ins' gs' φ ρ) (ok':NetOk ins' gs') (m:Met ins gs z xs) {pv:V} (e:oS ins gs xs φ H pv):∀ys,Met ins' gs' (φ z) ys->B3 ins' gs' (φ z) ys H pv:=by
 intro ys m';have cb:=h.calmB m m';rcases e with⟨e,c⟩|⟨c,p,ss',e,hp,pm,so⟩
 ·exact .inl ⟨e,by rw[cb,c]⟩
 have py:ss'.Perm ys:=pm.trans (h.perm m m');have w11:(aj ins' gs').length<=11:=by rw[aP];have:=ok'.i4;have:=ok'.g7;omega
 refine .inr ⟨p,ss',e,hp,by rw[py.length_eq];have:=m'.few ok';omega,λx hx=>?_,by rw[cb,c],rp m' (by rw[cb,c]) py so⟩;have:x.length=(aj ins' gs').length:=(m'.st x (py.mem_iff.mp hx)).len;omega
theorem gU:∀r:Rl,r.ren (λn=>n)=r
 | .w n=>rfl
 | .no r=>congrArg Rl.no (gU r)
 | .an a b=>by rw[Rl.ren,gU a,gU b]
 | .orr a b=>by rw[Rl.ren,gU a,gU b]
theorem gW {α β:Type} (d:α) (f:α->β) (xs:List α):((List.range xs.length).map λk=>f (xs.getD k d))=xs.map f:=by
 refine List.ext_getElem? λi=>?_;rw[Qi,Qi,fw];by_cases c:i<xs.length
 ·rw[Qz c,Qb c];simp[c]
 rw[QA c,QY (by omega)];rfl
theorem rE (hz:z.cps.size=n):ce z (List.range n)=z:=by
 refine gg (n:=n) (by unfold ce;simp) hz λi hi=>?_;rw[eS,List.getElem?_range hi];rfl
theorem rY (a b:Nat):mvd (List.range a) (List.range b) a=List.range (a+b):=by
 unfold mvd;rw[List.range_add]
section
variable {ins:List Str} {gs:List (Str × Rl)}
theorem qD {ρ:Str->Str} (inj:∀a∈aj ins gs,∀b∈aj ins gs,ρ a=ρ b->a=b):Oth ins gs (List.range ins.length) (List.range gs.length) ρ (ins.map ρ) (gs.map λg=>(ρ g.1,g.2.ren ρ)) :=
 ⟨.refl _,.refl _,inj,(gW ("" : Str) ρ ins).symm,(gW g0 (λg=>(ρ g.1,g.2.ren ρ)) gs).symm⟩
theorem vm {ρ:Str->Str} (inj:∀a∈aj ins gs,∀b∈aj ins gs,ρ a=ρ b->a=b) (ok:NetOk ins gs):TrX ins gs (ins.map ρ) (gs.map λg=>(ρ g.1,g.2.ren ρ)) (λx=>x) ρ:=by
 have h:=qD inj;refine⟨λx sx=>?_,λx sx=>?_,λx y _ _ e=>e,λa b ha hb e=>inj a ha b hb e⟩
 ·have q:=h.same ok rfl sx;have p:∀{y:Str},StOk (aj ins gs).length y->ce y (mvd (List.range ins.length) (List.range gs.length) ins.length)=y:=λ{y} sy=>by rw[rY];exact rE (by rw[sy.len,aP])
  rw[p sx]at q;rw[q];refine List.map_congr_left λr hr=>?_;rw[p (iD sx hr)]
 rw[aP,Qc,Qc,<-aP];exact sx
theorem mh {ks:List Nat} (pm:ks.Perm (List.range gs.length)):Oth ins gs (List.range ins.length) ks (λn=>n) ins (ks.map λk=>gs.getD k g0):=by
 refine⟨.refl _,pm,λa _ b _ e=>e,?_,List.map_congr_left λk _=>?_⟩
 ·have:=gW ("" : Str) (λn:Str=>n) ins;rw[this,List.map_id']
 rw[gU]
theorem vn {ks:List Nat} (ok:NetOk ins gs) (pm:ks.Perm (List.range gs.length)):TrP ins gs ins (ks.map λk=>gs.getD k g0) (λz=>ce z (mvd (List.range ins.length) ks ins.length)) λn=>n:=by
 have h:=mh (ins:=ins) pm;refine⟨λx sx q=>?_,λx y sx sy e=>vA sx sy (by rw[aP];exact h.mv) e,λa b _ _ e=>e⟩;rw[(h.perm ok sx).mem_iff,Qo];exact⟨λ⟨p,hp,e⟩=>⟨p,hp,e.symm⟩,λ⟨p,hp,e⟩=>⟨p,hp,e.symm⟩⟩
variable {n i c:Nat}
theorem fZ (z:Str) (hz:z.cps.size=n) (hi:i<n):(flS z).cps.getD i 0=flC (z.cps.getD i 0):=by
 unfold flS;rw[Q9,List.getElem?_toArray,Qi,Qx,Q9,QF (by omega)];rfl
variable {z x y:Str}
theorem uR (st:StOk n z):StOk n (flS z):=by
 refine⟨by unfold flS;simp[st.len],λc hc=>?_⟩;unfold flS at hc;obtain⟨d,_,rfl⟩:=Qo.mp hc;unfold flC
 split
 ·exact .inl rfl
 exact .inr rfl
theorem gF (h:c=48\/c=49):(flC c==49)=!(c==49)/\flC (flC c)=c:=by
 rcases h with rfl|rfl <;> decide
theorem iJ (st:StOk n z) (hi:i<n):z.cps.getD i 0=48\/z.cps.getD i 0=49:=by
 refine st.signs _ ?_;rw[Q9,QF (by rw[st.len];exact hi)];exact Array.getElem_mem_toList _
theorem yD (sx:StOk n x) (sy:StOk n y) (e:flS x=flS y):x=y:=by
 refine gg sx.len sy.len λi hi=>?_;have:=fZ x sx.len hi;rw[e,fZ y sy.len hi]at this;rw[<-(gF (iJ sx hi)).2,<-this,(gF (iJ sy hi)).2]
theorem v4 (st:StOk n z) (hi:i<n):bW (flS z) i=flS (bW z i):=by
 have sf:=uR st;have tt:=fh st hi;refine gg (fh sf hi).len (uR tt).len λk hk=>?_;rw[eM sf hi k,fZ _ tt.len hk,eM st hi k,fZ z st.len hi,fZ z st.len hk];by_cases c:k=i
 ·rw[Qz c,Qz c];rfl
 rw[QA c,QA c]
theorem v5 (ok:NetOk ins gs):NetOk ins (gs.map λg=>(g.1,g.2.turn)):=by
 have ew:aj ins (gs.map λg=>(g.1,g.2.turn))=aj ins gs:=by unfold aj;rw[QW];rfl
 refine⟨by rw[ew];exact ok.nd,ok.i4,by rw[Qc];exact ok.g1,by rw[Qc];exact ok.g7,λg hg=>?_⟩;obtain⟨g',hg',rfl⟩:=Qo.mp hg;obtain⟨a,b⟩:=ok.rules g' hg';rw[ew];exact⟨dC _ a,by show g'.2.turn.dep<=10;rw[dD];exact b⟩
theorem sZ (ok:NetOk ins gs):TrX ins gs ins (gs.map λg=>(g.1,g.2.turn)) flS λn=>n:=by
 have ew:aj ins (gs.map λg=>(g.1,g.2.turn))=aj ins gs:=by unfold aj;rw[QW];rfl
 have wl:=aP ins gs;refine⟨λx sx=>?_,λx sx=>by rw[ew];exact uR sx,λx y sx sy e=>yD sx sy e,λa b _ _ e=>e⟩;rw[cG,cG,List.map_filterMap,Qc];refine gE λk hk=>?_;have hk:=Xk.mp hk;have hg:gs.getD k g0∈gs:=by rw[Ql,Qb hk];exact Xj _
 have eg:(gs.map λg=>(g.1,g.2.turn)).getD k g0=((gs.getD k g0).1,(gs.getD k g0).2.turn):=by
  rw[Ql,Ql,Qi,Qb hk];rfl
 have ev:=dB (f:=sgn (aj ins gs) x) (g:=sgn (aj ins gs) (flS x)) (ns:=aj ins gs) (λn hn=>by
  have hi:=Xy hn;unfold sgn;rw[fZ x sx.len hi]
  exact(gF (iJ sx hi)).1) _ (ok.rules _ hg).1
 have hi:ins.length+k<(aj ins gs).length:=by omega
 have es:((flS x).cps.getD (ins.length+k) 0==49)=!(x.cps.getD (ins.length+k) 0==49):=by rw[fZ x sx.len hi];exact(gF (iJ sx hi)).1
 unfold ie cs;rw[ew,eg];show (if ((gs.getD k g0).2.turn.val _==_)=true then none else some ((gs.getD k g0).1,bW _ (ins.length+k)))=_;rw[ev,es,v4 sx hi];dsimp only;cases (gs.getD k g0).2.val (sgn (aj ins gs) x) <;> cases (x.cps.getD (ins.length+k) 0==49) <;> rfl
end
end K2
namespace K2
open PySem L2
local macro_rules | `(tactic| walk_at "vc") => `(tactic| first
 | ((refine' (?zz : (?zA → ?zG) → ?zA → ?zG) ?zr ?_); (case zr => with_reducible exact s_seqT); (case zz => exact fun _ q => q); intro D') | ((refine' (?zz : (?zA → ?zG) → ?zA → ?zG) ?zr ?_); (case zr => with_reducible first | exact s_asgQ | exact s_drop | exact s_ret | exact s_if | exact s_sub | exact s_next | exact i_cQ | exact i_opQ | exact i_test | exact i_tB | exact i_and | exact i_or | exact i_not | exact i_andV | exact i_orV | exact i_notV | exact i_ifE | exact i_nilQ | exact i_consQ | exact i_cb | exact i_tup | exact i_lst | exact i_bm | exact i_sl | exact i_nopart | exact i_part | exact s_for | exact s_rng1 | exact s_list | exact s_str | exact i_dget | exact i_yes); (case zz => exact fun _ q => q))   | (with_reducible refine s_nameQ ?_)
 | ((with_reducible refine' i_varQ ?hv ?_); (case hv => exact rfl))   | (with_reducible first | refine i_rI0 ?_ | refine i_callQ ?_ | refine s_strI ?_ | refine iteF ?_ | refine iteTQ ?_)
 | ((with_reducible show ∃ i, V.int _ = V.int i ∧ _); (refine ⟨_, rfl, ?_⟩)) | ((with_reducible show ∃ k, V.bl _ = V.bl k ∧ _); (refine ⟨_, rfl, ?_⟩)) | ((with_reducible show (∃ i, [V.bl _] = [V.int i] ∧ _) ∨ _); (refine Or.inr ⟨_, rfl, ?_⟩))
 | ((with_reducible refine' i_ixL ?ha ?hb ?_); (case ha => exact SqLofQ (by assumption)); (case hb => exact rfl)) | ((with_reducible refine' i_ixTQ ?ha ?hb ?_); (case ha => assumption); (case hb => exact rfl))
 | ((with_reducible show ∃ p _, [V.ref _] = [V.ref p] ∧ (SqL _ _ _ _ ∨ SqT _ _ _ _) ∧ _); (refine' ⟨_, _, rfl, Or.inl (SqLofQ ?ha), ?_⟩); (case ha => assumption)) | ((with_reducible refine' s_setL ?ha ?hb ?_); (case ha => assumption); (case hb => exact rfl))
 | ((with_reducible refine' i_eq ?ha ?_); (case ha => exact rfl)) | ((with_reducible refine' i_ne ?ha ?_); (case ha => exact rfl))
 | ((with_reducible show ∃ z, V.str _ = V.str z ∧ _); (refine ⟨_, rfl, ?_⟩)))
local macro_rules | `(tactic| walk_at "p") => `(tactic| repeat' (with_reducible first | (refine' pss_oneQ ?_; rotate_left 1) | (refine' pss_cons ?_ ?_; rotate_left 2) | exact pss_nil | (refine' ps_if ?_ ?_ ?_; rotate_left 3)))
local macro_rules | `(tactic| walk_at "b") => `(tactic| (refine' pss_cons ?_ ?_; rotate_left 2; walk_at "p"))
local macro_rules | `(tactic| walk_at "f") => `(tactic| (refine' ps_for XN rfl ?_ ?_ ?_ (fun _ => rfl); rotate_left 3))
local macro_rules | `(tactic| walk_at "q") => `(tactic| repeat' (with_reducible first | exact pe_strQ | exact pe_intQ | exact pa_nilQ | (refine' pe_tupQ ?_; rotate_left 1) | (refine' pe_lst ?_; rotate_left 1) | (refine' pa_consQ ?_ ?_ se_conQ; rotate_left 2) | (refine' pa_consQ ?_ ?_ se_tup; rotate_left 2) | (refine' pa_consQ ?_ ?_ se_nameQ; rotate_left 2) | (refine' pa_consQ ?_ ?_ se_sub; rotate_left 2) | (refine' pa_consQ ?_ ?_ se_bin; rotate_left 2) | (refine' pa_consQ ?_ ?_ se_lst; rotate_left 2) | (refine' pa_consQ ?_ ?_ se_callQ; rotate_left 2) | (refine' pa_consQ ?_ ?_ se_lc; rotate_left 2)))
local macro_rules | `(tactic| walk_at "l") => `(tactic| (intro vs H Q E h; repeat (first | (obtain ⟨e, _⟩ := h; subst e; rfl) | (obtain ⟨_, h⟩ := h))))
local macro_rules | `(tactic| walk_at "e") => `(tactic| ((try dsimp only [cxOf, Cx.nox, Cx.wish]); (conv in (L2.start _ _) => simp only [L2.start, QC, List.map_nil, Q0, Xq, List.replicate_succ, List.replicate_zero, List.cons_append, List.nil_append, Nat.reduceAdd, Nat.reduceSub]); have big : 100000 < sizeLine := by decide))
local macro_rules | `(tactic| walk_at "s") => `(tactic| (with_reducible first | refine s_seq ?_ | refine s_if ?_ | refine s_next ?_ | refine i_or ?_ | refine s_nameQ ?_ | refine s_ret ?_))
local macro_rules|`(tactic|walk_at "w")=>`(tactic|repeat walk_at "vc")
local macro_rules|`(tactic|walk_at "k")=>`(tactic|exact⟨rfl,rfl,rfl,by decide +kernel,rfl,by decide +kernel,by decide +kernel⟩)
local macro_rules|`(tactic|walk_at "d")=>`(tactic|try dsimp only[cxOf,Cx.nox,Cx.wish])
theorem mO {D:Dk} {t:Str} {n:Nat} {H1:Hp} {L:Addr} {te:TE} {σ0:St} {QD:Hp->Prop} (DA:D.At H1) (hL:H1 L=none) (hn:n<=1000) (hwk:∀x,wk σ0 (σ0.set 0 (some x)))
  (hstep:∀(i:Int) H' (Q:VK),D.At H'->(∀c H'',c∈t.cps.toList->Kp D H' H''->Q (.str ⟨#[c]⟩) H'')->te (σ0.set 0 (some (.int i))) H' Q)
  (hd:∀H' (zs:List Str),zs.length=n->(∀z∈zs,∃c∈t.cps.toList,z=⟨#[c]⟩)->Kp D H1 H'->H' L=some (.lst (zs.map V.str))->QD H') :
  ∃W:Nat->Nat->Hp->List V->Prop,(∃m,W 0 m (upd H1 L (.lst [])) [])/\∀i m H ys,W i m H ys->H L=some (.lst ys)/\(((Itr 0 n).stop i H/\QD H)\/((Itr 0 n).go i H/\∀x H',(Itr 0 n).yld i H x H'->eJ 0 x σ0 H' λσ2 H2=>wk σ0 σ2/\fF σ2 H2 λb H3 =>
   if b=true then te σ2 H3 λv H4=>H4 L=some (.lst ys)/\ys.length<sizeLine/\∃m',m'<m/\W (i+1) m' (upd H4 L (.lst (ys++[v]))) (ys++[v]) else ∃m',m'<m/\W (i+1) m' H3 ys)):=by
 have big:1000<sizeLine:=by decide
 let I24:IvC:=λn H' ys=>Kp D H1 H'/\H' L=some (.lst ys)/\∃zs:List Str,ys=zs.map V.str/\zs.length=n/\∀z∈zs,∃c∈t.cps.toList,z=⟨#[c]⟩;refine jO I24 ⟨Kp.fresh DA hL (Kp.of DA (aw.refl _)),ag,[],rfl,rfl,λz h=>nomatch h⟩ (λi H ys p=>p.2.1) (λi H ys hi p=>?_) (λH ys p=>?_)
 ·obtain⟨kp,hl,zs,rfl,hz,hc⟩:=p;refine ax ⟨hwk _,i_yes (bV ?_)⟩;refine hstep _ H _ kp.dk λc H'' hc' k2=>?_;refine bM.mk (k2.strs kp.dk hl) hi (by rw[Qc];omega) ⟨Kp.fresh DA hL (kp.trans k2),ag,zs++[⟨#[c]⟩],by simp,by simp[hz],λz hz'=>?_⟩;rcases QH.mp hz' with h|h
  ·exact hc z h
  rw[Q3]at h;exact⟨c,hc',h⟩
 obtain⟨kp,hl,zs,rfl,hz,hc⟩:=p;exact hd H zs hz hc kp hl
theorem d5 {T:List Nat}:∀(zs:List Str),(∀z∈zs,∃c∈T,z=⟨#[c]⟩)->((zs.map (·.cps.toList)).flatten).length=zs.length/\(∀c∈(zs.map (·.cps.toList)).flatten,c∈T)/\(zs.map (·.length)).sum=zs.length
 | [],_=>⟨rfl,λc h=>(List.not_mem_nil h).elim,rfl⟩
 | z::zs,h=>by
  obtain⟨c,hc,rfl⟩:=h z (by simp);obtain⟨e1,e2,e3⟩:=d5 zs λz hz=>h z (Qq _ hz);refine⟨?_,λd hd=>?_,?_⟩
  ·simp only[QC,List.flatten_cons,Qj,e1,Q0];show (#[c]:Array Nat).toList.length+zs.length=_;simp;omega
  ·simp only[QC,List.flatten_cons,QH]at hd;rcases hd with hd|hd
   ·have:d=c:=by simpa using hd
    rw[this];exact hc
   exact e2 d hd
  simp only[QC,List.sum_cons,Q0,e3];show (#[c]:Array Nat).size+zs.length=_;simp;omega
theorem sk {T:List Nat} {zs:List Str} (h:∀z∈zs,∃c∈T,z=⟨#[c]⟩):(Txt.join Str.empty zs).cps.size=zs.length/\∀c∈(Txt.join Str.empty zs).cps.toList,c∈T:=by
 obtain⟨e1,e2,_⟩:=d5 zs h;rw[<-Qu,kU];exact⟨e1,e2⟩
def fQ:Sp:=λvs H Q _=>∃(D:Dk) (a li lg:Addr) (ins:List Str) (gvs:List V) (gs:List (Str × Rl)),vs=[.ref D.d,.ref a]/\D.At H/\NAt H a li lg ins gvs gs/\NetOk ins gs/\∀z H',StOk (aj ins gs).length z->Kp D H H'->Q (.str z) H'
theorem wa {t:Str} {r:Int} (h0:0<=r) (h1:r<t.cps.size):∃c,atI t.cps.toList r=some c/\c∈t.cps.toList:=by
 have hr:r.toNat<t.cps.toList.length:=by rw[Qu];omega
 refine⟨t.cps.toList[r.toNat],?_,Xj hr⟩;have e:r=((r.toNat:Nat):Int):=by omega
 have q:=dj (xs:=t.cps.toList) (j:=r.toNat) (v:=t.cps.toList[r.toNat]) (Qb hr);rw[<-e]at q;exact q
section
variable {P:Program} {w:World} {K:PySem.W.Frag} {mg:Str->Option Value} {base:Heap} {TT:Addr}
theorem iu:FnScope ["store", "net"] ["store", "net"] (au (top 37)):=by walk_at "k"
theorem nY {f:Addr} {fd:FuncData} (Fu:Fun K "_law_standing" "_law_standing" (top 37) f fd) (T:Txt K mg TT) (f_law_take:Fn P w K mg base "_law_take" ["store", "many"] 1 dR):FnOk P w K mg base CX0 2 f fd ["store", "net"] fQ:=by
 have S:=iu;refine Fu.ok S (by walk_at "l") (λcdv A outer s H vs Q E hr h=>?_);obtain⟨D,a,li,lg,ins,gvs,gs,rfl,DA,NA,ok,k⟩:=h;obtain⟨ha,hi,hg,gts⟩:=id NA;have lg':=aQ gts;have i4:=ok.i4;have g7:=ok.g7;refine⟨_,(aI (aB (eV PySem.F.plainAttrs_str PySem.F.slot_str_join PySem.F.type_str_join mC aE (ad (c7 "k" [("store", 0)] (fA (by rfl) T.n_range (ad (a8 cu (aK aN (by rfl) T.n_len Q7 (ad (aD aH (pv 1) ak) af)) (aK aN (by rfl) T.n_len Q7 (ad (aD aH (pv 1) ak) af))) af)) (λ_ _ _ _=>(aD jG aE (aF f_law_take hr (ad (pv 1) (ad ak af)))))) af)))),?_⟩;walk_at "e";walk_at "w";refine⟨rfl,?_⟩;walk_at "w";refine i_comp ?_;walk_at "w"
 have en:((ins.map V.str).length:Int)+(gvs.length:Int)=(((aj ins gs).length:Nat):Int):=by
  unfold aj;rw[Qj,Qc,Qc,lg'];rfl
 have wl:(aj ins gs).length<1000:=by
  unfold aj;rw[Qj,Qc];omega
 rw[en];refine⟨_,rfl,by omega,by omega,λL hL=>?_⟩;rw[Xu];refine mO (t := "01") DA hL (by omega) (λx=>⟨rfl,trivial⟩) (λi H' Q' DA' kq=>?_) (λH' zs hz hc kp hl=>?_)
 ·show tOp _ _ _ _ _ _;walk_at "w";refine⟨D,2,rfl,DA',by decide,by decide,λr H2 r0 r1 k2=>?_⟩;have z2:(("01" : Str).cps.size:Int)=2:=by decide +kernel
  obtain⟨c,e,hc⟩:=wa (t := "01") r0 (by rw[z2];exact r1);exact qN (by decide +kernel) e (kq c H2 hc k2)
 obtain⟨e1,e2⟩:=sk hc;obtain⟨_,_,e3⟩:=d5 zs hc;refine aG ⟨"", L,zs,rfl,rfl,SqL.of hl,?_,?_⟩
 ·have:("" : Str).length=0:=by decide +kernel
  rw[e3,this];omega
 have e0:("" : Str)=Str.empty:=by decide +kernel
 rw[e0];refine k _ H' ⟨by rw[e1,hz],λc hc'=>?_⟩ kp;have:=e2 c hc';have hh:∀c∈("01" : Str).cps.toList,c=48\/c=49:=by decide +kernel
 exact hh c this
end
end K2
namespace K2
open PySem L2
local macro_rules | `(tactic| walk_at "vc") => `(tactic| first
 | ((refine' (?zz : (?zA → ?zG) → ?zA → ?zG) ?zr ?_); (case zr => with_reducible exact s_seqT); (case zz => exact fun _ q => q); intro D') | ((refine' (?zz : (?zA → ?zG) → ?zA → ?zG) ?zr ?_); (case zr => with_reducible first | exact s_asgQ | exact s_drop | exact s_ret | exact s_if | exact s_sub | exact s_next | exact i_cQ | exact i_opQ | exact i_test | exact i_tB | exact i_and | exact i_or | exact i_not | exact i_andV | exact i_orV | exact i_notV | exact i_ifE | exact i_nilQ | exact i_consQ | exact i_cb | exact i_tup | exact i_lst | exact i_bm | exact i_sl | exact i_nopart | exact i_part | exact s_for | exact s_rng1 | exact s_list | exact s_str | exact i_dget | exact i_yes | exact i_un); (case zz => exact fun _ q => q))   | (with_reducible refine s_nameQ ?_)
 | ((with_reducible refine' i_varQ ?hv ?_); (case hv => exact rfl))   | (with_reducible first | refine i_rI0 ?_ | refine i_callQ ?_ | refine s_strI ?_ | refine iteF ?_ | refine iteTQ ?_ | refine i_rU ?_)
 | ((with_reducible show ∃ i, V.int _ = V.int i ∧ _); (refine ⟨_, rfl, ?_⟩)) | ((with_reducible show ∃ k, V.bl _ = V.bl k ∧ _); (refine ⟨_, rfl, ?_⟩)) | ((with_reducible show (∃ i, [V.bl _] = [V.int i] ∧ _) ∨ _); (refine Or.inr ⟨_, rfl, ?_⟩))
 | ((with_reducible refine' i_ixL ?ha ?hb ?_); (case ha => exact SqLofQ (by assumption)); (case hb => exact rfl)) | ((with_reducible refine' i_ixTQ ?ha ?hb ?_); (case ha => assumption); (case hb => exact rfl))
 | ((with_reducible show ∃ p _, [V.ref _] = [V.ref p] ∧ (SqL _ _ _ _ ∨ SqT _ _ _ _) ∧ _); (refine' ⟨_, _, rfl, Or.inl (SqLofQ ?ha), ?_⟩); (case ha => assumption)) | ((with_reducible refine' s_setL ?ha ?hb ?_); (case ha => assumption); (case hb => exact rfl))
 | ((with_reducible refine' i_eq ?ha ?_); (case ha => exact rfl)) | ((with_reducible refine' i_ne ?ha ?_); (case ha => exact rfl))
 | ((with_reducible show ∃ z, V.str _ = V.str z ∧ _); (refine ⟨_, rfl, ?_⟩))
 | ((with_reducible refine' i_rI ?hv ?_); (case hv => first | decide | (dsimp only; omega) | exact .inl ⟨by omega, by omega⟩ | exact .inr ⟨by omega, by omega⟩ | exact ⟨by decide, by decide⟩ | exact ⟨by decide, by decide, by decide⟩ | exact ⟨by omega, by omega⟩))
 | ((with_reducible show ∃ i, [V.int _] = [V.int i] ∧ _); (refine ⟨_, rfl, ?_⟩))
 | ((with_reducible show tyV _ "list" _ _ ∧ _); (refine' ⟨i_tyL ?ha, ?_⟩); (case ha => assumption)))
local macro_rules | `(tactic| walk_at "p") => `(tactic| repeat' (with_reducible first | (refine' pss_oneQ ?_; rotate_left 1) | (refine' pss_cons ?_ ?_; rotate_left 2) | exact pss_nil | (refine' ps_if ?_ ?_ ?_; rotate_left 3)))
local macro_rules | `(tactic| walk_at "b") => `(tactic| (refine' pss_cons ?_ ?_; rotate_left 2; walk_at "p"))
local macro_rules | `(tactic| walk_at "f") => `(tactic| (refine' ps_for XN rfl ?_ ?_ ?_ (fun _ => rfl); rotate_left 3))
local macro_rules | `(tactic| walk_at "q") => `(tactic| repeat' (with_reducible first | exact pe_strQ | exact pe_intQ | exact pa_nilQ | (refine' pe_tupQ ?_; rotate_left 1) | (refine' pe_lst ?_; rotate_left 1) | (refine' pa_consQ ?_ ?_ se_conQ; rotate_left 2) | (refine' pa_consQ ?_ ?_ se_tup; rotate_left 2) | (refine' pa_consQ ?_ ?_ se_nameQ; rotate_left 2) | (refine' pa_consQ ?_ ?_ se_sub; rotate_left 2) | (refine' pa_consQ ?_ ?_ se_bin; rotate_left 2) | (refine' pa_consQ ?_ ?_ se_lst; rotate_left 2) | (refine' pa_consQ ?_ ?_ se_callQ; rotate_left 2) | (refine' pa_consQ ?_ ?_ se_lc; rotate_left 2)))
local macro_rules | `(tactic| walk_at "l") => `(tactic| (intro vs H Q E h; repeat (first | (obtain ⟨e, _⟩ := h; subst e; rfl) | (obtain ⟨_, h⟩ := h))))
local macro_rules | `(tactic| walk_at "e") => `(tactic| ((try dsimp only [cxOf, Cx.nox, Cx.wish]); (conv in (L2.start _ _) => simp only [L2.start, QC, List.map_nil, Q0, Xq, List.replicate_succ, List.replicate_zero, List.cons_append, List.nil_append, Nat.reduceAdd, Nat.reduceSub]); have big : 100000 < sizeLine := by decide))
local macro_rules | `(tactic| walk_at "s") => `(tactic| (with_reducible first | refine s_seq ?_ | refine s_if ?_ | refine s_next ?_ | refine i_or ?_ | refine s_nameQ ?_ | refine s_ret ?_))
local macro_rules|`(tactic|walk_at "w")=>`(tactic|repeat walk_at "vc")
local macro_rules|`(tactic|walk_at "k")=>`(tactic|exact⟨rfl,rfl,rfl,by decide +kernel,rfl,by decide +kernel,by decide +kernel⟩)
local macro_rules|`(tactic|walk_at "d")=>`(tactic|try dsimp only[cxOf,Cx.nox,Cx.wish])
def qm (K:PySem.W.Frag) (TL:Addr):Sp:=λvs H Q _=>∃(a:Addr) (ns:List Int),vs=[.ref a]/\SqL K H a (ns.map V.int)/\ns.length<=63/\cS TL cH H/\∀H',Q (.bl true) H'
variable {H H1 H' H2:Hp} {D:Dk} {T a l' L p:Addr}
theorem qg (tb:cS T cH H) (DA:D.At H) (k:Kp D H H1):cS T cH H1:=by
 rcases tb with e|⟨c,e,q⟩
 ·exact .inl (k.old _ _ e (dr DA e (λ_ z=>nomatch z)))
 exact .inr ⟨c,k.old _ _ e (dr DA e (λ_ z=>nomatch z)),k.old _ _ q (dr DA q (λ_ z=>nomatch z))⟩
variable {K:PySem.W.Frag}
theorem tw {l:Lm} {xs:List V} (tb:cS T l H) (h:SqL K H a xs) (k:∀o,H a=some o->a≠T->H' a=some o):SqL K H' a xs:=by
 rcases h with h|h
 ·left
  rcases h with e|⟨o,e⟩
  ·exact .inl (k _ e (gf tb e λ_ z=>nomatch z))
  exact .inr ⟨o,k _ e (gf tb e λ_ z=>nomatch z)⟩
 exact .inr h
variable {c b z:Str} {ns ins ss:List Str}
theorem rD {l:Addr} (h1:H l'=some (.lst (ns.map V.str))) (h2:H l=some (.lst (ns.map V.str))):∀(j:Nat) x y,[V.ref l',V.str c,V.str b][j]?=some x->[V.ref l,V.str c,V.str b][j]?=some y->EqD K H 8 x y true:=λj x y e1 e2=>by
 match j with
 | 0=>cases e1;cases e2;exact uV (SqL.of h1) (SqL.of h2) rfl (sE (kX _))
 | 1=>cases e1;cases e2;exact jK rfl
 | 2=>cases e1;cases e2;exact jK rfl
 | j+3=>simp at e1
variable {gs:List (Str × Rl)}
theorem dM.few (ok:NetOk ins gs) (h:dM ins gs z (some (ns,c,b))):ns.length<=2048:=by
 obtain⟨xs,m,j,h,e,_,_,p⟩:=h;obtain⟨ms,q,l⟩:=m.path j h e;rw[p.det q];have w11:(aj ins gs).length<=11:=by rw[aP];have:=ok.i4;have:=ok.g7;omega
 have:=eZ w11 (xs:=aC xs) (by rw[m.bfs];exact Bf.bx _) λx hx=>by
  obtain⟨y,hy,rfl⟩:=Qo.mp hx;exact⟨y,rfl,m.st y hy⟩
 unfold aC at this;rw[Qc]at this;have:=(Qe.mp e).1;omega
theorem hV {σ0:St} {g:TG} {te:TE} {QD:Hp->Prop} {F:Str->Str} (q1:H1 p=some (.lst (ss.map V.str))) (hL:H1 L=none) (few:ss.length<=5000)
  (hs:∀x H' (R:VK) (C:Hp->Prop),x∈ss->aw H1 H'->(∀H3,aw H' H3->R (.str (F x)) H3)->g (.str x) σ0 H' λσ2 H2=>wk σ0 σ2/\fF σ2 H2 λb H3=>if b=true then te σ2 H3 R else C H3) (hd:∀H',aw H1 H'->H' L=some (.lst ((ss.map F).map V.str))->QD H') :
  ∃W:Nat->Nat->Hp->List V->Prop,(∃m,W 0 m (upd H1 L (.lst [])) [])/\∀i m H ys,W i m H ys->H L=some (.lst ys)/\(((Itl K p).stop i H/\QD H)\/((Itl K p).go i H/\∀x H',(Itl K p).yld i H x H'->g x σ0 H' λσ2 H2=>wk σ0 σ2/\fF σ2 H2 λb H3 =>
   if b=true then te σ2 H3 λv H4=>H4 L=some (.lst ys)/\ys.length<sizeLine/\∃m',m'<m/\W (i+1) m' (upd H4 L (.lst (ys++[v]))) (ys++[v]) else ∃m',m'<m/\W (i+1) m' H3 ys)):=by
 have big:100000<sizeLine:=by decide
 refine bD (xs:=ss.map V.str) (λm H' ys=>aw H1 H'/\H' L=some (.lst ys)/\ys=((ss.take m).map F).map V.str) ⟨ap hL,ag,rfl⟩ (λm H' ys p=>⟨p.2.1,SqL.of (p.1 _ _ q1)⟩) (λm v H' ys e p=>?_) λH' ys p=>?_
 ·obtain⟨Sm,hl,rfl⟩:=p;rw[Qi]at e
  cases ex:ss[m]? with
  | none=>rw[ex]at e;cases e
  | some x =>
  rw[ex]at e;cases e;have hm:m<ss.length:=(Qe.mp ex).1;refine hs x H' _ _ (Qg ex) Sm λH3 S3=>?_;refine bM.mk (S3 _ _ hl) (by rw[Qc];exact hm) (by rw[Qc,Qc,Qv];omega) ⟨bp (Sm.trans S3) hL,ag,?_⟩;rw[QO,ex,Q8,Qw,Qw];rfl
 obtain⟨Sm,hl,rfl⟩:=p;rw[Qc,Qs (Qh _)]at hl;exact hd H' Sm hl
theorem v0 {vs:List V} (p:Paired (GAt H) vs gs) {k:Nat} (hk:k<gs.length):∃b rv,vs[k]?=some (.ref b)/\H b=some (.tup [.str (gs.getD k g0).1,rv])/\RAt H rv (gs.getD k g0).2:=by
 have hv:k<vs.length:=by rw[aQ p];exact hk
 obtain⟨g,eg,b,rv,e,h1,h2⟩:=cV p k vs[k] (Qb hv);have:gs.getD k g0=g:=by rw[Ql,eg];rfl
 rw[this];exact⟨b,rv,by rw[Qb hv,e],h1,h2⟩
structure Tq (T:Addr) (D:Dk) (H H':Hp):Prop where
 old:∀b o,H b=some o->b≠T->¬D.own b->H' b=some o
 tab:cS T cH H'
 dk:D.At H'
theorem Tq.trans (a:Tq T D H H1) (b:Tq T D H1 H2):Tq T D H H2:=⟨λc o e n m=>b.old c o (a.old c o e n m) n m,b.tab,b.dk⟩
theorem Tq.tk (a:Tq T D H H1) (t:Tk T H1 H2):Tq T D H H2:=⟨λc o e n m=>t.old c o (a.old c o e n m) n,t.tab,let ⟨x,y,w,e⟩:=a.dk;⟨x,y,w,t.lst a.tab _ _ e⟩⟩
theorem Tq.kp (a:Tq T D H H1) (k:Kp D H1 H2):Tq T D H H2:=⟨λc o e n m=>k.old c o (a.old c o e n m) m,qg a.tab a.dk k,k.dk⟩
theorem Tq.same (a:Tq T D H H1) (S:aw H1 H2):Tq T D H H2:=a.kp (Kp.of a.dk S)
theorem Tq.refl (t:cS T cH H) (d:D.At H):Tq T D H H:=⟨λ_ _ e _ _=>e,t,d⟩
section
variable {TL:Addr} {D:Dk} {H H':Hp} (t:cS TL cH H) (d:D.At H) (q:Tq TL D H H')
include t d q
theorem Tq.tup:cr H H':=λb xs e=>q.old b _ e (gf t e λ_ z=>nomatch z) (dr d e (λ_ z=>nomatch z))
theorem Tq.strs {l:Addr} {ns:List Str} (h:H l=some (.lst (ns.map V.str))):H' l=some (.lst (ns.map V.str)):=q.old l _ h (gf t h λ_ z=>nomatch z) (dr d h (λxs e=>by cases e;exact jm ns))
theorem Tq.nat {a li lg:Addr} {ins:List Str} {vs:List V} {gs:List (Str × Rl)} (h:NAt H a li lg ins vs gs):NAt H' a li lg ins vs gs :=
 ⟨q.tup t d _ _ h.ha,q.strs t d h.hi,q.old _ _ h.hg (gf t h.hg λ_ z=>nomatch z) (dr d h.hg (λys e=>by cases e;exact jo (d6 h.gates))),bi (q.tup t d) h.gates⟩
theorem Tq.long {o:Option (List Str × Str × Str)} {v:V} (h:c_ H o v):c_ H' o v:=by
 match o,h with
 | none,h=>exact h
 | some (ns,c,b),⟨u,l,e,h1,h2⟩=>exact⟨u,l,e,q.tup t d _ _ h1,q.strs t d h2⟩
end
variable {o:Option (List Str × Str × Str)}
theorem gX {v:V} (h:xr H H' o v):c_ H' o v:=by
 match o,h with
 | none,h=>exact h
 | some (ns,c,b),⟨t,l,e,_,_,ht,hl⟩=>exact⟨t,l,e,ht,hl⟩
theorem qJ {u v:V} {Q:VK} (h1:c_ H o u) (h2:c_ H o v) (q:Q (.bl false) H):xK K true u v H Q\/rNe u v H Q:=by
 match o,h1,h2 with
 | none,h1,h2 =>
  have h1:u=.non:=h1;have h2:v=.non:=h2;subst h1 h2;exact .inr (i_ne rfl q)
 | some (ns,c1,b1),⟨t,l,ev,ht,hl⟩,⟨t',l',ev',ht',hl'⟩ =>
  subst ev ev';exact .inl (BR (SqT.of ht) (SqT.of ht') rfl (rD hl hl') q)
theorem dM.names (h:dM ins gs z (some (ns,c,b))):(∀n∈ns,n∈aj ins gs)/\c∈aj ins gs/\b∈aj ins gs:=by
 obtain⟨xs,m,j,h,e,_,q,p⟩:=h;refine⟨?_,?_⟩
 ·clear q e
  induction p with
  | nil=>intro n h;cases h
  | snoc _ c _ ih =>
  intro n hn;rcases QH.mp hn with k|k
  ·exact ih n k
  rw[Q3]at k;subst k;obtain⟨_,_,hs,_⟩:=d8 c;exact bK hs
 have hm:=List.mem_of_head? q;unfold bR at hm;obtain⟨c',hc,hm⟩:=List.mem_flatMap.mp hm;obtain⟨p',hp,e'⟩:=List.mem_filterMap.mp hm;unfold di at e'
 split at e'
 ·cases e';obtain⟨u,hu,rfl⟩:=Qo.mp hc;exact⟨bK hu,bK hp⟩
 cases e'
section
variable {P:Program} {w:World} {K:PySem.W.Frag} {mg:Str->Option Value} {base:Heap} {TT:Addr}
theorem xF:FnScope ["script", "at", "store", "net", "standing", "told", "some", "others", "named", "due", "order", "ins", "other", "moved_on", "flipped", "dual", "signs"] ["script"] (au (top 51)):=by walk_at "k"
theorem uu {TL:Addr} {f:Addr} {fd:FuncData} (Fu:Fun K "law" "law" (top 51) f fd) (T:Txt K mg TT) (f_law_cell:Fn P w K mg base "_law_cell" ["script", "k"] 1 (o8 K)) (f_law_store:Fn P w K mg base "_law_store" ["cell"] 1 lH) (f_law_net:Fn P w K mg base "_law_net" ["store", "most"] 12 o7) (f_law_standing:Fn P w K mg base "_law_standing" ["store", "net"] 2 fQ)
  (f_first_race:Fn P w K mg base "first_race" ["net", "standing"] 16 (lL TL)) (f_calm_paper:Fn P w K mg base "calm_paper" ["net", "standing"] 16 (de TL)) (f_law_renamed:Fn P w K mg base "_law_renamed" ["store", "net"] 11 gP) (f_law_right:Fn P w K mg base "_law_right" ["net", "standing", "long", "paper"] 17 (lJ TL)) (f_law_long:Fn P w K mg base "_law_long" ["told"] 1 lM)
  (f_law_order:Fn P w K mg base "_law_order" ["store", "net"] 2 o0) (f_law_reordered:Fn P w K mg base "_law_reordered" ["standing", "ins", "order"] 1 iG) (f_law_turned_rule:Fn P w K mg base "_law_turned_rule" ["rule"] 10 (iE 10)) (f_law_turned_signs:Fn P w K mg base "_law_turned_signs" ["standing"] 1 iW):FnOk P w K mg base CX0 18 f fd ["script"] (qm K TL):=by
 have S:=xF;refine Fu.ok S (by walk_at "l") (λcdv A outer s H vs Q E hr h=>?_);obtain⟨sc,cells,rfl,hS,hlen,tb,k⟩:=h;have hu:=eI hr;refine'⟨?_,?bb,?_⟩
 case bb =>
  walk_at "b";walk_at "f";exact(fA (by rfl) T.n_range (ad (aK (ld rfl) (by rfl) T.n_min PyProof.Rows.boot_min (ad (aK (sM rfl) (by rfl) T.n_max PyProof.Rows.boot_max (ad (aK aN (by rfl) T.n_len Q7 (ad (pv 0) af ae)) (ad ak af aA) aS)) (ad ak af aA) aS)) af aS));exact(cK 1 S.nd);walk_at "p";exact aO 2 S.nd (aF f_law_store hr (ad (aF f_law_cell hr (ad (pv 0) (ad (pv 1) af ae) ae)) af aS));exact aO 3 S.nd (aF f_law_net hr (ad (pv 2) (ad ak af aA) ae));exact aO 4 S.nd (aF f_law_standing hr (ad (pv 2) (ad (pv 3) af ae) ae));exact aO 5 S.nd (aF f_first_race hr (ad (pv 3) (ad (pv 4) af ae) ae));exact aO 6 S.nd (aF f_calm_paper hr (ad (pv 3) (ad (pv 4) af ae) ae));exact(pq (aF f_law_renamed hr (ad (pv 2) (ad (pv 3) af ae) ae)) (jh rfl (bz (cK 7 S.nd) (bz (cK 8 S.nd) dU))));exact aO 9 S.nd bU;exact(aL mj (pv 5) bU rfl);exact aO 9 S.nd (be (ad (c7 "name" [("others", 7)] (bq (aD aH (pv 5) ak)) (λ_ _ _ _=>(bO hu (pv 1) (pv 0)))) (ad (bO hu (pv 7) (aD aH (pv 5) ak)) (ad (bO hu (pv 7) (aD aH (pv 5) ak)) af))));exact(PW.pt (je (aL (OpR.or (t7 hr.units) ii) (aF f_first_race hr (ad (pv 8) (ad (pv 4) af ae) ae)) (pv 9) (aZ _)) (fT (dS (c6 (aF f_law_right hr (ad (pv 8) (ad (pv 4) (ad (aF f_law_long hr (ad (pv 5) af ae)) (ad (pv 6) af ae) aS) ae) ae)))))));exact(aB dF);exact aO 10 S.nd (aF f_law_order hr (ad (pv 2) (ad (pv 3) af ae) ae));exact aO 11 S.nd (aK aN (by rfl) T.n_len Q7 (ad (aD aH (pv 3) ak) af));exact aO 12 S.nd (be (ad (cU d_ (by rfl) T.n_list PyProof.Rows.boot_list (ad (aD aH (pv 3) ak) af)) (ad (c7 "at" [("net", 3)] (bq (pv 10)) (λ_ _ _ _=>(aD (uJ (K:=K) rfl) (aD (gC (K:=K) rfl) (pv 1) ak) (pv 0)))) af) aS));exact aO 13 S.nd bU;exact aO 14 S.nd bU;exact(aL mj (pv 6) bU rfl);exact aO 13 S.nd (aK (f8 rfl) (by rfl) T.n_sorted PyProof.Rows.boot_sorted (ad (c7 "one" [("ins", 11),("order", 10)] (bq (pv 6)) (λ_ _ _ _=>(aF f_law_reordered hr (ad (pv 0) (ad (pv 1) (ad (pv 2) af ae) ae) ae)))) af));exact aO 14 S.nd (aK (f8 rfl) (by rfl) T.n_sorted PyProof.Rows.boot_sorted (ad (c7 "one" [] (bq (pv 6)) (λ_ _ _ _=>(aF f_law_turned_signs hr (ad (pv 0) af ae)))) af));exact(dS (c6 (aF f_law_right hr (ad (pv 12) (ad (aF f_law_reordered hr (ad (pv 4) (ad (pv 11) (ad (pv 10) af ae) ae) ae)) (ad (aF f_law_long hr (ad (pv 5) af ae)) (ad (pv 13) af ae) aS) aS) ae))));exact(aB dF);refine' aO 15 S.nd ?e
  case e =>
   walk_at "q";exact(cU d_ (by rfl) T.n_list PyProof.Rows.boot_list (ad (aD aH (pv 3) ak) af));exact(qy (tgs:=["name", "rule"]) (cap:=[]) rfl ⟨rfl,rfl,rfl,rfl,rfl,rfl⟩ (bq (aD aH (pv 3) ak)) (λ_ _ _ _=>(me (K:=K) (n:=2) rfl rfl (bz (cP (i:=0) (show List.Nodup [("name" : Str),("rule" : Str)] by decide +kernel) rfl (by walk_at "z")) (bz (cP (i:=1) (show List.Nodup [("name" : Str),("rule" : Str)] by decide +kernel) rfl (by walk_at "z")) dU)))) (λ_ _ _ _=>gv) (λ_ _ _ _=>(be (ad (pv 0) (ad (aF f_law_turned_rule hr (ad (pv 1) af ae)) af aS) ae))))
  exact aO 16 S.nd (aF f_law_turned_signs hr (ad (pv 4) af ae));exact(PW.pt (je (aL (OpR.or (t7 hr.units) ii) (aF f_first_race hr (ad (pv 15) (ad (pv 16) af ae) ae)) (pv 5) (aZ _)) (fT (dS (c6 (aF f_law_right hr (ad (pv 15) (ad (pv 16) (ad (aF f_law_long hr (ad (pv 5) af ae)) (ad (pv 14) af ae) aS) ae) ae)))))));exact(aB dF);exact(aB dF)
 walk_at "e";walk_at "w";refine⟨_,_,rfl,Or.inl hS,?_⟩;walk_at "w";refine⟨_,_,rfl,?_⟩;walk_at "w";refine⟨_,_,rfl,?_⟩;rw[Qc]
 obtain⟨N,hN,N12⟩:∃N:Nat,(if (8:Int)<(if (3:Int)>(cells.length:Int) then (3:Int) else (cells.length:Int)) then (8:Int) else (if (3:Int)>(cells.length:Int) then (3:Int) else (cells.length:Int)))=(N:Int)/\N<=12:=by
  by_cases h1:(3:Int)>(cells.length:Int)
  ·rw[Qz h1,QA (by decide)];exact⟨3,rfl,by omega⟩
  rw[QA h1];by_cases h2:(8:Int)<(cells.length:Int)
  ·rw[Qz h2];exact⟨8,rfl,by omega⟩
  rw[QA h2];exact⟨cells.length,rfl,by omega⟩
 rw[hN];walk_at "w";refine⟨by omega,by omega,?_⟩;rw[Xu];let I25:IvF:=λi σ H'=>(∃x1 x2 x3 x4 x5 x6 x7 x8 x9 y1 y2 y3 y4 y5 y6 y7,σ=[some (.ref sc),x1,x2,x3,x4,x5,x6,x7,x8,x9,y1,y2,y3,y4,y5,y6,y7])/\SqL K H' sc (cells.map V.int)/\cS TL cH H';refine kW (n:=N) I25 ⟨⟨_,_,_,_,_,_,_,_,_,_,_,_,_,_,_,_,rfl⟩,hS,tb⟩ (λi σ H0 hi pv=>?_) (λσ H' pv=>?_)
 ·clear tb hS;obtain⟨⟨x1,x2,x3,x4,x5,x6,x7,x8,x9,y1,y2,y3,y4,y5,y6,y7,rfl⟩,hS,tb⟩:=pv;refine ax ?_;walk_at "w";refine⟨sc,cells,i,by rw[Int.zero_add],hS,by omega,λc=>?_⟩;walk_at "w";refine⟨c,rfl,λD H1 S1 nD DA1=>?_⟩;have tb1:=fi tb S1;walk_at "w";refine⟨D,rfl,DA1,λa li lg ins gvs gs H2 NA2 ok a0 k2=>?_⟩;have tb2:=qg tb1 DA1 k2;walk_at "w";refine⟨D,a,li,lg,ins,gvs,gs,rfl,k2.dk,NA2,ok,λz H3 st k3=>?_⟩;have tb3:=qg tb2 k2.dk k3;have NA3:=NA2.kp k2.dk k3;have no:∀o,H0 sc=some o->¬D.own sc:=λo e zz=>by cases zz;rw[nD]at e;cases e
  have k03:∀o,H0 sc=some o->H3 sc=some o:=λo e=>k3.old _ _ (k2.old _ _ (S1 _ _ e) (no o e)) (no o e);have d3:=k3.dk;have q33:Tq TL D H3 H3:=Tq.refl tb3 d3
  -- the race,the paper
  walk_at "s";walk_at "s";refine bE (aW (ao (ah rfl (ao (ah rfl (aG ⟨a,li,lg,ins,gvs,gs,z,rfl,NA3,ok,st,tb3,λr v H4 t4 rr rv=>ax ?_⟩))))));have q34:=q33.tk t4;walk_at "s";refine bE (aW (ao (ah rfl (ao (ah rfl (aG ⟨a,li,lg,ins,gvs,gs,z,rfl,q34.nat tb3 d3 NA3,ok,st,t4.tab,λxs sv H5 t5 met hsv=>ax ?_⟩))))));have q35:=q34.tk t5;have la5:c_ H5 r v:=((Tq.refl q34.tab q34.dk).tk t5).long q34.tab q34.dk (gX rv)
  have pa5:oS ins gs xs (λx=>x) H5 sv:=by
   cases cb:cN ins gs xs with
   | false=>rw[cb,QA Qn]at hsv;exact .inl ⟨hsv,cb⟩
   | true =>
   rw[cb,Qz rfl]at hsv;obtain⟨p,ss,e,_,pm,so,hp⟩:=hsv;exact .inr ⟨cb,p,ss,e,hp,by rw[List.map_id'];exact pm,so⟩
  -- all names others
  walk_at "s";refine bE (aW (ao (ah rfl (ao (ah rfl (aG ⟨D,a,li,lg,ins,gvs,gs,rfl,q35.dk,q35.nat tb3 d3 NA3,ok,λtt O a' li' lg' kvs ρ gvs' H6 k6 ht6 hO6 vals inj NB6=>?_⟩))))));refine⟨tt,_,rfl,SqT.of ht6,rfl,?_⟩;refine⟨_,_,rfl,ax ⟨_,_,rfl,ax ⟨rfl,?_⟩⟩⟩;have q36:=q35.kp k6;have q56:Tq TL D H5 H6:=(Tq.refl q35.tab q35.dk).kp k6;have la6:=q56.long q35.tab q35.dk la5;have pa6:=pa5.keep λp ss h=>q56.strs q35.tab q35.dk h;let ρ3:List Str × Str × Str->List Str × Str × Str:=λt=>(t.1.map ρ,ρ t.2.1,ρ t.2.2);have dg:∀{G:Hp} {n:Str},aw H6 G->n∈aj ins gs->cC G O (.str n) (some (.str (ρ n))):=λ{G n} S h=>.inl ⟨_,Sum.inr n,.inl (S _ _ hO6),rfl,(vals n h).symm⟩;walk_at "s";refine bE (i_c (ax ?_));with_reducible refine gn (λσ' H'=>∃dv,σ'=[some (.ref sc),some (.int (0+(i:Int))),some (.ref D.d),some (.ref a),some (.str z),some v,some sv,some (.ref O),some (.ref a'),some dv,y1,y2,y3,y4,y5,y6,y7]/\aw H6 H'/\c_ H' (r.map ρ3) dv) (λR hR=>?_) (λσ' H7 hJ=>?_)
  ·walk_at "s";refine i_test (a_ (ah rfl (i_c ⟨rfl,_,rfl,?_⟩)))
   match r,la6,rr with
   | none,la,_ =>
    have e:v=.non:=la;subst e;refine ifF rfl ?_;exact hR _ _ ⟨_,rfl,aw.refl _,rfl⟩
   | some (ns,c,b),⟨t,l,e,ht,hl⟩,rr =>
    subst e;obtain⟨n1,n2,n3⟩:=rr.names;refine ifT rfl ?_;refine bE (i_tup (ao (i_comp (s_list (a_ (ah rfl (i_c (bA ht rfl ⟨l,rfl,⟨_,SqL.of hl⟩,λL hL=>?_⟩))))))));refine hV (F:=ρ) hl hL (by have:=rr.few ok;omega) (λx H' R C hx SS hR=>?_) (λH8 S8 hl8=>?_)
    ·exact ax ⟨by repeat' (first|exact trivial|refine⟨rfl,?_⟩),i_yes (bV (i_dget (ah rfl (ah rfl ⟨O,_,rfl,dg SS (n1 x hx),hR _ (aw.refl _)⟩))))⟩
    refine ao (i_dget (ah rfl (a_ (ah rfl (i_c (bA (S8 _ _ ht) rfl ⟨O,_,rfl,dg S8 n2,?_⟩))))));refine ao (i_dget (ah rfl (a_ (ah rfl (i_c (bA (S8 _ _ ht) rfl ⟨O,_,rfl,dg S8 n3,?_⟩))))));refine aG ⟨by simp[sizeLine],λu hu0=>ax ?_⟩;generalize hE:upd H8 u _=H9;obtain⟨S9,q9⟩:=ay hu0 hE;clear hE;exact hR _ _ ⟨_,rfl,S8.trans S9,u,L,rfl,q9,S9 _ _ hl8⟩
  obtain⟨dv,rfl,S7,la7⟩:=hJ;have q37:=q36.same S7;have NB7:=NB6.same S7;have tr1:=vm inj ok;have ok1:=(qD inj).ok ok;have st1:=tr1.st z st;have pa7:=pa6.keep λp ss h=>S7 _ _ h;have lv7:c_ H7 r v:=((Tq.refl q36.tab q36.dk).same S7).long q36.tab q36.dk la6;walk_at "s";walk_at "s";walk_at "s";refine i_test (a_ (aW (ao (ah rfl (ao (ah rfl (aG ⟨a',li',lg',_,gvs',_,z,rfl,NB7,ok1,st1,q37.tab,λr1 v1 H8 t8 rr1 rv1=>ah rfl ?_⟩)))))));have e1:=rr1.one (tr1.race rr);subst e1;have q78:Tq TL D H7 H8:=(Tq.refl q37.tab q37.dk).tk t8;refine qJ (gX rv1) (q78.long q37.tab q37.dk la7) ⟨_,rfl,iteF ?_⟩;have pa8:=pa7.keep λp ss h=>q78.strs q37.tab q37.dk h;have lv8:=q78.long q37.tab q37.dk lv7;have q38:=q37.trans q78;refine i_not (i_tB (aW (ao (ah rfl (ao (ah rfl (ao (aW (ao (ah rfl (aG ⟨r,v,rfl,lv8,?_⟩)))))))))));refine ao (ah rfl (aG ⟨a',li',lg',_,gvs',_,z,jy r,sv,rfl,q78.nat q37.tab q37.dk NB7,ok1,st1,q38.tab,λr2 rr2=>tr1.toP.long rr rr2,tr1.toP.pap ok1 met pa8,λH9 t9=>⟨_,rfl,iteF ?_⟩⟩));have q89:Tq TL D H8 H9:=(Tq.refl q38.tab q38.dk).tk t9;have q39:=q38.trans q89;have lv9:=q89.long q38.tab q38.dk lv8;have pa9:=pa8.keep λp ss h=>q89.strs q38.tab q38.dk h;have NA9:=q39.nat tb3 d3 NA3;walk_at "s"
  -- another order
  walk_at "s";refine bE (aW (ao (ah rfl (ao (ah rfl (aG ⟨D,a,li,lg,ins,gvs,gs,rfl,q39.dk,NA9,ok,λlo ks H10 k10 lo0 pmk hlo=>ax ?_⟩))))));have t10:cS TL cH H10:=qg q39.tab q39.dk k10;have q90:Tq TL D H9 H10:=(Tq.refl q39.tab q39.dk).kp k10;have NA10:=q90.nat q39.tab q39.dk NA9;have lv10:=q90.long q39.tab q39.dk lv9;have pa10:=pa9.keep λp ss h=>q90.strs q39.tab q39.dk h;have q310:=q39.trans q90;clear pa9 pa8 pa7 pa6 pa5 lv9 lv8 lv7 la7 la6 la5 NB7 NB6;have w11:(aj ins gs).length<=11:=by rw[aP];have:=ok.i4;have:=ok.g7;omega
  have wl:=aP ins gs;have lks:ks.length=gs.length:=by rw[pmk.length_eq,Xl]
  have klt:∀k∈ks,k<gs.length:=λk hk=>Xk.mp (pmk.mem_iff.mp hk);have g7:=ok.g7;have i4:=ok.i4;let φ:Str->Str:=λx=>ce x (mvd (List.range ins.length) ks ins.length);have putc:∀{x:Str} {Hx:Hp} {R:VK},StOk (aj ins gs).length x->Hx lo=some (.lst (bB ks))->(∀H',aw Hx H'->R (.str (φ x)) H')->iG [.str x,.int (ins.length:Int),.ref lo] Hx R E0:=λ{x Hx R} sx hm q=>⟨x,ins.length,_,lo,ks,rfl,hm,sx,w11,by omega,by omega,λk hk=>by have:=klt k hk;omega,q⟩;walk_at "s";refine bE (i_cb (ao (a_ (ah rfl (i_c (bA NA10.ha rfl (aG ⟨li,_,rfl,.inl (SqL.of NA10.hi),ax ?_⟩)))))));rw[Qc];walk_at "s";refine bE (i_tup (ao (i_cb (ao (a_ (ah rfl (i_c (bA NA10.ha rfl (aG ⟨li,_,rfl,.inl (SqL.of NA10.hi),λl1 hl1=>?_⟩)))))))));generalize hE:upd H10 l1 _=H11;obtain⟨S11,q11⟩:=ay hl1 hE;clear hE;have NA11:=NA10.same S11;refine ao (i_comp (s_list (ah rfl ⟨lo,rfl,⟨_,SqL.of (S11 _ _ hlo)⟩,λL hL=>?_⟩)));refine bD (xs:=bB ks) (λm G ys=>aw H11 G/\G L=some (.lst ys)/\Paired (GAt G) ys ((ks.take m).map λk=>gs.getD k g0)) ⟨ap hL,ag,by rw[List.take_zero];exact .nil⟩ (λm G ys pv=>⟨pv.2.1,SqL.of (pv.1 _ _ (S11 _ _ hlo))⟩) (λm v G ys e pv=>?_) (λH12 ys pv=>?_)
  ·obtain⟨SG,hd,pr⟩:=pv;unfold bB at e;rw[Qi]at e
   cases ek:ks[m]? with
   | none=>rw[ek]at e;cases e
   | some kk =>
   rw[ek]at e;cases e;have hm:m<ks.length:=(Qe.mp ek).1;have hk:=klt kk (Qg ek);have NG:=NA11.same SG;obtain⟨b,rv,eb,h1,h2⟩:=v0 NG.gates hk;refine ax ⟨by repeat' (first|exact trivial|refine⟨rfl,?_⟩),i_yes (bV ?_)⟩;refine a_ (a_ (ah rfl (i_c (bA NG.ha rfl (ah rfl (i_ixL (SqL.of NG.hg) (dj eb) ?_))))));have kt:cr G (upd G L (.lst (ys++[V.ref b]))):=λb us e=>by rw[aq (λzz=>by rw[zz,hd]at e;cases e)];exact e
   have lys:=aQ pr;rw[Qc,Qv]at lys;refine bM.mk hd (by unfold bB;rw[Qc];exact hm) (by omega) ⟨bp SG hL,ag,?_⟩;rw[QO,ek,Q8,Qw];exact cf (bd (λv g h=>h.mono kt) pr) ⟨b,rv,rfl,kt _ _ h1,h2.mono kt⟩
  obtain⟨S12,hd12,pr12⟩:=pv;rw[Qs (by unfold bB;rw[Qc];exact Qh _)]at pr12;refine aG ⟨by simp[sizeLine],λa2 ha2=>ax ?_⟩;generalize hE:upd H12 a2 _=H13;obtain⟨S13,q13⟩:=ay ha2 hE;clear hE;have S1013:=S11.trans (S12.trans S13);have NB13:NAt H13 a2 l1 L ins ys (ks.map λk=>gs.getD k g0):=⟨q13,(S12.trans S13) _ _ q11,S13 _ _ hd12,bi (aw.tups S13) pr12⟩
  -- the papers otherwise
  walk_at "s";refine bE (i_c (ax ?_));walk_at "s";refine bE (i_c (ax ?_));have hlo13:=S1013 _ _ hlo;have pa13:=pa10.keep λp ss h=>S1013 _ _ h;let I26:IvJ:=λσ' H'=>∃mv fv,σ'=[some (.ref sc),some (.int (0+(i:Int))),some (.ref D.d),some (.ref a),some (.str z),some v,some sv,some (.ref O),some (.ref a'),some dv,some (.ref lo),some (.int (ins.length:Int)),some (.ref a2),some mv,some fv,y6,y7]/\aw H13 H'/\oS ins gs xs φ H' mv/\oS ins gs xs flS H' fv;with_reducible refine gn I26 (λR hR=>?_) (λσ' H14 hJ=>?_)
  ·walk_at "s";refine i_test (a_ (ah rfl (i_c ⟨rfl,_,rfl,?_⟩)));rcases pa13 with⟨e,cb⟩|⟨cb,p,ss,e,hp,pm,so⟩
   ·subst e;refine ifF rfl ?_;exact hR _ _ ⟨_,_,rfl,aw.refl _,.inl ⟨rfl,cb⟩,.inl ⟨rfl,cb⟩⟩
   subst e;rw[List.map_id']at pm;have fx:xs.length<=2048:=met.few ok;have lss:=pm.length_eq;have stx:∀x∈ss,StOk (aj ins gs).length x:=λx hx=>met.st x (pm.mem_iff.mp hx);refine ifT rfl ?_;walk_at "s";refine bE (i_cb (ao (i_comp (s_list (ah rfl ⟨p,rfl,⟨_,SqL.of hp⟩,λL1 hL1=>?_⟩)))));refine hV (F:=φ) hp hL1 (by omega) (λx H' R C hx SS hR=>?_) (λH15 S15 hl15=>?_)
   ·exact ax ⟨by repeat' (first|exact trivial|refine⟨rfl,?_⟩),i_yes (bV (aW (ao (ah rfl (ao (ah rfl (ao (ah rfl (aG (putc (stx x hx) (SS _ _ hlo13) hR))))))))))⟩
   refine aG ⟨L1,ss.map φ,rfl,.inl (SqL.of hl15),by rw[Qc];omega,λp1 t1 hp1 pm1 so1=>ax ?_⟩;generalize hE:upd H15 p1 _=H16;obtain⟨S16,q16⟩:=ay hp1 hE;clear hE;have hp16:=(S15.trans S16) _ _ hp;refine bE (i_cb (ao (i_comp (s_list (ah rfl ⟨p,rfl,⟨_,SqL.of hp16⟩,λL2 hL2=>?_⟩)))));refine hV (F:=flS) hp16 hL2 (by omega) (λx H' R C hx SS hR=>?_) (λH17 S17 hl17=>?_)
   ·exact ax ⟨by repeat' (first|exact trivial|refine⟨rfl,?_⟩),i_yes (bV (aW (ao (ah rfl (aG ⟨x,_,rfl,stx x hx,w11,hR⟩)))))⟩
   refine aG ⟨L2,ss.map flS,rfl,.inl (SqL.of hl17),by rw[Qc];omega,λp2 t2 hp2 pm2 so2=>ax ?_⟩;generalize hE:upd H17 p2 _=H18;obtain⟨S18,q18⟩:=ay hp2 hE;clear hE;exact hR _ _ ⟨_,_,rfl,S15.trans (S16.trans (S17.trans S18)),.inr ⟨cb,p1,t1,rfl,(S17.trans S18) _ _ q16,pm1.trans (pm.map φ),so1⟩,.inr ⟨cb,p2,t2,rfl,q18,pm2.trans (pm.map flS),so2⟩⟩
  obtain⟨mv,fv,rfl,S14,pm14,pf14⟩:=hJ;have S1014:=S1013.trans S14;have NB14:=NB13.same S14;have tb14:=fi t10 S1014;have tr2:=vn ok pmk;have ok2:=(mh (ins:=ins) pmk).ok ok
  have st2:StOk (aj ins (ks.map λk=>gs.getD k g0)).length (φ z):=by
   have mvp:=(mh (ins:=ins) pmk).mv;rw[<-wl]at mvp;rw[aP,Qc,lks,<-wl];exact pk st mvp
  have lv14:c_ H14 r v:=((Tq.refl t10 k10.dk).same S1014).long t10 k10.dk lv10;walk_at "s";walk_at "s";refine i_not (i_tB (aW (ao (ah rfl (ao (aW (ao (ah rfl (ao (ah rfl (ao (ah rfl (aG (putc st (S1014 _ _ hlo) λH15 S15=>?_))))))))))))));have S1015:=S1014.trans S15;have tb15:=fi tb14 S15;refine ao (aW (ao (ah rfl (aG ⟨r,v,rfl,((Tq.refl tb14 (k10.dk.same S1014)).same S15).long tb14 (k10.dk.same S1014) lv14,?_⟩))));refine ao (ah rfl (aG ⟨a2,l1,L,ins,ys,_,φ z,jy r,mv,rfl,NB14.same S15,ok2,st2,tb15,λr2 rr2=>tr2.long rr rr2,tr2.pap ok2 met (pm14.keep λp ss h=>S15 _ _ h),λH16 t16=>⟨_,rfl,iteF ?_⟩⟩));have t1016:Tk TL H10 H16:=(Tk.of t10 S1015).trans t16;have NA16:=NA10.mono (t1016.lst t10) (t1016.tup t10);have pf16:oS ins gs xs flS H16 fv:=(pf14.keep λp ss h=>S15 _ _ h).keep λp ss h=>t16.lst tb15 _ _ h;have q316:=q310.tk t1016;walk_at "s"
  -- all signs turned
  walk_at "s";refine bE (i_tup (ao (i_cb (ao (a_ (ah rfl (i_c (bA NA16.ha rfl (aG ⟨li,_,rfl,.inl (SqL.of NA16.hi),λl3 hl3=>?_⟩)))))))));generalize hE:upd H16 l3 _=H17;obtain⟨S17,q17⟩:=ay hl3 hE;clear hE;have NA17:=NA16.same S17;have lgv:=aQ NA17.gates;refine ao (i_comp (s_list (a_ (ah rfl (i_c (bA NA17.ha rfl ⟨lg,rfl,⟨_,SqL.of NA17.hg⟩,λL3 hL3=>?_⟩))))));refine bD (xs:=gvs) (λm G ys=>aw H17 G/\G L3=some (.lst ys)/\Paired (GAt G) ys ((gs.take m).map λg=>(g.1,g.2.turn))) ⟨ap hL3,ag,by rw[List.take_zero];exact .nil⟩ (λm G ys pv=>⟨pv.2.1,SqL.of (pv.1 _ _ NA17.hg)⟩) (λm v G ys e pv=>?_) (λH18 zs pv=>?_)
  ·obtain⟨SG,hd,pr⟩:=pv;obtain⟨g,hg,b,rv,rfl,h1,h2⟩:=cV NA17.gates m v e;have hm:m<gvs.length:=(Qe.mp e).1;obtain⟨_,rdep⟩:=ok.rules g (Qg hg);refine⟨b,_,rfl,SqT.of (SG _ _ h1),rfl,?_⟩;refine⟨_,_,rfl,ax ⟨_,_,rfl,ax ⟨rfl,by repeat' (first|exact trivial|refine⟨rfl,?_⟩),i_yes (bV ?_)⟩⟩⟩;refine i_tup (ao (ah rfl (ao (aW (ao (ah rfl (aG ⟨rv,g.2,rfl,bh SG h2,rdep,λu G1 SG1 ru=>aG ⟨by simp[sizeLine],λt ht=>?_⟩⟩)))))));generalize hE:upd G1 t _=G2;obtain⟨SG2,q2⟩:=ay ht hE;clear hE;have SS:=SG1.trans SG2;have hd2:=SS _ _ hd;have kt:cr G2 (upd G2 L3 (.lst (ys++[V.ref t]))):=λb us e=>by rw[aq (λzz=>by rw[zz,hd2]at e;cases e)];exact e
   have lys:=aQ pr;rw[Qc,Qv]at lys;refine bM.mk hd2 hm (by omega) ⟨bp (SG.trans SS) hL3,ag,?_⟩;rw[QO,hg,Q8,Qw];exact cf (bd (λv g h=>h.mono (λb us e=>kt _ _ (SS _ _ e))) pr) ⟨t,u,rfl,kt _ _ q2,ru.mono λb us e=>kt _ _ (SG2 _ _ e)⟩
  obtain⟨S18,hd18,pr18⟩:=pv;rw[Qs (by omega)]at pr18;refine aG ⟨by simp[sizeLine],λa3 ha3=>ax ?_⟩;generalize hE:upd H18 a3 _=H19;obtain⟨S19,q19⟩:=ay ha3 hE;clear hE;have NC19:NAt H19 a3 l3 L3 ins zs (gs.map λg=>(g.1,g.2.turn)):=⟨q19,(S18.trans S19) _ _ q17,S19 _ _ hd18,bi (aw.tups S19) pr18⟩;have tr3:=sZ ok;have ok3:=v5 ok;walk_at "s";refine bE (aW (ao (ah rfl (aG ⟨z,_,rfl,st,w11,λH20 S20=>ax ?_⟩))));have S1620:=S17.trans (S18.trans (S19.trans S20));have q320:=q316.same S1620;have q1020:Tq TL D H10 H20:=((Tq.refl t10 k10.dk).tk t1016).same S1620;have lv20:=q1020.long t10 k10.dk lv10;have NC20:=NC19.same S20;have st3:=tr3.st z st;walk_at "s";walk_at "s";refine i_test (a_ (aW (ao (ah rfl (ao (ah rfl (aG ⟨a3,l3,L3,ins,zs,_,flS z,rfl,NC20,ok3,st3,q320.tab,λr3 v3 H21 t21 rr3 rv3=>ah rfl ?_⟩)))))));have e3:=rr3.one (tr3.race rr)
  have e4:(r.map λt=>((t.1.map λn:Str=>n),t.2.1,t.2.2))=r:=by
   cases r with
   | none=>rfl
   | some t=>simp
  have e5:r3=r:=e3.trans e4;subst e5;have q2021:Tq TL D H20 H21:=(Tq.refl q320.tab q320.dk).tk t21;have lv21:=q2021.long q320.tab q320.dk lv20;refine qJ (gX rv3) lv21 ⟨_,rfl,iteF ?_⟩;refine i_not (i_tB (aW (ao (ah rfl (ao (ah rfl (ao (aW (ao (ah rfl (aG ⟨r3,v,rfl,lv21,?_⟩)))))))))));refine ao (ah rfl (aG ⟨a3,l3,L3,ins,zs,_,flS z,jy r3,fv,rfl,q2021.nat q320.tab q320.dk NC20,ok3,st3,t21.tab,λr2 rr2=>tr3.toP.long rr rr2,tr3.toP.pap ok3 met (pf16.keep λp ss h=>q2021.strs q320.tab q320.dk (S1620 _ _ h)),λH22 t22=>⟨_,rfl,iteF ?_⟩⟩));have q322:=(q320.trans q2021).tk t22;walk_at "w";exact⟨⟨_,_,_,_,_,_,_,_,_,_,_,_,_,_,_,_,rfl⟩,tw tb hS λo e nT=>q322.old _ _ (k03 o e) nT (no o e),q322.tab⟩
 obtain⟨⟨x1,x2,x3,x4,x5,x6,x7,x8,x9,y1,y2,y3,y4,y5,y6,y7,rfl⟩,_⟩:=pv;walk_at "w";exact k H'
end
end K2
namespace K2
open PySem L2 PySem.Spec PyProof.Rows
variable {A:Type}
theorem gB {us:List A} (h:us.length=1):∃a0,us=[a0]:=by
 match us,h with
 | [a0],_=>exact⟨_,rfl⟩
theorem bP {us:List A} (h:us.length=2):∃a0 a1,us=[a0,a1]:=by
 match us,h with
 | [a0,a1],_=>exact⟨_,_,rfl⟩
theorem jB {us:List A} (h:us.length=3):∃a0 a1 a2,us=[a0,a1,a2]:=by
 match us,h with
 | [a0,a1,a2],_=>exact⟨_,_,_,rfl⟩
theorem xg {us:List A} (h:us.length=4):∃a0 a1 a2 a3,us=[a0,a1,a2,a3]:=by
 match us,h with
 | [a0,a1,a2,a3],_=>exact⟨_,_,_,_,rfl⟩
structure FX (K:PySem.W.Frag) (n:Str) (i:Nat) (f:Addr) (cd:Value):Prop where
 a:PySem.W.nsIn K mainGlobals n=some (some (.ref f))
 l:∃oc od kV dc pm an ct sl,K.lookup f=some ⟨oc,od,.func (PySem.W.fnOf n n (cQ (top i)) (bS (top i)) (au (top i)) .none kV dc pm an cd ct),sl⟩
 c:PySem.W.codeIn K cd n=true
 k:PySem.W.keepIn K (.ref f)=true
variable {mg:Str->Option Value}
theorem FX.fn {K:PySem.W.Frag} {n:Str} {i:Nat} {f:Addr} {cd:Value} {h:Heap} (X:K.In h) (G:h.Ns mainGlobals mg) (x:FX K n i f cd):∃fd,Fun K n n (top i) f fd/\mg n=some (.ref f):=by
 obtain⟨a,⟨_,_,_,_,_,_,_,_,l⟩,c,k⟩:=x;exact⟨_,pS (st:=top i) l c k,PySem.W.mg_of X G a⟩
abbrev ZN (K:PySem.W.Frag) (n:Str):Prop:=PySem.W.nsIn K mainGlobals n=some none
theorem yJ {l:PySem.W.OpenLaw} {w:World} {K:PySem.W.Frag} {h:Heap} {fa:Addr} (X:K.In h) (G:h.Ns mainGlobals mg) (hfa:mg "law" = some (.ref fa))
  (aT:PySem.W.nsIn K mainGlobals "TURNED" = some (some (.ref 40))) (tab:qh K 40 [("0", .flat (.str "1")),("1", .flat (.str "0"))])
  (x0:FX K "is_row" 5 45 (.ref 44)) (x1:FX K "gates_of" 6 50 (.ref 49)) (x2:FX K "wires_of" 7 57 (.ref 56)) (x3:FX K "is_standing" 8 64 (.ref 63)) (x4:FX K "check_standing" 9 71 (.ref 70)) (x5:FX K "rule_holds" 10 78 (.ref 77)) (x6:FX K "rule_worth" 11 85 (.ref 84)) (x7:FX K "signs_in" 12 92 (.ref 91)) (x8:FX K "turned_at" 13 99 (.ref 98)) (x9:FX K "steps_from" 14 106 (.ref 105)) (x10:FX K "found_from" 16 113 (.ref 112)) (x11:FX K "steps_found" 17 120 (.ref 119))(h11:PySem.W.codeHdIn K 119 115=true) (x12:FX K "order_to" 18 127 (.ref 126)) (x13:FX K "names_asked" 20 132 (.ref 131)) (x14:FX K "first_calmed" 21 139 (.ref 138)) (x15:FX K "is_calm" 22 144 (.ref 143)) (x16:FX K "first_race" 23 151 (.ref 150)) (x17:FX K "calm_paper" 24 158 (.ref 157)) (x18:FX K "is_paper" 25 163 (.ref 162)) (x19:FX K "is_closed" 26 168 (.ref 167)) (x20:FX K "calm_shows" 27 173 (.ref 172)) (x21:FX K "_law_cell" 29 180 (.ref 179)) (x22:FX K "_law_store" 30 187 (.ref 186)) (x23:FX K "_law_take" 31 194 (.ref 193)) (x24:FX K "_law_names" 32 199 (.ref 198)) (x25:FX K "_law_rule" 33 206 (.ref 205)) (x26:FX K "_law_holder" 34 213 (.ref 212)) (x27:FX K "_law_known_rule" 35 220 (.ref 219)) (x28:FX K "_law_net" 36 227 (.ref 226)) (x29:FX K "_law_standing" 37 232 (.ref 231)) (x30:FX K "_law_wires" 38 237 (.ref 236)) (x31:FX K "_law_renamed_rule" 43 270 (.ref 269)) (x32:FX K "_law_renamed" 44 275 (.ref 274)) (x33:FX K "_law_order" 45 282 (.ref 281)) (x34:FX K "_law_reordered" 46 287 (.ref 286)) (x35:FX K "_law_turned_rule" 47 294 (.ref 293)) (x36:FX K "_law_turned_signs" 48 299 (.ref 298)) (x37:FX K "_law_long" 49 306 (.ref 305)) (x38:FX K "_law_right" 50 313 (.ref 312)) (x39:FX K "law" 51 318 (.ref 317))
  (z0:ZN K "len") (z1:ZN K "range") (z2:ZN K "max") (z3:ZN K "min") (z4:ZN K "int") (z5:ZN K "list") (z6:ZN K "str") (z7:ZN K "isinstance") (z8:ZN K "all") (z9:ZN K "set") (z10:ZN K "dict") (z11:ZN K "enumerate") (z12:ZN K "sorted") (z13:ZN K "tuple") (z14:ZN K "bool") (z15:ZN K "zip") (z16:ZN K "reversed")
  : ∃fd:FuncData,(∀(s:Shared) (v:Value),BindsTo s fd ⟨[v],[]⟩ [("script", v)])/\∀base:Heap,K.In base->base.Ns mainGlobals mg->L2.fN base mg->FnOk l.prog w K mg base CX0 18 fa fd ["script"] (qm K 115):=by
 have e:=hfa.symm.trans (PySem.W.mg_of X G x39.a);cases e;have T:Txt K mg 40:=⟨QR X G z0,QR X G z1,QR X G z2,QR X G z3,QR X G z4,QR X G z5,QR X G z6,QR X G z7,QR X G z8,QR X G z9,QR X G z10,QR X G z11,QR X G z12,QR X G z13,QR X G z14,QR X G z15,QR X G z16,PySem.W.mg_of X G aT,tab⟩;obtain⟨_,F0,m0⟩:=x0.fn X G;have b0:=F0.binds (ps:=["thing", "many"]) λ_ _ _ _ _ _ us hl=>by obtain⟨_,_,rfl⟩:=bP hl;rfl
 obtain⟨_,F1,m1⟩:=x1.fn X G;have b1:=F1.binds (ps:=["net"]) λ_ _ _ _ _ _ us hl=>by obtain⟨_,rfl⟩:=gB hl;rfl
 obtain⟨_,F2,m2⟩:=x2.fn X G;have b2:=F2.binds (ps:=["net"]) λ_ _ _ _ _ _ us hl=>by obtain⟨_,rfl⟩:=gB hl;rfl
 obtain⟨_,F3,m3⟩:=x3.fn X G;have b3:=F3.binds (ps:=["net", "thing"]) λ_ _ _ _ _ _ us hl=>by obtain⟨_,_,rfl⟩:=bP hl;rfl
 obtain⟨_,F4,m4⟩:=x4.fn X G;have b4:=F4.binds (ps:=["net", "thing"]) λ_ _ _ _ _ _ us hl=>by obtain⟨_,_,rfl⟩:=bP hl;rfl
 obtain⟨_,F5,m5⟩:=x5.fn X G;have b5:=F5.binds (ps:=["rule", "signs"]) λ_ _ _ _ _ _ us hl=>by obtain⟨_,_,rfl⟩:=bP hl;rfl
 obtain⟨_,F6,m6⟩:=x6.fn X G;have b6:=F6.binds (ps:=["rule", "signs"]) λ_ _ _ _ _ _ us hl=>by obtain⟨_,_,rfl⟩:=bP hl;rfl
 obtain⟨_,F7,m7⟩:=x7.fn X G;have b7:=F7.binds (ps:=["net", "standing"]) λ_ _ _ _ _ _ us hl=>by obtain⟨_,_,rfl⟩:=bP hl;rfl
 obtain⟨_,F8,m8⟩:=x8.fn X G;have b8:=F8.binds (ps:=["standing", "place"]) λ_ _ _ _ _ _ us hl=>by obtain⟨_,_,rfl⟩:=bP hl;rfl
 obtain⟨_,F9,m9⟩:=x9.fn X G;have b9:=F9.binds (ps:=["net", "standing"]) λ_ _ _ _ _ _ us hl=>by obtain⟨_,_,rfl⟩:=bP hl;rfl
 obtain⟨_,F10,m10⟩:=x10.fn X G;have b10:=F10.binds (ps:=["start", "steps_of"]) λ_ _ _ _ _ _ us hl=>by obtain⟨_,_,rfl⟩:=bP hl;rfl
 obtain⟨a11,⟨_,_,_,_,_,_,_,_,l11⟩,c11,k11⟩:=x11;have m11:=PySem.W.mg_of X G a11;have F11:=pS (st:=top 17) l11 c11 k11;have b11:=F11.binds (ps:=["net", "standing"]) λ_ _ _ _ _ _ us hl=>by obtain⟨_,_,rfl⟩:=bP hl;rfl
 obtain⟨_,F12,m12⟩:=x12.fn X G;have b12:=F12.binds (ps:=["found", "start", "other"]) λ_ _ _ _ _ _ us hl=>by obtain⟨_,_,_,rfl⟩:=jB hl;rfl
 obtain⟨_,F13,m13⟩:=x13.fn X G;have b13:=F13.binds (ps:=["steps", "here", "inputs"]) λ_ _ _ _ _ _ us hl=>by obtain⟨_,_,_,rfl⟩:=jB hl;rfl
 obtain⟨_,F14,m14⟩:=x14.fn X G;have b14:=F14.binds (ps:=["steps", "here", "inputs"]) λ_ _ _ _ _ _ us hl=>by obtain⟨_,_,_,rfl⟩:=jB hl;rfl
 obtain⟨_,F15,m15⟩:=x15.fn X G;have b15:=F15.binds (ps:=["steps", "inputs"]) λ_ _ _ _ _ _ us hl=>by obtain⟨_,_,rfl⟩:=bP hl;rfl
 obtain⟨_,F16,m16⟩:=x16.fn X G;have b16:=F16.binds (ps:=["net", "standing"]) λ_ _ _ _ _ _ us hl=>by obtain⟨_,_,rfl⟩:=bP hl;rfl
 obtain⟨_,F17,m17⟩:=x17.fn X G;have b17:=F17.binds (ps:=["net", "standing"]) λ_ _ _ _ _ _ us hl=>by obtain⟨_,_,rfl⟩:=bP hl;rfl
 obtain⟨_,F18,m18⟩:=x18.fn X G;have b18:=F18.binds (ps:=["net", "thing"]) λ_ _ _ _ _ _ us hl=>by obtain⟨_,_,rfl⟩:=bP hl;rfl
 obtain⟨_,F19,m19⟩:=x19.fn X G;have b19:=F19.binds (ps:=["steps"]) λ_ _ _ _ _ _ us hl=>by obtain⟨_,rfl⟩:=gB hl;rfl
 obtain⟨_,F20,m20⟩:=x20.fn X G;have b20:=F20.binds (ps:=["net", "standing", "paper"]) λ_ _ _ _ _ _ us hl=>by obtain⟨_,_,_,rfl⟩:=jB hl;rfl
 obtain⟨_,F21,m21⟩:=x21.fn X G;have b21:=F21.binds (ps:=["script", "k"]) λ_ _ _ _ _ _ us hl=>by obtain⟨_,_,rfl⟩:=bP hl;rfl
 obtain⟨_,F22,m22⟩:=x22.fn X G;have b22:=F22.binds (ps:=["cell"]) λ_ _ _ _ _ _ us hl=>by obtain⟨_,rfl⟩:=gB hl;rfl
 obtain⟨_,F23,m23⟩:=x23.fn X G;have b23:=F23.binds (ps:=["store", "many"]) λ_ _ _ _ _ _ us hl=>by obtain⟨_,_,rfl⟩:=bP hl;rfl
 obtain⟨_,F24,m24⟩:=x24.fn X G;have b24:=F24.binds (ps:=["store", "many"]) λ_ _ _ _ _ _ us hl=>by obtain⟨_,_,rfl⟩:=bP hl;rfl
 obtain⟨_,F25,m25⟩:=x25.fn X G;have b25:=F25.binds (ps:=["store", "names", "deep"]) λ_ _ _ _ _ _ us hl=>by obtain⟨_,_,_,rfl⟩:=jB hl;rfl
 obtain⟨_,F26,m26⟩:=x26.fn X G;have b26:=F26.binds (ps:=["one", "other", "own"]) λ_ _ _ _ _ _ us hl=>by obtain⟨_,_,_,rfl⟩:=jB hl;rfl
 obtain⟨_,F27,m27⟩:=x27.fn X G;have b27:=F27.binds (ps:=["kind", "names", "at", "ins"]) λ_ _ _ _ _ _ us hl=>by obtain⟨_,_,_,_,rfl⟩:=xg hl;rfl
 obtain⟨_,F28,m28⟩:=x28.fn X G;have b28:=F28.binds (ps:=["store", "most"]) λ_ _ _ _ _ _ us hl=>by obtain⟨_,_,rfl⟩:=bP hl;rfl
 obtain⟨_,F29,m29⟩:=x29.fn X G;have b29:=F29.binds (ps:=["store", "net"]) λ_ _ _ _ _ _ us hl=>by obtain⟨_,_,rfl⟩:=bP hl;rfl
 obtain⟨_,F30,m30⟩:=x30.fn X G;have b30:=F30.binds (ps:=["net"]) λ_ _ _ _ _ _ us hl=>by obtain⟨_,rfl⟩:=gB hl;rfl
 obtain⟨_,F31,m31⟩:=x31.fn X G;have b31:=F31.binds (ps:=["rule", "others"]) λ_ _ _ _ _ _ us hl=>by obtain⟨_,_,rfl⟩:=bP hl;rfl
 obtain⟨_,F32,m32⟩:=x32.fn X G;have b32:=F32.binds (ps:=["store", "net"]) λ_ _ _ _ _ _ us hl=>by obtain⟨_,_,rfl⟩:=bP hl;rfl
 obtain⟨_,F33,m33⟩:=x33.fn X G;have b33:=F33.binds (ps:=["store", "net"]) λ_ _ _ _ _ _ us hl=>by obtain⟨_,_,rfl⟩:=bP hl;rfl
 obtain⟨_,F34,m34⟩:=x34.fn X G;have b34:=F34.binds (ps:=["standing", "ins", "order"]) λ_ _ _ _ _ _ us hl=>by obtain⟨_,_,_,rfl⟩:=jB hl;rfl
 obtain⟨_,F35,m35⟩:=x35.fn X G;have b35:=F35.binds (ps:=["rule"]) λ_ _ _ _ _ _ us hl=>by obtain⟨_,rfl⟩:=gB hl;rfl
 obtain⟨_,F36,m36⟩:=x36.fn X G;have b36:=F36.binds (ps:=["standing"]) λ_ _ _ _ _ _ us hl=>by obtain⟨_,rfl⟩:=gB hl;rfl
 obtain⟨_,F37,m37⟩:=x37.fn X G;have b37:=F37.binds (ps:=["told"]) λ_ _ _ _ _ _ us hl=>by obtain⟨_,rfl⟩:=gB hl;rfl
 obtain⟨_,F38,m38⟩:=x38.fn X G;have b38:=F38.binds (ps:=["net", "standing", "long", "paper"]) λ_ _ _ _ _ _ us hl=>by obtain⟨_,_,_,_,rfl⟩:=xg hl;rfl
 obtain⟨a39,⟨_,_,kV,dc,pm,an,ct,_,l39⟩,c39,k39⟩:=x39;have m39:=PySem.W.mg_of X G a39;have F39:=pS (st:=top 51) l39 c39 k39;have b39:=F39.binds (ps:=["script"]) λ_ _ _ _ _ _ us hl=>by obtain⟨_,rfl⟩:=gB hl;rfl
 refine⟨PySem.W.fnOf "law" "law" (cQ (top 51)) (bS (top 51)) (au (top 51)) .none kV dc pm an (.ref 317) ct,λs v=>.of_eq rfl,λbase KB _ BM=>?_⟩;have CT0:=PySem.W.codeHd_of_K KB h11;have FC11:FunC K "steps_found" "steps_found" (top 17) 120 _ 119:=⟨_,_,_,_,_,_,_,_,rfl,l11,c11⟩;have g21:Fn l.prog w K mg base "_law_cell" ["script", "k"] 1 (o8 K):=⟨_,_,vR F21 T,m21,x21.k,b21⟩;have g22:Fn l.prog w K mg base "_law_store" ["cell"] 1 lH:=⟨_,_,um F22 T,m22,x22.k,b22⟩;have g23:Fn l.prog w K mg base "_law_take" ["store", "many"] 1 dR:=⟨_,_,vL F23 T,m23,x23.k,b23⟩;have g24:Fn l.prog w K mg base "_law_names" ["store", "many"] 2 lI:=⟨_,_,uq F24 T g23,m24,x24.k,b24⟩;have g25:Fn l.prog w K mg base "_law_rule" ["store", "names", "deep"] 11 (iF 10):=⟨_,_,nZ F25 T g23 m25 x25.k b25 10,m25,x25.k,b25⟩;have g26:Fn l.prog w K mg base "_law_holder" ["one", "other", "own"] 1 iZ:=⟨_,_,rV F26 T,m26,x26.k,b26⟩;have g27:Fn l.prog w K mg base "_law_known_rule" ["kind", "names", "at", "ins"] 2 iX:=⟨_,_,rS F27 T g26,m27,x27.k,b27⟩;have g28:Fn l.prog w K mg base "_law_net" ["store", "most"] 12 o7:=⟨_,_,vO F28 T g23 g24 g25 g27,m28,x28.k,b28⟩;have g29:Fn l.prog w K mg base "_law_standing" ["store", "net"] 2 fQ:=⟨_,_,nY F29 T g23,m29,x29.k,b29⟩;have g0:Fn l.prog w K mg base "is_row" ["thing", "many"] 1 tD:=⟨_,_,yo F0 T,m0,x0.k,b0⟩;have g3:Fn l.prog w K mg base "is_standing" ["net", "thing"] 2 iH:=⟨_,_,vQ F3 T g0,m3,x3.k,b3⟩;have g4:Fn l.prog w K mg base "check_standing" ["net", "thing"] 3 (iY .non):=⟨_,_,ux F4 T g3,m4,x4.k,b4⟩;have g10:Fn l.prog w K mg base "found_from" ["start", "steps_of"] 14 (lO l.prog w K mg base 13):=⟨_,_,uw F10 T,m10,x10.k,b10⟩;have g1:Fn l.prog w K mg base "gates_of" ["net"] 1 lN:=⟨_,_,uv F1 T,m1,x1.k,b1⟩;have g2:Fn l.prog w K mg base "wires_of" ["net"] 2 fj:=⟨_,_,uk F2 T g1,m2,x2.k,b2⟩;have g7:Fn l.prog w K mg base "signs_in" ["net", "standing"] 3 gO:=⟨_,_,pE F7 T g2,m7,x7.k,b7⟩;have g5:Fn l.prog w K mg base "rule_holds" ["rule", "signs"] 10 (iI 10):=⟨_,_,n9 F5 T m5 x5.k b5 10,m5,x5.k,b5⟩;have g6:Fn l.prog w K mg base "rule_worth" ["rule", "signs"] 11 (lG 10):=⟨_,_,uh F6 T g5,m6,x6.k,b6⟩;have g8:Fn l.prog w K mg base "turned_at" ["standing", "place"] 1 iV:=⟨_,_,rP F8 T,m8,x8.k,b8⟩;have g9:Fn l.prog w K mg base "steps_from" ["net", "standing"] 12 fk:=⟨_,_,uo F9 T g7 g6 g8,m9,x9.k,b9⟩;have g11:Fn l.prog w K mg base "steps_found" ["net", "standing"] 15 (fo 115):=⟨_,_,pD FC11 T CT0 BM g10 g9,m11,k11,b11⟩;have g13:Fn l.prog w K mg base "names_asked" ["steps", "here", "inputs"] 1 lQ:=⟨_,_,uz F13 T,m13,x13.k,b13⟩;have g14:Fn l.prog w K mg base "first_calmed" ["steps", "here", "inputs"] 2 lP:=⟨_,_,vS F14 T g13,m14,x14.k,b14⟩;have g12:Fn l.prog w K mg base "order_to" ["found", "start", "other"] 1 tE:=⟨_,_,yp F12 T,m12,x12.k,b12⟩;have g16:Fn l.prog w K mg base "first_race" ["net", "standing"] 16 (lL 115):=⟨_,_,vM F16 T g4 g11 g14 g12,m16,x16.k,b16⟩;have g15:Fn l.prog w K mg base "is_calm" ["steps", "inputs"] 3 gj:=⟨_,_,rT F15 T g14,m15,x15.k,b15⟩;have g17:Fn l.prog w K mg base "calm_paper" ["net", "standing"] 16 (de 115):=⟨_,_,mo F17 T g4 g11 g15,m17,x17.k,b17⟩;have g30:Fn l.prog w K mg base "_law_wires" ["net"] 1 fj:=⟨_,_,rR F30 T,m30,x30.k,b30⟩;have g31:Fn l.prog w K mg base "_law_renamed_rule" ["rule", "others"] 10 (lK 10):=⟨_,_,qH F31 T m31 x31.k b31 10,m31,x31.k,b31⟩;have g32:Fn l.prog w K mg base "_law_renamed" ["store", "net"] 11 gP:=⟨_,_,pF F32 T g23 g30 g31,m32,x32.k,b32⟩;have g37:Fn l.prog w K mg base "_law_long" ["told"] 1 lM:=⟨_,_,vP F37 T,m37,x37.k,b37⟩;have g18:Fn l.prog w K mg base "is_paper" ["net", "thing"] 3 gQ:=⟨_,_,pG F18 T g3,m18,x18.k,b18⟩;have g19:Fn l.prog w K mg base "is_closed" ["steps"] 1 fR:=⟨_,_,n8 F19 T,m19,x19.k,b19⟩;have g20:Fn l.prog w K mg base "calm_shows" ["net", "standing", "paper"] 13 eO:=⟨_,_,mn F20 T g4 g18 g9 g19 g15,m20,x20.k,b20⟩;have g38:Fn l.prog w K mg base "_law_right" ["net", "standing", "long", "paper"] 17 (lJ 115):=⟨_,_,ur F38 T g37 g16 g17 g20,m38,x38.k,b38⟩;have g33:Fn l.prog w K mg base "_law_order" ["store", "net"] 2 o0:=⟨_,_,vN F33 T g23,m33,x33.k,b33⟩;have g34:Fn l.prog w K mg base "_law_reordered" ["standing", "ins", "order"] 1 iG:=⟨_,_,ut F34 T,m34,x34.k,b34⟩;have g35:Fn l.prog w K mg base "_law_turned_rule" ["rule"] 10 (iE 10):=⟨_,_,nX F35 T m35 x35.k b35 10,m35,x35.k,b35⟩;have g36:Fn l.prog w K mg base "_law_turned_signs" ["standing"] 1 iW:=⟨_,_,rQ F36 T,m36,x36.k,b36⟩;exact uu F39 T g21 g22 g28 g29 g16 g17 g32 g38 g37 g33 g34 g35 g36
theorem B7 {l:PySem.W.OpenLaw} {q:Program} {loose:List Str} {XP:(Str->Option Value)->Heap->Prop} {d:DefRec} {K:Params->PySem.W.Frag} {as:List Addr} {e:∀P,as=(K P).map (·.1)} {TL0:Addr} (hn:l.most=some 63) (hdf:d.params.defaults=[]) (ok:∀w:World,gz (K w.params) [TL0]=true)
  (F:∀(w:World) (mg:Str->Option Value) (fa:Addr) (h:Heap),(K w.params).In h->h.Ns mainGlobals mg->mg d.name=some (.ref fa) ->
   ∃fd:FuncData,(∀(s:Shared) (u:Value),BindsTo s fd ⟨[u],[]⟩ [("script", u)])/\∀base:Heap,(K w.params).In base->base.Ns mainGlobals mg->L2.fN base mg->FnOk l.prog w (K w.params) mg base CX0 18 fa fd ["script"] (qm (K w.params) TL0)) :
  PySem.W.WalkO q loose XP (PySem.W.kmHook K as e [TL0]).says l.row.toRowW d [] (λf vs=>PySem.call f vs) :=
 L2.sV (n:=63) (k:=18) (x := "script") (CX:=λ_=>CX0) (sp:=λw=>qm (K w.params) TL0) hn (by decide) hdf ⟨rfl,by decide,by decide⟩ ok F (λ_ _ a ns hl hT hS=>⟨a,ns,rfl,hS,hl,(.inl (hT _ (by simp))),λ_=>rfl⟩) λ_ _ _ _ _ z=>z
end K2
open PySem PySem.W PyProof.Rows
set_option maxRecDepth 100000 in
set_option maxHeartbeats 0 in
theorem PySem.Challenge.cw_anydelay_k20_whole_nets_otherwise_holds : PySem.Challenge.rw_anydelay_k20_whole_nets_otherwise.Holds := by
 w_on;o_law
 refine holds_open (q:=K2.vw) (loose:=[("TURNED" : Str)]) (Xt:=λs=>xlAt K2.vw [] s&&recOk (RowW.records PySem.Challenge.rw_anydelay_k20_whole_nets_otherwise.row.toRowW) s) (XP:=XL K2.vw []) (Yf:=Hook.obs K2.hk) (Ya:=Hook.val K2.hk) (YP:=Hook.says K2.hk) (N:=3716) K2.left (Hook.of K2.hk) (Hook.keeps K2.hk) (λs e=>xl_of s (Bool.and_eq_true_iff.mp e).1) XL.keeps (by rfl) (by rfl) (by rfl) (λs e=>recFacts_of (Bool.and_eq_true_iff.mp e).2) (by rfl) (by first|assumption|decide +kernel) (by decide +kernel) ⟨rfl,rfl,rfl,rfl,rfl,by decide +kernel⟩ ?hw ?hc
 (case hw=>w_witness2)
 refine K2.B7 (l:=PySem.Challenge.rw_anydelay_k20_whole_nets_otherwise) (K:=K2.KF) (as:=[3,40,44,45,49,50,56,57,63,64,70,71,77,78,84,85,91,92,98,99,105,106,112,113,119,120,126,127,131,132,138,139,143,144,150,151,157,158,162,163,167,168,172,173,179,180,186,187,193,194,198,199,205,206,212,213,219,220,226,227,231,232,236,237,269,270,274,275,281,282,286,287,293,294,298,299,305,306,312,313,317,318]) (e:=λ_=>rfl) rfl rfl (λw=>by kernel_rfl) ?F
 case F =>
  intro w mg fa h KX G hmg;refine' K2.yJ KX G hmg ?_ ?_ ?_ ?_ ?_ ?_ ?_ ?_ ?_ ?_ ?_ ?_ ?_ ?_ ?_ ?_ ?_ ?_ ?_ ?_ ?_ ?_ ?_ ?_ ?_ ?_ ?_ ?_ ?_ ?_ ?_ ?_ ?_ ?_ ?_ ?_ ?_ ?_ ?_ ?_ ?_ ?_ ?_ ?_ ?_ ?_ ?_ ?_ ?_ ?_ ?_ ?_ ?_ ?_ ?_ ?_ ?_ ?_ ?_ ?_
  all_goals first|exact⟨by kernel_rfl,⟨_,_,_,_,_,_,_,_,rfl⟩,by kernel_rfl,by kernel_rfl⟩|kernel_rfl|rfl|decide|decide +kernel
