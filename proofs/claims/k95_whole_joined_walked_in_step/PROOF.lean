import PyProof.Rows.All
import Wide.All
import OpenK.AllK
import Wide.FinOn
import Lean
import PyProof.EqAt
import PyProof.EqKinds
import PyProof.TupleCall
import PyProof.NeKinds
import KE.KTabLook
import KE.KIntText
import KE.KUnpack
import PyProof.StrBlock2
import PyProof.StationsW
import PyProof.RulesAs
import PyProof.ExcClass2
import KE.KTryMore
import PyProof.InstStoreFacts
import PyProof.ExcBaseAll.ValueError
import PyProof.NsDelKeeps
import KE.KLam
import PyProof.ZipIter
import PyProof.Draws
import PyProof.AttrMissHeap
import PyProof.DictUpdate
import PyProof.ListNew
import PyProof.FactsAll.dict_1
import PyProof.Rows.DictSet
import KE.KRevIter
import PyProof.ListRange
import KE.KDictLaws
import PyProof.DictWalks
import PyProof.DictItemsLoops
import PyProof.Rows.StrInSeq3
import PyProof.FactsAll.list_1
import PyProof.CompUse
import PyProof.EnumMake
import PyProof.Rows.CallKwBuiltin
import OpenK.KMore
import PyProof.ForAppend
import PySem.Challenge.RW_anydelay_k95_whole_joined_walked_in_step
set_option linter.all false
set_option maxRecDepth 100000
set_option Elab.async false
abbrev Qa:=@PySem.wpAny_bind
abbrev Qb:=@PySem.Heap.get?_push_of_some
abbrev Qc:=@List.getElem?_eq_some_iff
abbrev Qd:=@List.length_map
abbrev Qe:=@List.getElem?_eq_getElem
abbrev Qf:=@List.size_toArray
abbrev Qg:=@PySem.wpAny_pure
abbrev Qh:=@List.length_append
abbrev Qi:=@Nat.le_refl
abbrev Qj:=@PySem.Heap.lt_size
abbrev Qk:=@List.getElem?_map
abbrev Ql:=@PySem.Heap.get?_push_size
abbrev Qm:=@List.map_append
abbrev Qn:=@Bool.false_ne_true
abbrev Qo:=@decide_eq_false
abbrev Qp:=@Nat.ne_of_lt
abbrev Qq:=@List.mem_of_getElem?
abbrev Qr:=@Nat.lt_of_lt_of_le
abbrev Qs:=@List.map_cons
abbrev Qt:=@List.mem_append
abbrev Qu:=@List.mem_map
abbrev Qv:=@List.mem_cons_of_mem
abbrev Qw:=@List.mem_append_right
abbrev Qx:=@Bool.false_eq_true
abbrev Qy:=@decide_eq_true
abbrev Qz:=@if_neg
abbrev QA:=@Array.length_toList
abbrev QB:=@PySem.W.mg_none_of
abbrev QC:=@if_pos
abbrev QE:=@List.mem_cons
abbrev QF:=@List.take_of_length_le
abbrev QG:=@PyProof.Rows.boot_isinstance
abbrev QH:=@PySem.boot_len
abbrev QI:=@List.lookup_cons
abbrev QJ:=@List.mem_singleton
abbrev QK:=@Nat.le_trans
abbrev QL:=@List.length_take
abbrev QM:=@List.length_cons
abbrev QN:=@Nat.zero_le
abbrev QO:=@PyProof.Rows.callWith_type1
abbrev QP:=@PySem.wpAny_field
abbrev QQ:=@PySem.wpAny_holding
abbrev QR:=@Option.some.inj
abbrev QS:=@List.getElem?_append_right
abbrev QT:=@PySem.wpAny_setField_rec
abbrev QU:=@List.all_eq_true
abbrev QV:=@List.mem_iff_getElem
abbrev QW:=@List.getD_eq_getElem?_getD
abbrev QX:=@PySem.F.plainAttrs_list
abbrev QY:=@List.getElem?_append_left
abbrev QZ:=@List.mem_cons_self
abbrev Q0:=@PySem.Heap.size_push
abbrev Q2:=@List.take_succ
abbrev Q3:=@PySem.wpAny_truthy_bool
abbrev Q4:=@PySem.wpAny_mono
abbrev Q5:=@PySem.W.kia_one
abbrev Q6:=@List.length_nil
abbrev Q7:=@List.filterMap_cons
abbrev Q8:=@List.length_replicate
abbrev Q9:=@PySem.builtinLookup_eq_fast
abbrev xa:=@if_false
abbrev xb:=@PySem.F.slot_list_append
abbrev xf:=@PySem.F.type_list_append
abbrev xg:=@List.nodup_cons
abbrev xh:=@PySem.Calls.spliced_cons
abbrev xi:=@PySem.wpAny_callSpecial?_slot
abbrev xj:=@Bool.and_eq_true
abbrev xk:=@PySem.Around.under_plainId
abbrev xl:=@Nat.lt_irrefl
abbrev xm:=@PySem.W.mg_of
local macro_rules|`(tactic|walk_at "z")=>`(tactic|first|exact .inl rfl|exact .inr rfl|assumption)
noncomputable section
namespace L2
open PySem
def cS (s:Stmt):Arguments:=match s with
 | .FunctionDef _ a _ _ _ _ _ _ _ _=>a
 | _=>{ posonlyargs:=[],args:=[],vararg:=none,kwonlyargs:=[],kw_defaults:=[],kwarg:=none,defaults:=[] }
def bT (s:Stmt):List Stmt:=match s with
 | .FunctionDef _ _ b _ _ _ _ _ _ _=>b
 | _=>[]
def am (s:Stmt):Scope:=match s with
 | .FunctionDef _ _ _ _ _ _ sc _ _ _=>sc
 | _=>{ kind:=.function,names:=[],isGenerator:=false,isCoroutine:=false }
end L2
namespace K2
open PySem L2 PySem.W
def top (i:Nat):Stmt:=PySem.Challenge.pw_anydelay_k95_whole_joined_walked_in_step.main.body.getD i (.Pass ⟨0,0,0,0⟩)
noncomputable def kC (n:Str) (t:Nat) (l a fl:Int) (r:Addr) (x y:Value) (z:Addr) (u:Nat):Obj:={ cls:=.type "code", data:=.fields #[.str n t,.str n (t+1),.str "/claim/cut.py" (t+2),.int l 0,.int a 0,.int 0 0,.int 0 0,.int 3 0,.ref r,.bool true,.int fl 0,.ref (r+1),.none,x,y,.ref z,.int u 0,.int l 0,.str "/claim/cut.py" (u+1)] }
noncomputable def kF (n:Str) (i:Nat) (m:Str) (t:Nat) (c:Addr):Obj:={ cls:=.type "function", data:=.func { name:=n,qualname:=n,params:=cS (top i),body:=.stmts (bT (top i)),scope:=am (top i),globals:=3,closure:=[],defaults:=.none,kwdefaults:=.none,pyModule:=.str m t,code:=.ref c } }
def kE (P:Params) (x:Str) (t:Nat) (v:Value):DictEntry:={ hash:=PyData.keyHash P x,key:=.str x t,val:=v }
noncomputable def KF (P:Params):Frag:=[(3,{ cls:=.type "dict", data:=.dict #[kE P "__name__" 165 (.str "law_anydelay_k95_whole_joined_walked_in_step" 555),kE P "__doc__" 166 .none,kE P "__package__" 167 .none,kE P "__loader__" 168 (.builtin "__main__.__loader__#opaque"),kE P "__spec__" 169 .none,kE P "__annotations__" 170 (.ref 6),kE P "__builtins__" 171 (.ref 4),kE P "__file__" 173 (.str "/claim/cut.py" 172),kE P "__cached__" 174 .none,kE P "NetError" 206 (.ref 24),kE P "NoStanding" 222 (.ref 37),kE P "NoStep" 248 (.ref 57),kE P "NoFit" 264 (.ref 69),kE P "LETTERS" 268 (.str "abcdefghijklmnopqrstuvwxyz" 267),kE P "MOST_LETTERS" 270 (.int 8 269),kE P "MOST_RULES_WITHIN" 272 (.int 10 271),kE P "MOST_INPUTS" 274 (.int 4 273),kE P "MOST_GATES" 276 (.int 7 275),kE P "PARTS_OF_RULE" 289 (.ref 72),kE P "TURNED" 296 (.ref 73),kE P "is_name" 302 (.ref 78),kE P "is_rule" 308 (.ref 83),kE P "is_pair" 315 (.ref 90),kE P "is_row" 321 (.ref 95),kE P "are_unlike_names" 327 (.ref 100),kE P "is_net" 333 (.ref 105),kE P "gates_of" 339 (.ref 110),kE P "wires_of" 346 (.ref 117),kE P "is_standing" 354 (.ref 124),kE P "check_standing" 362 (.ref 131),kE P "rule_holds" 371 (.ref 138),kE P "rule_worth" 379 (.ref 145),kE P "signs_in" 387 (.ref 152),kE P "row_of" 393 (.ref 157),kE P "turned_at" 401 (.ref 164),kE P "steps_from" 413 (.ref 171),kE P "asked_gates" 419 (.ref 176),kE P "switch_gate" 429 (.ref 183),kE P "turn_input" 438 (.ref 190),kE P "inputs_left" 450 (.ref 197),kE P "nets_joined" 460 (.ref 204),kE P "both_of" 471 (.ref 211),kE P "standing_of" 483 (.ref 218),kE P "found_from" 500 (.ref 225),kE P "steps_found" 509 (.ref 232),kE P "order_to" 523 (.ref 239),kE P "names_asked" 531 (.ref 244),kE P "first_calmed" 543 (.ref 251),kE P "first_race" 554 (.ref 258),kE P "_law_cell" 564 (.ref 265),kE P "_law_mixed" 573 (.ref 272),kE P "_law_wire" 580 (.ref 279),kE P "_law_rule" 593 (.ref 286),kE P "_law_worth" 603 (.ref 293),kE P "_law_names" 609 (.ref 298),kE P "_law_asked" 615 (.ref 303),kE P "_law_turned" 625 (.ref 310),kE P "_law_gates" 638 (.ref 317),kE P "_law_nets" 652 (.ref 324),kE P "_law_part" 658 (.ref 329),kE P "_law_on" 664 (.ref 334),kE P "_law_step_good" 680 (.ref 341),kE P "_law_standing_good" 693 (.ref 348),kE P "law" 699 (.ref 353)] 64 }),
 (72,{ cls:=.type "dict", data:=.dict #[kE P "wire" 277 (.int 2 278),kE P "not" 279 (.int 2 280),kE P "and" 281 (.int 3 282),kE P "or" 283 (.int 3 284)] 4 }),
 (73,{ cls:=.type "dict", data:=.dict #[kE P "0" 290 (.str "1" 291),kE P "1" 292 (.str "0" 293)] 2 }),
 (77,kC "is_name" 297 21 1 181 74 .none .none 76 300),
 (78,kF "is_name" 13 "anydelay.nets" 265 77),
 (82,kC "is_rule" 303 25 3 181 79 .none .none 81 306),
 (83,kF "is_rule" 14 "anydelay.nets" 265 82),
 (89,kC "is_pair" 309 34 1 181 84 (.ref 86) (.ref 87) 88 313),
 (90,kF "is_pair" 15 "anydelay.nets" 265 89),
 (94,kC "is_row" 316 36 2 181 91 .none .none 93 319),
 (95,kF "is_row" 16 "anydelay.nets" 265 94),
 (99,kC "are_unlike_names" 322 40 1 181 96 .none .none 98 325),
 (100,kF "are_unlike_names" 17 "anydelay.nets" 265 99),
 (104,kC "is_net" 328 42 1 181 101 .none .none 103 331),
 (105,kF "is_net" 18 "anydelay.nets" 265 104),
 (109,kC "gates_of" 334 55 1 181 106 .none .none 108 337),
 (110,kF "gates_of" 19 "anydelay.nets" 265 109),
 (116,kC "wires_of" 340 57 1 181 111 (.ref 113) (.ref 114) 115 344),
 (117,kF "wires_of" 20 "anydelay.nets" 265 116),
 (123,kC "is_standing" 347 59 2 181 118 (.ref 120) (.ref 121) 122 352),
 (124,kF "is_standing" 21 "anydelay.nets" 265 123),
 (130,kC "check_standing" 355 61 2 181 125 (.ref 127) (.ref 128) 129 360),
 (131,kF "check_standing" 22 "anydelay.nets" 265 130),
 (137,kC "rule_holds" 363 64 2 181 132 (.ref 134) (.ref 135) 136 369),
 (138,kF "rule_holds" 23 "anydelay.nets" 265 137),
 (144,kC "rule_worth" 372 73 2 181 139 (.ref 141) (.ref 142) 143 377),
 (145,kF "rule_worth" 24 "anydelay.nets" 265 144),
 (151,kC "signs_in" 380 75 2 181 146 (.ref 148) (.ref 149) 150 385),
 (152,kF "signs_in" 25 "anydelay.nets" 265 151),
 (156,kC "row_of" 388 77 2 181 153 .none .none 155 391),
 (157,kF "row_of" 26 "anydelay.nets" 265 156),
 (163,kC "turned_at" 394 79 2 181 158 (.ref 160) (.ref 161) 162 399),
 (164,kF "turned_at" 27 "anydelay.nets" 265 163),
 (170,kC "steps_from" 402 81 2 181 165 (.ref 167) (.ref 168) 169 411),
 (171,kF "steps_from" 28 "anydelay.nets" 265 170),
 (175,kC "asked_gates" 414 88 2 181 172 .none .none 174 417),
 (176,kF "asked_gates" 29 "anydelay.nets" 265 175),
 (182,kC "switch_gate" 420 91 3 181 177 (.ref 179) (.ref 180) 181 427),
 (183,kF "switch_gate" 30 "anydelay.nets" 265 182),
 (189,kC "turn_input" 430 97 3 181 184 (.ref 186) (.ref 187) 188 436),
 (190,kF "turn_input" 31 "anydelay.nets" 265 189),
 (196,kC "inputs_left" 441 103 2 181 191 (.ref 193) (.ref 194) 195 448),
 (197,kF "inputs_left" 33 "anydelay.joining" 439 196),
 (203,kC "nets_joined" 451 109 2 181 198 (.ref 200) (.ref 201) 202 458),
 (204,kF "nets_joined" 34 "anydelay.joining" 439 203),
 (210,kC "both_of" 461 115 3 181 205 (.ref 207) (.ref 208) 209 469),
 (211,kF "both_of" 35 "anydelay.joining" 439 210),
 (217,kC "standing_of" 472 120 4 181 212 (.ref 214) (.ref 215) 216 481),
 (218,kF "standing_of" 36 "anydelay.joining" 439 217),
 (224,kC "found_from" 486 130 2 181 219 (.ref 221) (.ref 222) 223 498),
 (225,kF "found_from" 38 "anydelay.orders" 484 224),
 (231,kC "steps_found" 501 145 2 181 226 (.ref 228) (.ref 229) 230 507),
 (232,kF "steps_found" 39 "anydelay.orders" 484 231),
 (238,kC "order_to" 510 147 3 181 233 (.ref 235) (.ref 236) 237 521),
 (239,kF "order_to" 40 "anydelay.orders" 484 238),
 (243,kC "names_asked" 526 159 3 181 240 .none .none 242 529),
 (244,kF "names_asked" 42 "anydelay.races" 524 243),
 (250,kC "first_calmed" 532 161 3 181 245 (.ref 247) (.ref 248) 249 541),
 (251,kF "first_calmed" 43 "anydelay.races" 524 250),
 (257,kC "first_race" 544 167 2 181 252 (.ref 254) (.ref 255) 256 552),
 (258,kF "first_race" 44 "anydelay.races" 524 257),
 (264,kC "_law_cell" 557 176 2 181 259 (.ref 261) (.ref 262) 263 562),
 (265,kF "_law_cell" 46 "law_anydelay_k95_whole_joined_walked_in_step" 555 264),
 (271,kC "_law_mixed" 565 180 2 181 266 (.ref 268) (.ref 269) 270 571),
 (272,kF "_law_mixed" 47 "law_anydelay_k95_whole_joined_walked_in_step" 555 271),
 (278,kC "_law_wire" 574 184 1 181 273 (.ref 275) (.ref 276) 277 578),
 (279,kF "_law_wire" 48 "law_anydelay_k95_whole_joined_walked_in_step" 555 278),
 (285,kC "_law_rule" 581 186 3 181 280 (.ref 282) (.ref 283) 284 591),
 (286,kF "_law_rule" 49 "law_anydelay_k95_whole_joined_walked_in_step" 555 285),
 (292,kC "_law_worth" 594 196 2 181 287 (.ref 289) (.ref 290) 291 601),
 (293,kF "_law_worth" 50 "law_anydelay_k95_whole_joined_walked_in_step" 555 292),
 (297,kC "_law_names" 604 204 1 181 294 .none .none 296 607),
 (298,kF "_law_names" 51 "law_anydelay_k95_whole_joined_walked_in_step" 555 297),
 (302,kC "_law_asked" 610 206 2 181 299 .none .none 301 613),
 (303,kF "_law_asked" 52 "law_anydelay_k95_whole_joined_walked_in_step" 555 302),
 (309,kC "_law_turned" 616 209 3 181 304 (.ref 306) (.ref 307) 308 623),
 (310,kF "_law_turned" 53 "law_anydelay_k95_whole_joined_walked_in_step" 555 309),
 (316,kC "_law_gates" 626 212 4 181 311 (.ref 313) (.ref 314) 315 636),
 (317,kF "_law_gates" 54 "law_anydelay_k95_whole_joined_walked_in_step" 555 316),
 (323,kC "_law_nets" 639 220 1 181 318 (.ref 320) (.ref 321) 322 650),
 (324,kF "_law_nets" 55 "law_anydelay_k95_whole_joined_walked_in_step" 555 323),
 (328,kC "_law_part" 653 229 3 181 325 .none .none 327 656),
 (329,kF "_law_part" 56 "law_anydelay_k95_whole_joined_walked_in_step" 555 328),
 (333,kC "_law_on" 659 232 3 181 330 .none .none 332 662),
 (334,kF "_law_on" 57 "law_anydelay_k95_whole_joined_walked_in_step" 555 333),
 (340,kC "_law_step_good" 665 238 6 181 335 (.ref 337) (.ref 338) 339 678),
 (341,kF "_law_step_good" 58 "law_anydelay_k95_whole_joined_walked_in_step" 555 340),
 (347,kC "_law_standing_good" 681 244 4 181 342 (.ref 344) (.ref 345) 346 691),
 (348,kF "_law_standing_good" 59 "law_anydelay_k95_whole_joined_walked_in_step" 555 347),
 (352,kC "law" 694 249 1 181 349 .none .none 351 697),
 (353,kF "law" 60 "law_anydelay_k95_whole_joined_walked_in_step" 555 352)]
noncomputable def hk:Hook:=kmHook KF [3,72,73,77,78,82,83,89,90,94,95,99,100,104,105,109,110,116,117,123,124,130,131,137,138,144,145,151,152,156,157,163,164,170,171,175,176,182,183,189,190,196,197,203,204,210,211,217,218,224,225,231,232,238,239,243,244,250,251,257,258,264,265,271,272,278,279,285,286,292,293,297,298,302,303,309,310,316,317,323,324,328,329,333,334,340,341,347,348,352,353] (λ_=>rfl) [227]
noncomputable def vw:Program:={ PySem.Challenge.pw_anydelay_k95_whole_joined_walked_in_step with main:={ PySem.Challenge.pw_anydelay_k95_whole_joined_walked_in_step.main with body:=[1,2,3,4,6,7,8,9,10,11,12,13,14,15,16,17,18,19,20,21,22,23,24,25,26,27,28,29,30,31,33,34,35,36,38,39,40,42,43,44,46,47,48,49,50,51,52,53,54,55,56,57,58,59,60].map top } }
def LW (w:World):Prop:=(openEnds treeTable PySem.Challenge.rw_anydelay_k95_whole_joined_walked_in_step.prog w 4932).map (λs=>(openSeen vw [("NoStep" : Str),("PARTS_OF_RULE" : Str),("TURNED" : Str)] (importedModules PySem.Challenge.rw_anydelay_k95_whole_joined_walked_in_step.prog.main.body) (λs=>xlAt vw [] s&&recOk (RowW.records PySem.Challenge.rw_anydelay_k95_whole_joined_walked_in_step.row.toRowW) s) true s,Hook.obs hk s))=some (openGood vw [("NoStep" : Str),("PARTS_OF_RULE" : Str),("TURNED" : Str)],Hook.val hk w)
set_option maxHeartbeats 0 in
theorem vJ:∀w:World,LW (w.withFollow "special-get-raises" false):=λw=>by unfold LW;kernel_rfl
set_option maxHeartbeats 0 in
theorem vI:∀w:World,LW (w.withFollow "special-get-raises" true):=λw=>by unfold LW;kernel_rfl
theorem left:LeftO PySem.Challenge.rw_anydelay_k95_whole_joined_walked_in_step.prog vw [("NoStep" : Str),("PARTS_OF_RULE" : Str),("TURNED" : Str)] (λs=>xlAt vw [] s&&recOk (RowW.records PySem.Challenge.rw_anydelay_k95_whole_joined_walked_in_step.row.toRowW) s) (Hook.obs hk) (Hook.val hk) 4932:=λw=>byRow2 (P:=LW) "special-get-raises" vJ vI w
end K2
section
variable {a b c d e f g h i j k l m n x r lo:Nat}
local macro_rules | `(tactic| walk_at "so") => `(tactic| (intros; first | solve_by_elim (maxDepth := 3) [Nat.le_of_lt, Qr, Nat.lt_of_le_of_lt, QK, Nat.lt_of_not_ge, Nat.lt_of_not_le, Nat.le_of_not_lt, Nat.ge_of_not_lt, Nat.le_add_right, Nat.le_add_left, Nat.sub_le, Nat.lt_succ_self, Nat.le_succ, Nat.add_le_add_left, Nat.add_le_add_right, Nat.add_lt_add_left, Nat.add_lt_add_right, Nat.succ_le_of_lt, Nat.lt_of_succ_le, Nat.le_of_eq, Nat.le_antisymm, Nat.lt_of_le_of_ne, Qi, QN, Nat.sub_lt, Nat.succ_le_succ, Nat.lt_succ_of_le, Nat.le_of_lt_succ, Eq.symm, Eq.trans] | (subst_vars; solve_by_elim (maxDepth := 3) [Nat.le_of_lt, Qr, Nat.lt_of_le_of_lt, QK, Nat.lt_of_not_ge, Nat.lt_of_not_le, Nat.le_of_not_lt, Nat.ge_of_not_lt, Nat.le_add_right, Nat.le_add_left, Nat.sub_le, Nat.lt_succ_self, Nat.le_succ, Nat.add_le_add_left, Nat.add_le_add_right, Nat.add_lt_add_left, Nat.add_lt_add_right, Nat.succ_le_of_lt, Nat.lt_of_succ_le, Nat.le_of_eq, Nat.le_antisymm, Nat.lt_of_le_of_ne, Qi, QN, Nat.sub_lt, Nat.succ_le_succ, Nat.lt_succ_of_le, Nat.le_of_lt_succ, Eq.symm, Eq.trans])))
theorem om0:a<=b->¬a<b->a=b:=by grind
theorem om2:¬b<a->a<=b:=by walk_at "so"
theorem om3:c=b->b=d->a<c->a<b:=by walk_at "so"
theorem om4:c<=b->c=a->a<=b:=by walk_at "so"
theorem om5:a+1≠a:=by simp_all
theorem om6:b<a->a-(b+1)<a-b:=by omega
theorem om7:c=d->c=a->d=b->a=b:=by walk_at "so"
theorem om8:a+(c+1)<b->a<b:=by grind
theorem om9:b=c->b=d->c=e->a<d->a<b:=by intros;simp_all
theorem v4:c=b->c=d->b=e->a<d->a<b:=by intros;simp_all
theorem vC:a+(b+1)<c->a+1+b<c:=by omega
theorem qa:b=c->a<c->a<b:=by walk_at "so"
theorem vB:a<c->b=c->a<b:=by walk_at "so"
theorem vA:c=a->d=b->c=d->a=b:=by walk_at "so"
theorem oo:a+64<b->a<b:=by grind
theorem rY:a+64<b->a+1+8<b:=by grind
theorem on:c=b->a<c->a<b:=by walk_at "so"
theorem u8:a<=b->a+1<=b+1:=by walk_at "so"
theorem vz:c<=b->a<c->a<b:=by grind
theorem vv:a<=d+c->d<=b+1->a<=b+(c+1):=by grind
theorem vt:a+2≠a+4:=by simp
theorem vq:a+3≠a+4:=by simp_all
theorem vp:a≠a+4:=by grind
theorem vo:a+1≠a+4:=by simp_all
theorem vm:a+2≠a+3:=by simp
theorem vk:a+2≠a:=by grind
theorem vj:a+2≠a+1:=by simp
theorem vi:a+3≠a:=by simp
theorem vh:a+3≠a+1:=by simp
theorem vg:a≠a+1:=by simp
theorem vf:b=a+5->a<=b:=by intros;simp_all
theorem ve:a<=a+1:=by simp
theorem tD:b-a=0->a<=b->a=b:=by grind
theorem vd:a-b=0->0=a-b:=by walk_at "so"
theorem tz:b-a=c+1->a<=b->a<b:=by grind
theorem tq:c<=b->a<=d->d<c->a<=b:=by grind
theorem tp:a-b=c+1->b<a->a-(b+1)=c:=by grind
theorem tm:a<b->a+1<=b:=by walk_at "so"
theorem vb:a-b=c+1->b<a->a-(b+1)+1=a-b:=by omega
theorem u_:a+(b+1)=a+1+b:=by grind
theorem u9:a-b=c+1->b<a->a-b=a-(b+1)+1:=by omega
end
-- CHANGE: your row's module here,as the last of these rows
namespace L2
open PySem PySem.Spec PyProof.Rows
abbrev Key:=Sum Int Str
def iI:Key->Value->Bool
 | .inl k,v=>Value.isInt k v
 | .inr x,v=>Value.isStrOf x v
def v5 (w:World):Key->Int
 | .inl k=>hashInt k
 | .inr x=>hashStr w x
theorem bo:∀{k:Key} {v:Value},iI k v=true->(∃i t,k=Sum.inl i/\v=Value.int i t)\/(∃x t,k=Sum.inr x/\v=Value.str x t)
 | .inl i,v,h=>by
  obtain⟨t,e⟩:=Value.isInt_shape (k:=i) (v:=v) h;exact .inl ⟨i,t,rfl,e⟩
 | .inr x,v,h=>by
  obtain⟨t,e⟩:=Value.isStrOf_shape (x:=x) (v:=v) h;exact .inr ⟨x,t,rfl,e⟩
theorem oJ (i:Int) (t:Tok):iI (.inl i) (.int i t)=true:=by simp[iI,Value.isInt]
theorem oI (x:Str) (t:Tok):iI (.inr x) (.str x t)=true:=by simp[iI,Value.isStrOf]
theorem uz (a b:Int):decide ((Sum.inl a:Key)=Sum.inl b)=(a==b):=by
 by_cases e:a=b
 ·subst e;simp
 have h:¬(Sum.inl a:Key)=Sum.inl b:=λq=>e (Sum.inl.inj q);rw[Qo h];exact(beq_eq_false_iff_ne.mpr e).symm
theorem uv (a b:Str):decide ((Sum.inr a:Key)=Sum.inr b)=decide (a=b):=by
 by_cases e:a=b
 ·subst e;simp
 have h:¬(Sum.inr a:Key)=Sum.inr b:=λq=>e (Sum.inr.inj q);rw[Qo h,Qo e]
theorem ux (a:Int) (b:Str):decide ((Sum.inl a:Key)=Sum.inr b)=false:=Qo (λq=>nomatch q)
theorem uw (a:Str) (b:Int):decide ((Sum.inr a:Key)=Sum.inl b)=false:=Qo (λq=>nomatch q)
noncomputable def a_ (prog:Program) (w:World):PySem.KeyKind prog w Key where
 is:=iI
 hash:=v5 w
 inj:=λv a b ha hb=>by
  rcases bo ha with⟨i,t,rfl,rfl⟩|⟨x,t,rfl,rfl⟩
  ·rcases bo hb with⟨j,u,rfl,e⟩|⟨y,u,rfl,e⟩
   ·injection e with e1 _;rw[e1]
   exact nomatch e
  rcases bo hb with⟨j,u,rfl,e⟩|⟨y,u,rfl,e⟩
  ·exact nomatch e
  injection e with e1 _;rw[e1]
 byValue:=λk v h=>by
  rcases bo h with⟨i,t,rfl,rfl⟩|⟨x,t,rfl,rfl⟩ <;> rfl
 pyHash:=λhv h=>by
  rcases bo hv with⟨i,t,rfl,rfl⟩|⟨x,t,rfl,rfl⟩
  ·exact wpAny_pyHash_int h
  exact wpAny_pyHash_str h
 eqBool:=λhu hv h=>by
  rcases bo hu with⟨i,t,rfl,rfl⟩|⟨x,t,rfl,rfl⟩
  ·rcases bo hv with⟨j,u,rfl,rfl⟩|⟨y,u,rfl,rfl⟩
   ·rw[uz]at h;exact wpAny_eqBool_int h
   rw[ux]at h;exact SeqAt.EqAt.int_str i t y u _ _ _ _ h
  rcases bo hv with⟨j,u,rfl,rfl⟩|⟨y,u,rfl,rfl⟩
  ·rw[uw]at h;exact SeqAt.EqAt.str_int x t j u _ _ _ _ h
  rw[uv]at h;exact wpAny_eqBool_str h
 «strs»:=λk x t v h=>by
  rcases bo h with⟨i,u,rfl,e⟩|⟨y,u,rfl,e⟩
  ·exact nomatch e
  injection e with e1 _;subst e1;cases v <;> rfl
theorem k_ (prog:Program) (w:World) (i:Int) (t:Tok):(a_ prog w).is (.inl i) (.int i t)=true:=oJ i t
theorem eE (prog:Program) (w:World) (x:Str) (t:Tok):(a_ prog w).is (.inr x) (.str x t)=true:=oI x t
inductive V where
 | non|bl (b:Bool)|int (i:Int)|str (x:Str)|byt (b:Array UInt8)|flt (b:UInt64)|ref (a:Addr)|ty (n:String)
 deriving DecidableEq
noncomputable def aO:V->Value->Prop
 | .non,u=>u=Value.none
 | .bl b,u=>u=Value.bool b
 | .int i,u=>∃t,u=Value.int i t
 | .str x,u=>∃t,u=Value.str x t
 | .byt b,u=>∃t,u=Value.bytes b t
 | .flt b,u=>∃t,u=Value.float b t
 | .ref a,u=>u=Value.ref a
 | .ty n,u=>u=Value.type n
abbrev aW:List V->List Value->Prop:=Paired aO
theorem aW.length {xs:List V} {us:List Value} (r:aW xs us):xs.length=us.length:=Paired.length r
theorem aW.get:∀{xs:List V} {us:List Value} {i:Nat} {x:V},aW xs us->xs[i]?=some x->∃u,us[i]?=some u/\aO x u
 | _,_,_,_,.nil,e=>by simp at e
 | _,_,0,_,.cons r _,e=>by simp at e;subst e;exact⟨_,rfl,r⟩
 | _,_,i+1,x,.cons _ t,e=>by
  obtain⟨u,h1,h2⟩:=aW.get (i:=i) (x:=x) t (by simpa using e);exact⟨u,by simpa using h1,h2⟩
variable {u cd dV doc pm cdv ct oc:Value}
theorem aW.set {x:V} (r:aO x u):∀{xs:List V} {us:List Value} (i:Nat),aW xs us->aW (xs.set i x) (us.set i u)
 | _,_,_,.nil=>.nil
 | _,_,0,.cons _ t=>.cons r t
 | _,_,i+1,.cons q t=>.cons q (aW.set r i t)
theorem aW.append:∀{xs ys:List V} {us ws:List Value},aW xs us->aW ys ws->aW (xs++ys) (us++ws)
 | _,_,_,_,.nil,s=>s
 | _,_,_,_,.cons r t,s=>.cons r (aW.append t s)
theorem aW.take:∀{xs:List V} {us:List Value} (n:Nat),aW xs us->aW (xs.take n) (us.take n)
 | _,_,0,_=>.nil
 | _,_,_+1,.nil=>.nil
 | _,_,n+1,.cons r t=>.cons r (aW.take n t)
theorem aW.drop:∀{xs:List V} {us:List Value} (n:Nat),aW xs us->aW (xs.drop n) (us.drop n)
 | _,_,0,r=>r
 | _,_,_+1,.nil=>.nil
 | _,_,n+1,.cons _ t=>aW.drop n t
def iW:Option V->Option Value->Prop
 | some v,some u=>aO v u
 | none,none=>True
 | _,_=>False
def KV {κ:Type}:List (κ × V)->List (κ × Value)->Prop:=Paired λ(p:κ × V) (q:κ × Value)=>p.1=q.1/\aO p.2 q.2
def kV:Key->V
 | .inl i=>.int i
 | .inr x=>.str x
inductive HO where
 /-- a list -/
 | lst (xs:List V)
 /-- a tuple (never changes) -/
 | tup (xs:List V)
 /-- a dict whose keys are ints and texts;one whose keys are tuples of ints and texts (the empty one is both) -/
 | dK (kvs:List (Key × V))|dT (kvs:List (List Key × V))
 /-- a set of ints: its members,its size -/
 | set (S:Int->Bool) (n:Nat)
 /-- an instance of the class at C,its dict at dx,its attributes -/
 | ins (C dx:Addr) (fs:List (Str × V))
 /-- the dict of the instance at x -/
 | own (x:Addr)
 /-- the dict of an exception -/
 | xd (fs:List (Str × V))
 /-- a bound method,f of x -/
 | met (f x:Addr)
 /-- a range object lo,lo+1,.. below hi -/
 | rng (lo hi:Int)
 /-- a thing that is known to the object (the script;a dict while a loop walks it): read,never written while it is so -/
 | frz (o:Obj) (u:HO)
 /-- a code object's table -/
 | tbl (ps:Array Value)
 /-- any other thing,by what is true of its one object (a def of one's own: SetO a S n:=HO.ext λh=>..) -/
 | ext (φ:Heap->Prop)
abbrev Hp:=Addr->Option HO
def upd (H:Hp) (a:Addr) (o:HO):Hp:=λb=>if b=a then some o else H b
variable {o:HO} {a b it dx C f:Addr} {H H':Hp}
theorem ai:upd H a o a=some o:=by unfold upd;rw[QC rfl]
theorem ao (h:b≠a):upd H a o b=H b:=by unfold upd;rw[Qz h]
theorem rp {u:HO}:upd (upd H a o) a u=upd H a u:=by
 funext b;unfold upd;split <;> rfl
theorem vF {u:HO} (h:H a=some o) (h':H b=some u) (d:o≠u):a≠b:=by
 intro e;subst e;rw[h]at h';exact d (QR h')
theorem ay (h:H a=some o) (h':H b=none):a≠b:=by
 intro e;subst e;rw[h]at h';cases h'
section
variable (P:Program) (w:World)
noncomputable def bc (H:Hp) (h:Heap) (a:Addr):HO->Prop
 | .lst xs=>xs.length<=sizeLine/\∃(its:List Value) (n:Nat),aW xs its/\h.get? a=some { cls:=.type "list", data:=.seq its.toArray n }
 | .tup xs=>xs.length<=sizeLine/\∃its:List Value,aW xs its/\IsTup h a its.toArray
 | .dK kvs=>kvs.length<=sizeLine/\(a==sysModules)=false/\∃vs,KV kvs vs/\h.DictOf (a_ P w) a vs
 | .dT kvs=>kvs.length<=sizeLine/\(a==sysModules)=false/\∃xs:List (List Key × Addr × Value),
   Paired (λ(p:List Key × V) (q:List Key × Addr × Value)=>p.1=q.1/\H q.2.1=some (.tup (p.1.map kV))/\aO p.2 q.2.2) kvs xs /\
   ∃o es ep,h.get? a=some o/\o.ExactDict/\o.data=.dict es ep/\es.toList=xs.map (entryOfKey (tupleKind (a_ P w)))/\(xs.map (·.1)).Nodup
 | .set S n=>h.SetOf (intKind P w) a S n
 | .ins C dx fs=>H dx=some (.own a)/\fs.length<=1000/\dx≠a/\h.get? a=some (PySem.W.instObj C dx) /\
   ∃mA,h.Ns1 dx mA/\(∀f,iW (fs.lookup f) (mA f))/\PySem.Within mA (fs.map (·.1))
 | .own _=>∃o,h.get? a=some o
 | .xd fs=>∃mA,h.Ns1 a mA/\∀f,iW (fs.lookup f) (mA f)
 | .rng lo hi=>∃t u v,h.get? a=some { cls:=.type "range", data:=.fields #[.int lo t,.int hi u,.int 1 v] }
 | .frz o u=>h.get? a=some o/\bc H h a u
 | .tbl ps=>h.get? a=some { cls:=.none,data:=.fields ps }
 | .met f x=>h.get? a=some (PySem.W.methodObj (.ref f) (.ref x))
 | .ext φ=>φ h/\(∃o,h.get? a=some o)/\∀h1 h2:Heap,φ h1->(∀o,h1.get? a=some o->h2.get? a=some o)->φ h2
def HOk (H:Hp) (h:Heap):Prop:=∀a o,H a=some o->bc P w H h a o
end
section
variable {P:Program} {w:World} {H H':Hp} {h h':Heap} {a:Addr} {o:HO}
theorem bc.lt (x:bc P w H h a o):a<h.objs.size:=by
 cases o with
 | lst xs=>obtain⟨_,_,_,_,e⟩:=x;exact Qj e
 | tup xs=>obtain⟨_,_,_,p⟩:=x;exact p.lt
 | dK kvs=>obtain⟨_,_,_,_,o,_,_,e,_⟩:=x;exact Qj e
 | dT kvs=>obtain⟨_,_,_,_,o,_,_,e,_⟩:=x;exact Qj e
 | set S n=>obtain⟨o,_,_,_,e,_⟩:=x;exact Qj e
 | ins C dx fs=>obtain⟨_,_,_,e,_⟩:=x;exact Qj e
 | own y=>obtain⟨_,e⟩:=x;exact Qj e
 | xd fs=>obtain⟨_,⟨_,_,_,e,_⟩,_⟩:=x;exact Qj e
 | rng lo hi=>obtain⟨_,_,_,e⟩:=x;exact Qj e
 | frz ob u=>obtain⟨e,_⟩:=x;exact Qj e
 | tbl ps=>exact Qj (show h.get? a=some _ from x)
 | met f y=>exact Qj (show h.get? a=some _ from x)
 | ext φ=>obtain⟨_,⟨_,e⟩,_⟩:=x;exact Qj e
theorem Paired.mapP {α β:Type} {F G:α->β->Prop}:∀{l₁:List α} {l₂:List β},Paired F l₁ l₂->(∀a b,F a b->G a b)->Paired G l₁ l₂
 | _,_,.nil,_=>.nil
 | _,_,.cons r t,f=>.cons (f _ _ r) (Paired.mapP t f)
theorem bc.stay (x:bc P w H h a o) (k:∀b u,(b=a\/H b=some (.own a))->h.get? b=some u->h'.get? b=some u)
  (ho:∀b,H b=some (.own a)->H' b=some (.own a)) (ht:∀b xs,H b=some (.tup xs)->H' b=some (.tup xs)):bc P w H' h' a o:=by
 induction o with
 | lst xs=>obtain⟨z,its,n,r,e⟩:=x;exact⟨z,its,n,r,k _ _ (.inl rfl) e⟩
 | tup xs=>obtain⟨z,its,r,ob,e,c⟩:=x;exact⟨z,its,r,ob,k _ _ (.inl rfl) e,c⟩
 | dK kvs=>obtain⟨z,y,vs,r,ob,es,ep,e,c⟩:=x;exact⟨z,y,vs,r,ob,es,ep,k _ _ (.inl rfl) e,c⟩
 | dT kvs =>
  obtain⟨z,y,xs,r,ob,es,ep,e,c⟩:=x;exact⟨z,y,xs,Paired.mapP r λp q z=>⟨z.1,ht _ _ z.2.1,z.2.2⟩,ob,es,ep,k _ _ (.inl rfl) e,c⟩
 | set S n=>obtain⟨ob,es,ep,t,e,c⟩:=x;exact⟨ob,es,ep,t,k _ _ (.inl rfl) e,c⟩
 | ins C dx fs =>
  obtain⟨d,z,ne,e,mA,⟨od,es,ep,e2,c⟩,r⟩:=x;exact⟨ho _ d,z,ne,k _ _ (.inl rfl) e,mA,⟨od,es,ep,k _ _ (.inr d) e2,c⟩,r⟩
 | own y=>obtain⟨ob,e⟩:=x;exact⟨ob,k _ _ (.inl rfl) e⟩
 | xd fs=>obtain⟨mA,⟨od,es,ep,e,c⟩,r⟩:=x;exact⟨mA,⟨od,es,ep,k _ _ (.inl rfl) e,c⟩,r⟩
 | rng lo hi=>obtain⟨t,u,v,e⟩:=x;exact⟨t,u,v,k _ _ (.inl rfl) e⟩
 | frz ob u ih=>obtain⟨e,q⟩:=x;exact⟨k _ _ (.inl rfl) e,ih q⟩
 | tbl ps =>
  have e:h.get? a=some { cls:=.none,data:=.fields ps }:=x;show h'.get? a=some { cls:=.none,data:=.fields ps };exact k a _ (.inl rfl) e
 | met f y =>
  have e:h.get? a=some (PySem.W.methodObj (.ref f) (.ref y)):=x;show h'.get? a=some (PySem.W.methodObj (.ref f) (.ref y));exact k a _ (.inl rfl) e
 | ext φ=>obtain⟨p,⟨o,e⟩,st⟩:=x;exact⟨st _ _ p λo q=>k _ _ (.inl rfl) q,⟨o,k _ _ (.inl rfl) e⟩,st⟩
theorem HOk.lt (x:HOk P w H h) (e:H a=some o):a<h.objs.size:=(x a o e).lt
theorem HOk.fresh (x:HOk P w H h) (e:h.objs.size<=a):H a=none:=by
 cases q:H a with
 | none=>rfl
 | some u=>exact absurd (Qr (x.lt q) e) (xl _)
theorem HOk.kept (x:HOk P w H h) (k:∀b u,h.get? b=some u->h'.get? b=some u):HOk P w H h':=λa o e =>
 (x a o e).stay (λb u _ q=>k b u q) (λ_ q=>q) λ_ _ q=>q
theorem HOk.laid (x:HOk P w H h) (k:∀b u,h.get? b=some u->h'.get? b=some u) (hp:h.objs.size<=a) (new:bc P w (upd H a o) h' a o):HOk P w (upd H a o) h':=λb u e=>by
 have hn:=x.fresh hp;by_cases hb:b=a
 ·subst hb;rw[ai]at e;cases e;exact new
 rw[ao hb]at e;exact(x b u e).stay (λc v _ q=>k c v q) (λc q=>by rw[ao (ay q hn)];exact q) λc xs q=>by rw[ao (ay q hn)];exact q
end
def Rd (H:Hp) (a:Addr) (u:HO):Prop:=H a=some u\/∃o,H a=some (.frz o u)
variable {h base:Heap} {w:World} {P:Program}
theorem Rd.ok {u:HO} (r:Rd H a u) (x:HOk P w H h):bc P w H h a u:=by
 rcases r with r|⟨o,r⟩
 ·exact x a u r
 obtain⟨_,q⟩:=x a _ r;exact q
def Mut:Option HO->Prop
 | some (.lst _)=>True
 | some (.dK _)=>True
 | some (.dT _)=>True
 | some (.set _ _)=>True
 | some (.ins _ _ _)=>True
 | some (.ext _)=>True
 | _=>False
section
variable {P:Program} {w:World} {H:Hp} {h h':Heap} {x e:Addr} {o':HO}
theorem HOk.write (ok:HOk P w H h) (mu:Mut (H x)) (he:e=x\/H e=some (.own x)) (k:∀b u,b≠e->h.get? b=some u->h'.get? b=some u) (heo:∃u,h'.get? e=some u)
  (new:bc P w (upd H x o') h' x o'):HOk P w (upd H x o') h':=λb u q=>by
 have nown:∀c y,H c=some (.own y)->c≠x:=λc y r z=>by subst z;rw[r]at mu;exact mu
 have ntup:∀c xs,H c=some (.tup xs)->c≠x:=λc xs r z=>by subst z;rw[r]at mu;exact mu
 by_cases hb:b=x
 ·subst hb;rw[ai]at q;cases q;exact new
 rw[ao hb]at q;by_cases hbe:b=e
 ·have q':H b=some (.own x):=by
   rcases he with z|z
   ·exact absurd (hbe.trans z) hb
   rw[hbe];exact z
  rw[q]at q';cases q';obtain⟨v,hv⟩:=heo;exact⟨v,by rw[hbe];exact hv⟩
 refine(ok b u q).stay (λc v hc r=>k c v ?_ r) (λc r=>by rw[ao (nown c b r)];exact r) λc xs r=>by rw[ao (ntup c xs r)];exact r
 rcases hc with rfl|hc
 ·exact hbe
 rintro rfl;rcases he with z|z
 ·exact nown c b hc z
 rw[hc]at z;cases z;exact hb rfl
end
structure Un (fs ex:List Addr) (H H':Hp) (h h':Heap):Prop where
 keep:∀b o,h.get? b=some o->H b=none->b∉fs->b∉ex->h'.get? b=some o
 slot:∀b o,h.get? b=some o->H b=none->b∈fs->b∉ex->∃sl,h'.get? b=some { o with slots:=sl }
 free:∀b o,h.get? b=some o->H b=none->b∉ex->H' b=none
 there:∀b o,h.get? b=some o->b∉ex->∃o',h'.get? b=some o'
 tups:∀b xs,H b=some (.tup xs)->H' b=some (.tup xs)
 frzs:∀b o u,H b=some (.frz o u)->H' b=some (.frz o u)
 tbls:∀b ps,H b=some (.tbl ps)->∃more,H' b=some (.tbl (ps++more))
section
variable {fs fs' ex ex':List Addr} {H H1 H2:Hp} {h h1 h2 h':Heap} {a x e:Addr} {o:HO}
theorem Un.any (u:Un fs ex H H1 h h1) {b:Addr} {ob:Obj} (q:h.get? b=some ob) (n:H b=none) (hx:b∉ex):∃sl,h1.get? b=some { ob with slots:=sl }:=by
 by_cases hb:b∈fs
 ·exact u.slot b ob q n hb hx
 exact⟨ob.slots,u.keep b ob q n hb hx⟩
theorem Un.kept (k:∀b u,h.get? b=some u->h'.get? b=some u):Un fs ex H H h h' :=
 ⟨λb ob q _ _ _=>k b ob q,λb ob q _ _ _=>⟨ob.slots,k b ob q⟩,λ_ _ _ n _=>n,λb ob q _=>⟨ob,k b ob q⟩,λ_ _ q=>q,λ_ _ _ q=>q,λ_ ps q=>⟨#[],by rw[q];simp⟩⟩
theorem Un.refl:Un fs ex H H h h:=Un.kept λ_ _ q=>q
theorem Un.laid (k:∀b u,h.get? b=some u->h'.get? b=some u) (hp:h.objs.size<=a) (hn:H a=none):Un fs ex H (upd H a o) h h' where
 keep:=λb u q _ _ _=>k b u q
 slot:=λb u q _ _ _=>⟨u.slots,k b u q⟩
 free:=λb u q n _=>by rw[ao (Qp (Qr (Qj q) hp))];exact n
 there:=λb u q _=>⟨u,k b u q⟩
 tups:=λb xs q=>by rw[ao (ay q hn)];exact q
 frzs:=λb u xs q=>by rw[ao (ay q hn)];exact q
 tbls:=λb ps q=>⟨#[],by rw[ao (ay q hn),q];simp⟩
theorem Un.write (mu:Mut (H x)) (he:e=x\/H e=some (.own x)) (k:∀b u,b≠e->h.get? b=some u->h'.get? b=some u) (heo:∃u,h'.get? e=some u):Un fs ex H (upd H x o) h h':=by
 have hx:∀b,H b=none->b≠x:=λb n z=>by subst z;rw[n]at mu;exact mu
 have hb:∀b,H b=none->b≠e:=λb n z=>by
  subst z;rcases he with r|r
  ·exact hx b n r
  rw[n]at r;cases r
 have hm:∀b u,H b=some u->¬Mut (some u)->b≠x:=λb u q nm z=>by subst z;rw[q]at mu;exact nm mu
 refine⟨λb u q n _ _=>k b u (hb b n) q,λb u q n _ _=>⟨u.slots,k b u (hb b n) q⟩,λb u q n _=>by rw[ao (hx b n)];exact n,λb u q _=>?_,
  λb xs q=>by rw[ao (hm b _ q λz=>z)];exact q,λb u xs q=>by rw[ao (hm b _ q λz=>z)];exact q,λb ps q=>⟨#[],by rw[ao (hm b _ q λz=>z),q];simp⟩⟩
 by_cases hbe:b=e
 ·subst hbe;exact heo
 exact⟨u,k b u hbe q⟩
end
def trk (h:Heap) (H:Hp):List Addr:=(List.range h.objs.size).filter λa=>(H a).isSome
def i_ (h:Heap) (H:Hp):Heap:=PySem.W.hideAll h (trk h H)
theorem oP (h:Heap) (H:Hp):(i_ h H).objs.size=h.objs.size:=PySem.W.hideAll_size _ _
theorem qO {o:Obj} (e:h.get? b=some o) (n:H b=none):(i_ h H).get? b=some o :=
 PySem.W.hideAll_get _ e λhm=>by
  have q:(H b).isSome=true:=(List.mem_filter.mp hm).2;rw[n]at q;simp at q
theorem sk {o:Obj} (e:(i_ h H).get? b=some o):h.get? b=some o/\H b=none:=by
 have e':h.get? b=some o:=PySem.W.of_hideAll (trk h H) e;refine⟨e',?_⟩
 cases q:H b with
 | none=>rfl
 | some x =>
 have hm:b∈trk h H:=List.mem_filter.mpr ⟨List.mem_range.mpr (Qj e'),by simp[q]⟩;have z:(i_ h H).get? b=none:=PySem.W.hideAll_none (trk h H) hm;rw[z]at e;cases e
structure Mod (K:PySem.W.Frag) (mg:Str->Option Value) (base:Heap):Prop where
 kin:K.In base
 glob:base.Ns mainGlobals mg
 blt:∃mb,base.Ns builtinsNs mb/\∀x:Str,x ≠ "__name__" -> mb x=bootBuiltins x
 nolimit:base.NoLimit
/-- the context: a def's body (or a comprehension's block) running. base: fixed through the whole law;s₀,H₀: the dM;outer: the frames whose slots others may change (a def's callers);stack: all frames that run;
  ex: iterators that were made ahead of the dM and are walked here (a comprehension's);fn: the names whose cells were made at the dM (a def: all;a comprehension's block: its own);calm: not within an except suite;pn: pins that every state bears;xe: what is wanted of an exception that leaves the code -/
structure Cx where
 prog:Program
 w:World
 K:PySem.W.Frag
 mg:Str->Option Value
 base:Heap
 A:Around
 N:List Str
 s₀:Shared
 H₀:Hp
 env:Env
 outer:List Env
 stack:List Env
 ex:List Addr
 fn:Str->Bool
 calm:Bool
 pn:List (Addr × Obj)
 xe:Value->Shared->Prop
def frs (l:List Env):List Addr:=l.filterMap (·.frame)
abbrev Cx.fs (X:Cx):List Addr:=frs X.outer
def Vis (sc:Scope) (x:Str):Prop:=sc.names.lookup x=some .local\/sc.names.lookup x=some .cell\/sc.names.lookup x=some .free
def Loc (sc:Scope) (x:Str):Prop:=sc.names.lookup x=some .local\/sc.names.lookup x=some .cell
def v9 (env:Env) (h:Heap) (m:Str->Option Value) (x:Str) (u:Value):Prop :=
 (env.kindOf x=some .local/\m x=some u)\/((env.kindOf x=some .cell\/env.kindOf x=some .free)/\∃c,env.cells.lookup x=some c/\h.IsCell c (some u))
structure Cx.Ok (X:Cx):Prop where
 mod:Mod X.K X.mg X.base
 kind:X.env.scope.kind=.function
 glob:X.env.globals=mainGlobals
 blt:X.env.builtins=builtinsNs
 above:X.s₀.heap.objs.size<=X.env.locals
 inj:∀x y c,X.env.cells.lookup x=some c->X.env.cells.lookup y=some c->x=y
 has:∀x,(X.env.kindOf x=some .cell\/X.env.kindOf x=some .free)->∃c,X.env.cells.lookup x=some c
 cab:∀x c,X.fn x=true->X.env.cells.lookup x=some c->X.s₀.heap.objs.size<=c
 hd:X.calm=true->X.A.handled=none
 frames:X.A.frames=some X.stack
 stk:X.stack=X.outer\/(X.stack=X.env::X.outer/\X.env.frame=some X.env.locals)
 exf:∀b∈X.ex,b≠X.env.locals/\∀x c,X.env.cells.lookup x=some c->c≠b
 bs:∀b o,X.base.get? b=some o->X.s₀.heap.get? b=some o/\X.H₀ b=none
 bsz:X.base.objs.size<=X.s₀.heap.objs.size
 noex:∀b o,X.base.get? b=some o->b∉X.ex
 exfs:∀b∈X.ex,b∉X.fs
 funs:X.s₀.heap.FunFrames X.base X.outer
 frf:∀b∈X.fs,X.H₀ b=none
structure Inv (X:Cx) (pins:List (Addr × Obj)) (σ:List (Option V)) (H:Hp) (s:Shared):Prop where
 ok:X.Ok
 os:s.os=X.s₀.os
 bare:AllBare s.gens
 base:Un X.fs X.ex X.H₀ H X.s₀.heap s.heap
 loc:∃m,s.heap.Ns X.env.locals m/\∀(i:Nat) (x:Str) (v:V),X.N[i]?=some x->σ[i]?=some (some v)->Vis X.env.scope x->∃u,aO v u/\v9 X.env s.heap m x u
 cell:∀x c,X.env.cells.lookup x=some c->∃v,s.heap.IsCell c v
 free:H X.env.locals=none
 freeC:∀x c,X.env.cells.lookup x=some c->H c=none
 pin:∀p∈X.pn++pins,s.heap.get? p.1=some p.2/\H p.1=none/\p.1≠X.env.locals/\p.1∉X.fs/\∀v,p.2.data≠.cell v
 hok:HOk X.prog X.w H s.heap
 len:σ.length=X.N.length
section
variable {X:Cx} {pins:List (Addr × Obj)} {σ:List (Option V)} {H H':Hp} {s:Shared} {h':Heap}
theorem Cx.Ok.nofr (ok:X.Ok) {b:Addr} {o:Obj} (e:X.base.get? b=some o):b∉X.fs:=λhb=>by
 have:=(ok.funs.mem hb).1;rw[e]at this;cases this
theorem Inv.bs (I:Inv X pins σ H s):∀b o,X.base.get? b=some o->s.heap.get? b=some o/\H b=none:=λb o e =>
 ⟨I.base.keep b o (I.ok.bs b o e).1 (I.ok.bs b o e).2 (I.ok.nofr e) (I.ok.noex b o e),I.base.free b o (I.ok.bs b o e).1 (I.ok.bs b o e).2 (I.ok.noex b o e)⟩
theorem Inv.bk (I:Inv X pins σ H s):∀b o,X.base.get? b=some o->s.heap.get? b=some o:=λb o e=>(I.bs b o e).1
theorem Inv.mod (I:Inv X pins σ H s):Mod X.K X.mg X.base:=I.ok.mod
theorem Inv.kIn (I:Inv X pins σ H s):X.K.In s.heap:=I.ok.mod.kin.keeps I.bk
theorem Inv.lt (I:Inv X pins σ H s):X.env.locals<s.heap.objs.size:=let ⟨_,hn,_⟩:=I.loc;hn.lt
theorem Inv.sz (I:Inv X pins σ H s):X.s₀.heap.objs.size<=s.heap.objs.size:=QK I.ok.above (Nat.le_of_lt I.lt)
theorem Inv.nofs (I:Inv X pins σ H s) {a:Addr} (h:s.heap.objs.size<=a):a∉X.fs:=λhb=>by
 obtain⟨_,o,ho,_⟩:=I.ok.funs.mem hb;exact absurd (Qr (Qj ho) (QK I.sz h)) (xl _)
theorem Inv.cne (I:Inv X pins σ H s):∀x c,X.env.cells.lookup x=some c->c≠X.env.locals:=λx c e z=>by
 obtain⟨v,o,ho,hd⟩:=I.cell x c e;obtain⟨m,⟨o',es,ep,ho',hd',_⟩,_⟩:=I.loc;rw[z,ho']at ho;cases ho;rw[hd']at hd;cases hd
theorem Inv.funs (I:Inv X pins σ H s):s.heap.FunFrames X.base X.outer:=by
 have all:∀(l:List Env),(∀b∈frs l,b∈X.fs)->X.s₀.heap.FunFrames X.base l->s.heap.FunFrames X.base l:=by
  intro l
  induction l with
  | nil=>intro _ _;trivial
  | cons env r ih =>
  intro hs hl;obtain⟨hk,⟨L,o,hf,hn,ho,hd⟩,hr⟩:=hl;have hL:L∈X.fs:=hs L (by unfold frs;rw[Q7,hf];exact QZ);obtain⟨sl,e⟩:=I.base.slot L o ho (I.ok.frf L hL) hL λz=>I.ok.exfs L z hL;exact⟨hk,⟨L,_,hf,hn,e,hd⟩,ih (λb hb=>hs b (by unfold frs;rw[Q7,hf];exact Qv _ hb)) hr⟩
 exact all X.outer (λ_ hb=>hb) I.ok.funs
theorem Inv.stack (I:Inv X pins σ H s):s.heap.FunFrames X.base X.stack:=by
 rcases I.ok.stk with e|⟨e,hf⟩
 ·rw[e];exact I.funs
 rw[e];obtain⟨m,hn,_⟩:=I.loc;refine .cons (by rw[I.ok.kind];decide) hf hn ?_ I.funs;exact Heap.get?_none_of_le (QK I.ok.bsz I.ok.above)
theorem Inv.stkSub (I:Inv X pins σ H s):∀b∈frs X.stack,b∈X.env.locals::X.fs:=λb hb=>by
 rcases I.ok.stk with e|⟨e,hf⟩
 ·rw[e]at hb;exact Qv _ hb
 rw[e]at hb;unfold frs at hb;rw[Q7,hf]at hb;exact hb
theorem Inv.stkFree (I:Inv X pins σ H s):∀b∈frs X.stack,H b=none:=λb hb=>by
 rcases QE.mp (I.stkSub b hb) with e|hb
 ·rw[e];exact I.free
 obtain⟨_,o,ho,_⟩:=I.ok.funs.mem hb;exact I.base.free b o ho (I.ok.frf b hb) λz=>I.ok.exfs b z hb
theorem Inv.step {g':Array GenState} {t':Nat} {d':Drawn} {ch:List Addr} (I:Inv X pins σ H s)
  (hch:∀b∈ch,(b∈X.ex\/X.s₀.heap.objs.size<=b)/\b≠X.env.locals/\(∀x c,X.env.cells.lookup x=some c->c≠b)/\∀p∈X.pn++pins,p.1≠b)
  (keep:∀b o,b≠X.env.locals->b∉X.fs->b∉ch->s.heap.get? b=some o->H b=none->h'.get? b=some o)
  (slot:∀b o,b≠X.env.locals->b∈X.fs->b∉ch->s.heap.get? b=some o->H b=none->∃sl,h'.get? b=some { o with slots:=sl }) (free:∀b o,b∉ch->s.heap.get? b=some o->H b=none->H' b=none)
  (there:∀b o,b∉ch->s.heap.get? b=some o->∃o',h'.get? b=some o')
  (tups:∀b xs,H b=some (.tup xs)->H' b=some (.tup xs)) (frzs:∀b o u,H b=some (.frz o u)->H' b=some (.frz o u)) (tbls:∀b ps,H b=some (.tbl ps)->∃more,H' b=some (.tbl (ps++more)))
  (ns:∀m,s.heap.Ns X.env.locals m->h'.Ns X.env.locals m) (hok:HOk X.prog X.w H' h') (hg:AllBare g') :
  Inv X pins σ H' { s with heap:=h',gens:=g',drawn:=d',toks:=t' }:=by
 have neL:∀b o,X.s₀.heap.get? b=some o->b≠X.env.locals:=λb o e=>Qp (Qr (Qj e) I.ok.above)
 have neC:∀b o,X.s₀.heap.get? b=some o->b∉X.ex->b∉ch:=λb o e hx hb=>by
  rcases(hch b hb).1 with z|z
  ·exact hx z
  exact absurd (Qr (Qj e) z) (xl _)
 have cellK:∀x c,X.env.cells.lookup x=some c->∀v,s.heap.IsCell c v->h'.IsCell c v:=λx c e v ⟨o,ho,hd⟩=>by
  have nch:c∉ch:=λz=>(hch c z).2.2.1 x c e rfl;by_cases hc:c∈X.fs
  ·obtain⟨sl,q⟩:=slot c o (I.cne x c e) hc nch ho (I.freeC x c e);exact⟨_,q,hd⟩
  exact⟨o,keep c o (I.cne x c e) hc nch ho (I.freeC x c e),hd⟩
 refine⟨I.ok,I.os,hg,⟨λb o e n hb hx=>?_,λb o e n hb hx=>?_,λb o e n hx=>?_,λb o e hx=>?_,λb xs e=>tups b xs (I.base.tups b xs e),λb o xs e=>frzs b o xs (I.base.frzs b o xs e),λb ps e=>?_⟩,?_,λx c e=>?_,?_,λx c e=>?_,λp hp=>?_,hok,I.len⟩
 ·exact keep b o (neL b o e) hb (neC b o e hx) (I.base.keep b o e n hb hx) (I.base.free b o e n hx)
 ·obtain⟨sl,e1⟩:=I.base.slot b o e n hb hx;obtain⟨sl',e2⟩:=slot b _ (neL b o e) hb (neC b o e hx) e1 (I.base.free b o e n hx);exact⟨sl',e2⟩
 ·obtain⟨o',e1⟩:=I.base.there b o e hx;exact free b o' (neC b o e hx) e1 (I.base.free b o e n hx)
 ·obtain⟨o',e1⟩:=I.base.there b o e hx;exact there b o' (neC b o e hx) e1
 ·obtain⟨m1,e1⟩:=I.base.tbls b ps e;obtain⟨m2,e2⟩:=tbls b _ e1;exact⟨m1++m2,by rw[e2,Array.append_assoc]⟩
 ·obtain⟨m,hn,hl⟩:=I.loc;refine⟨m,ns m hn,λi x v e1 e2 e3=>?_⟩;obtain⟨u,r,l⟩:=hl i x v e1 e2 e3;refine⟨u,r,?_⟩;rcases l with l|⟨k,c,e,z⟩
  ·exact .inl l
  exact .inr ⟨k,c,e,cellK x c e _ z⟩
 ·obtain⟨v,z⟩:=I.cell x c e;exact⟨v,cellK x c e v z⟩
 ·obtain⟨m,⟨o,_,_,ho,_⟩,_⟩:=I.loc;exact free _ o (λz=>(hch _ z).2.1 rfl) ho I.free
 ·obtain⟨v,o,ho,hd⟩:=I.cell x c e;exact free c o (λz=>(hch c z).2.2.1 x c e rfl) ho (I.freeC x c e)
 obtain⟨e,n,ne,nf,d⟩:=I.pin p hp;have nch:p.1∉ch:=λz=>(hch p.1 z).2.2.2 p hp rfl;exact⟨keep p.1 p.2 ne nf nch e n,free p.1 p.2 nch e n,ne,nf,d⟩
theorem Inv.un {t':Nat} (I:Inv X pins σ H s) (u:Un X.fs [] H H' s.heap h') (hok:HOk X.prog X.w H' h'):Inv X pins σ H' { s with heap:=h',toks:=t' }:=by
 obtain⟨m,⟨o,es,ep,ho,r⟩,_⟩:=id I.loc;obtain⟨sl,hL⟩:=u.any ho I.free (by simp)
 exact I.step (g':=s.gens) (d':=s.drawn) (ch:=[]) (λ_ z=>nomatch z) (λb o _ hb _ e n=>u.keep b o e n hb (by simp)) (λb o _ hb _ e n=>u.slot b o e n hb (by simp)) (λb o _ e n=>u.free b o e n (by simp)) (λb o _ e=>u.there b o e (by simp)) u.tups u.frzs u.tbls (λm' hm=>by
  obtain⟨o',es',ep',ho',r'⟩:=hm;rw[ho]at ho';cases ho'
  exact⟨_,es',ep',hL,r'⟩) hok I.bare
theorem Inv.call {g':Array GenState} {t':Nat} {d':Drawn} {ch:List Addr} (I:Inv X pins σ H s) (u:Un (frs X.stack) ch H H' s.heap h') (hok:HOk X.prog X.w H' h') (hg:AllBare g')
  (hch:∀b∈ch,(b∈X.ex\/X.s₀.heap.objs.size<=b)/\b≠X.env.locals/\(∀x c,X.env.cells.lookup x=some c->c≠b)/\∀p∈X.pn++pins,p.1≠b) :
  Inv X pins σ H' { s with heap:=h',gens:=g',drawn:=d',toks:=t' }:=by
 obtain⟨m,⟨o,es,ep,ho,r⟩,_⟩:=id I.loc;obtain⟨sl,hL⟩:=u.any ho I.free λz=>(hch _ z).2.1 rfl
 exact I.step (ch:=ch) hch (λb o hL hb hc e n=>u.keep b o e n (λz=>(QE.mp (I.stkSub b z)).elim hL hb) hc) (λb o _ _ hc e n=>u.any e n hc) (λb o hc e n=>u.free b o e n hc) (λb o hc e=>u.there b o e hc) u.tups u.frzs u.tbls (λm' hm=>by
  obtain⟨o',es',ep',ho',r'⟩:=hm;rw[ho]at ho';cases ho'
  exact⟨_,es',ep',hL,r'⟩) hok hg
theorem Inv.turned {t':Nat} {it:Addr} (I:Inv X pins σ H s) (k:∀b o,b≠it->s.heap.get? b=some o->h'.get? b=some o) (hn:H it=none) (hL:it≠X.env.locals)
  (h1:it∈X.ex\/X.s₀.heap.objs.size<=it) (h2:∀x c,X.env.cells.lookup x=some c->c≠it) (h3:∀p∈X.pn++pins,p.1≠it):Inv X pins σ H { s with heap:=h',toks:=t' }:=by
 have nit:∀b u,H b=some u->b≠it:=λb u e z=>by rw[z,hn]at e;cases e
 refine I.step (g':=s.gens) (d':=s.drawn) (ch:=[it]) (λb hb=>?_) (λb o _ _ hc e _=>k b o (λz=>hc (by simp[z])) e) (λb o _ _ hc e _=>⟨o.slots,k b o (λz=>hc (by simp[z])) e⟩) (λ_ _ _ _ n=>n)
  (λb o hc e=>⟨o,k b o (λz=>hc (by simp[z])) e⟩) (λ_ _ e=>e) (λ_ _ _ e=>e) (λb ps e=>⟨#[],by rw[e];simp⟩) (λm hm=>?_) (λb u e=>?_) I.bare
 ·have e:b=it:=by simpa using hb
  subst e;exact⟨h1,hL,h2,h3⟩
 ·obtain⟨o,es,ep,ho,r⟩:=hm;exact⟨o,es,ep,k _ o (Ne.symm hL) ho,r⟩
 refine(I.hok b u e).stay (λc v hc q=>k c v ?_ q) (λ_ q=>q) λ_ _ q=>q;rcases hc with z|z
 ·rw[z];exact nit b u e
 exact nit c _ z
theorem Inv.tok (I:Inv X pins σ H s) (t:Nat):Inv X pins σ H { s with toks:=t }:=I.un (h':=s.heap) (t':=t) Un.refl I.hok
theorem Inv.kept {t':Nat} (I:Inv X pins σ H s) (k:∀b u,s.heap.get? b=some u->h'.get? b=some u):Inv X pins σ H { s with heap:=h',toks:=t' }:=I.un (Un.kept k) (I.hok.kept k)
theorem Inv.laid {a:Addr} {o:HO} {t':Nat} (I:Inv X pins σ H s) (k:∀b u,s.heap.get? b=some u->h'.get? b=some u) (hp:s.heap.objs.size<=a) (new:bc X.prog X.w (upd H a o) h' a o) :
  Inv X pins σ (upd H a o) { s with heap:=h',toks:=t' }:=I.un (Un.laid k hp (I.hok.fresh hp)) (I.hok.laid k hp new)
theorem Inv.write {x e:Addr} {o:HO} {t':Nat} (I:Inv X pins σ H s) (mu:Mut (H x)) (he:e=x\/H e=some (.own x)) (k:∀b u,b≠e->s.heap.get? b=some u->h'.get? b=some u) (heo:∃u,h'.get? e=some u)
  (new:bc X.prog X.w (upd H x o) h' x o):Inv X pins σ (upd H x o) { s with heap:=h',toks:=t' }:=I.un (Un.write mu he k heo) (I.hok.write mu he k heo new)
theorem Inv.weak {σ':List (Option V)} (I:Inv X pins σ H s) (hl:σ'.length=σ.length) (w:∀(i:Nat) v,σ'[i]?=some (some v)->σ[i]?=some (some v)):Inv X pins σ' H s :=
 ⟨I.ok,I.os,I.bare,I.base,let ⟨m,hn,hl'⟩:=I.loc;⟨m,hn,λi x v e1 e2 e3=>hl' i x v e1 (w i v e2) e3⟩,I.cell,I.free,I.freeC,I.pin,I.hok,hl.trans I.len⟩
theorem Inv.pins_of {pins':List (Addr × Obj)} (I:Inv X pins σ H s) (h:∀p∈pins',s.heap.get? p.1=some p.2/\H p.1=none/\p.1≠X.env.locals/\p.1∉X.fs/\∀v,p.2.data≠.cell v):Inv X pins' σ H s :=
 ⟨I.ok,I.os,I.bare,I.base,I.loc,I.cell,I.free,I.freeC,λp hp=>(Qt.mp hp).elim (λz=>I.pin p (List.mem_append_left _ z)) (h p),I.hok,I.len⟩
theorem kX {N:List Str} (hN:N.Nodup) {i j:Nat} {x:Str} (a:N[i]?=some x) (b:N[j]?=some x):i=j:=by
 obtain⟨h1,e1⟩:=Qc.mp a;obtain⟨h2,e2⟩:=Qc.mp b;exact(List.getElem_inj hN).mp (e1.trans e2.symm)
variable {Q:Unit->Shared->Prop} {E:Value->Shared->Prop}
theorem jm {M:Model} {A:Around} {i:Nat} {x:Str} {v:V} {u:Value} (I:Inv X pins σ H s) (hN:X.N.Nodup) (hi:X.N[i]?=some x) (hx:Loc X.env.scope x) (r:aO v u)
  (h:∀s',Inv X pins (σ.set i (some v)) H s'->(∃a,Heap.SameBut a s.heap s'.heap/\(a=X.env.locals\/X.env.cells.lookup x=some a))->Q () s') (hf:X.fn x=true\/X.env.scope.names.lookup x=some .local:=by walk_at "z"):wpAny M A (storeName X.env x u) Q E s:=by
 obtain⟨m,hn,hl⟩:=id I.loc;have hcls:(X.env.scope.kind==.class || (X.env.scope.kind==.module&&X.env.locals != X.env.globals))=false:=by rw[I.ok.kind];rfl
 have hiσ:i<σ.length:=by rw[I.len];exact(Qc.mp hi).1
 have cne:=I.cne
 have tracked:∀{a:Addr} {h':Heap},(∃o,s.heap.get? a=some o/\H a=none)->Heap.SameBut a s.heap h'->HOk X.prog X.w H h':=λ{a h'} ha hs b ob e=>by
  obtain⟨_,_,hfree⟩:=ha;refine(I.hok b ob e).stay (λc w' hc q=>(hs.2 c ?_).trans q) (λ_ q=>q) λ_ _ q=>q;rintro rfl;rcases hc with rfl|hc
  ·rw[hfree]at e;cases e
  rw[hfree]at hc;cases hc
 rcases hx with hk|hk
 ·refine wpAny_storeName_local hk hn (λh' hn' hs=>?_) hcls;obtain⟨oL,_,_,hoL,_⟩:=id hn;refine h _ ⟨I.ok,I.os,I.bare,⟨λb o e n hb hx=>?_,λb o e n hb hx=>?_,I.base.free,λb o e hx=>?_,I.base.tups,I.base.frzs,I.base.tbls⟩,⟨_,hn',λj y v' e1 e2 e3=>?_⟩,λy c e=>?_,I.free,I.freeC,λp hp=>?_,tracked ⟨oL,hoL,I.free⟩ hs,by simpa using I.len⟩ ⟨_,hs,.inl rfl⟩
  ·exact(hs.2 b (Qp (Qr (Qj e) I.ok.above))).trans (I.base.keep b o e n hb hx)
  ·obtain⟨sl,e1⟩:=I.base.slot b o e n hb hx;exact⟨sl,(hs.2 b (Qp (Qr (Qj e) I.ok.above))).trans e1⟩
  ·obtain⟨o',e1⟩:=I.base.there b o e hx;exact⟨o',(hs.2 b (Qp (Qr (Qj e) I.ok.above))).trans e1⟩
  ·by_cases hj:j=i
   ·subst hj;rw[hi]at e1;cases e1;rw[List.getElem?_set_self hiσ]at e2;cases e2;exact⟨u,r,.inl ⟨hk,by simp⟩⟩
   rw[List.getElem?_set_ne (Ne.symm hj)]at e2;obtain⟨u',r',q⟩:=hl j y v' e1 e2 e3;refine⟨u',r',?_⟩;rcases q with⟨k,e⟩|⟨k,c,e,z⟩
   ·refine .inl ⟨k,?_⟩;have:y≠x:=λe=>hj (kX hN e1 (e▸hi));simp[this,e]
   exact .inr ⟨k,c,e,z.sameBut hs (cne y c e)⟩
  ·obtain⟨w',z⟩:=I.cell y c e;exact⟨w',z.sameBut hs (cne y c e)⟩
  obtain⟨e,n,ne,nf,d⟩:=I.pin p hp;exact⟨(hs.2 p.1 ne).trans e,n,ne,nf,d⟩
 have hfn:X.fn x=true:=by
  rcases hf with z|z
  ·exact z
  rw[z]at hk;cases hk
 obtain⟨c,hc⟩:=I.ok.has x (.inl hk);obtain⟨w',z⟩:=I.cell x c hc;refine wpAny_storeName_cell I.ok.kind hk hc z (λh' hc' hs=>?_);obtain⟨oc,hoc,hocd⟩:=id z;refine h { s with heap:=h' } ⟨I.ok,I.os,I.bare,⟨λb o e n hb hx=>?_,λb o e n hb hx=>?_,I.base.free,λb o e hx=>?_,I.base.tups,I.base.frzs,I.base.tbls⟩,⟨m,hn.sameBut hs (Ne.symm (cne x c hc)),λj y v' e1 e2 e3=>?_⟩,λy c' e=>?_,I.free,I.freeC,λp hp=>?_,tracked ⟨oc,hoc,I.freeC x c hc⟩ hs,by simpa using I.len⟩ ⟨c,hs,.inr hc⟩
 ·exact(hs.2 b (Qp (Qr (Qj e) (I.ok.cab x c hfn hc)))).trans (I.base.keep b o e n hb hx)
 ·obtain⟨sl,e1⟩:=I.base.slot b o e n hb hx;exact⟨sl,(hs.2 b (Qp (Qr (Qj e) (I.ok.cab x c hfn hc)))).trans e1⟩
 ·obtain⟨o',e1⟩:=I.base.there b o e hx;exact⟨o',(hs.2 b (Qp (Qr (Qj e) (I.ok.cab x c hfn hc)))).trans e1⟩
 ·by_cases hj:j=i
  ·subst hj;rw[hi]at e1;cases e1;rw[List.getElem?_set_self hiσ]at e2;cases e2;exact⟨u,r,.inr ⟨.inl hk,c,hc,hc'⟩⟩
  rw[List.getElem?_set_ne (Ne.symm hj)]at e2;obtain⟨u',r',q⟩:=hl j y v' e1 e2 e3;refine⟨u',r',?_⟩;rcases q with q|⟨k,c',e,z'⟩
  ·exact .inl q
  refine .inr ⟨k,c',e,z'.sameBut hs ?_⟩;rintro rfl;exact hj (kX hN e1 (I.ok.inj _ _ _ e hc▸hi))
 ·by_cases hcc:c'=c
  ·subst hcc;exact⟨_,hc'⟩
  obtain⟨w2,z2⟩:=I.cell y c' e;exact⟨w2,z2.sameBut hs hcc⟩
 obtain⟨e,n,ne,nf,d⟩:=I.pin p hp;refine⟨(hs.2 p.1 ?_).trans e,n,ne,nf,d⟩;intro q;rw[q,hoc]at e;have q':oc=p.2:=QR e;exact d w' (by rw[<-q'];exact hocd)
theorem gW {M:Model} {A:Around} {i:Nat} {x:Str} {v:V} {u:Value} (I:Inv X pins σ H s) (hN:X.N.Nodup) (hi:X.N[i]?=some x) (hx:Loc X.env.scope x) (r:aO v u)
  (h:∀s',Inv X pins (σ.set i (some v)) H s'->Q () s') (hf:X.fn x=true\/X.env.scope.names.lookup x=some .local:=by walk_at "z"):wpAny M A (storeName X.env x u) Q E s :=
 jm I hN hi hx r (λs' I' _=>h s' I') hf
theorem Inv.call' {s':Shared} {ch:List Addr} (I:Inv X pins σ H s) (ho:s'.os=s.os) (u:Un (frs X.stack) ch H H' s.heap s'.heap) (hok:HOk X.prog X.w H' s'.heap) (hg:AllBare s'.gens)
  (hch:∀b∈ch,(b∈X.ex\/X.s₀.heap.objs.size<=b)/\b≠X.env.locals/\(∀x c,X.env.cells.lookup x=some c->c≠b)/\∀p∈X.pn++pins,p.1≠b):Inv X pins σ H' s':=by
 obtain⟨h',g',d',t',o'⟩:=s';have e:o'=s.os:=ho;subst e;exact I.call (g':=g') (t':=t') (d':=d') u hok hg hch
end
abbrev XK:=Value->Option Addr->Hp->Prop
abbrev St:=List (Option V)
abbrev VK:=V->Hp->Prop
abbrev TE:=St->Hp->VK->Prop
abbrev TT:=St->Hp->(Bool->Hp->Prop)->Prop
abbrev TA:=St->Hp->(List V->Hp->Prop)->Prop
structure Ends where
 nx:St->Hp->Prop
 rt:VK
 bk:St->Hp->Prop:=λ_ _=>False
 ct:St->Hp->Prop:=λ_ _=>False
abbrev TS:=Ends->St->Hp->Prop
def EP (X:Cx) (pins:List (Addr × Obj)) (σ:St) (Q:VK) (u:Value) (s':Shared):Prop:=∃v H',Inv X pins σ H' s'/\aO v u/\Q v H'
def TP (X:Cx) (pins:List (Addr × Obj)) (σ:St) (Q:Bool->Hp->Prop) (b:Bool) (s':Shared):Prop:=∃H',Inv X pins σ H' s'/\Q b H'
def AP (X:Cx) (pins:List (Addr × Obj)) (σ:St) (Q:List V->Hp->Prop) (us:List Value) (s':Shared):Prop:=∃vs H',Inv X pins σ H' s'/\aW vs us/\Q vs H'
def SP (X:Cx) (pins:List (Addr × Obj)) (D:Ends) (f:Flow) (s':Shared):Prop :=
 match f with
 | .next=>∃σ' H',Inv X pins σ' H' s'/\D.nx σ' H'
 | .brk=>∃σ' H',Inv X pins σ' H' s'/\D.bk σ' H'
 | .cont=>∃σ' H',Inv X pins σ' H' s'/\D.ct σ' H'
 | .ret u=>∃v σ' H',Inv X pins σ' H' s'/\aO v u/\D.rt v H'
def PE (X:Cx) (e:Expr) (t:TE):Prop :=
 ∀(pins:List (Addr × Obj)) (s:Shared) (σ:St) (H:Hp) (Q:VK),Inv X pins σ H s->t σ H Q->wpAny (model X.prog X.w) X.A (eval e X.env) (EP X pins σ Q) X.xe s
def PT (X:Cx) (e:Expr) (t:TT):Prop :=
 ∀(pins:List (Addr × Obj)) (s:Shared) (σ:St) (H:Hp) (Q:Bool->Hp->Prop),Inv X pins σ H s->t σ H Q->wpAny (model X.prog X.w) X.A (isTrue e X.env (eval e X.env)) (TP X pins σ Q) X.xe s
def PW (X:Cx) (e:Expr) (t:TT):Prop :=
 ∀(whole:Sem Value) (pins:List (Addr × Obj)) (s:Shared) (σ:St) (H:Hp) (Q:Bool->Hp->Prop),Inv X pins σ H s->t σ H Q->wpAny (model X.prog X.w) X.A (isTrue e X.env whole) (TP X pins σ Q) X.xe s
variable {e tg:Expr} {X:Cx}
theorem PW.pt {t:TT} (h:PW X e t):PT X e t:=h _
def PA (X:Cx) (es:List Expr) (t:TA):Prop :=
 ∀(pos:Pos) (pins:List (Addr × Obj)) (s:Shared) (σ:St) (H:Hp) (Q:List V->Hp->Prop),Inv X pins σ H s->t σ H Q->wpAny (model X.prog X.w) X.A (spliced (backTo pos (starEach es X.env))) (AP X pins σ Q) X.xe s
def PS (X:Cx) (st:Stmt) (t:TS):Prop :=
 ∀(pins:List (Addr × Obj)) (s:Shared) (σ:St) (H:Hp) (D:Ends),Inv X pins σ H s->t D σ H->wpAny (model X.prog X.w) X.A (exec st X.env) (SP X pins D) X.xe s
def PSs (X:Cx) (st:List Stmt) (t:TS):Prop :=
 ∀(pins:List (Addr × Obj)) (s:Shared) (σ:St) (H:Hp) (D:Ends),Inv X pins σ H s->t D σ H->wpAny (model X.prog X.w) X.A (execs st X.env) (SP X pins D) X.xe s
variable {E:Value->Shared->Prop} {A:Around}
theorem thn {α:Type} {t:Sem α} {Q Q':α->Shared->Prop} {M:Model} {s:Shared} (h:wpAny M A t Q E s) (hQ:∀a s,Q a s->Q' a s):wpAny M A t Q' E s:=Q4 h hQ λ_ _ x=>x
section
variable {X:Cx}
def dE (i:Nat):TE:=λσ H Q=>∃v,σ[i]?=some (some v)/\Q v H
def tC (v:V):TE:=λ_ H Q=>Q v H
variable {x:Str}
theorem uf {i:Nat} {pos:Pos} (hN:X.N[i]?=some x) (hv:Vis X.env.scope x) (hd:(x==("__debug__" : Str))=false:=by decide) (hcd:(x==("__classdict__" : Str))=false:=by decide):PE X (.Name x pos) (dE i):=by
 intro pins s σ H Q I h;obtain⟨v,e,h⟩:=h;obtain⟨m,hn,hl⟩:=I.loc;obtain⟨u,r,l⟩:=hl i x v hN e hv;have fin:EP X pins σ Q u s:=⟨v,H,I,r,h⟩;rcases l with⟨hk,hm⟩|⟨hk,c,hc,hcell⟩
 ·exact wpAny_Name (wpAny_loadName_local I.ok.kind hk hn hm fin) hd
 rcases hk with hk|hk
 ·exact wpAny_Name (wpAny_loadName_cell I.ok.kind hk hc hcell fin) hd
 exact wpAny_Name (wpAny_loadName_free I.ok.kind hk hc hcell fin hcd) hd
theorem ak {i j pos}:PE X (.Constant (.int i) j pos) (tC (.int i)):=λ_ _ _ H _ I h=>wpAny_Constant_int ⟨.int i,H,I.tok _,⟨_,rfl⟩,h⟩
theorem cN {b j pos}:PE X (.Constant (.bool b) j pos) (tC (.bl b)):=λ_ _ _ H _ I h=>Constant_bool ⟨.bl b,H,I,rfl,h⟩
theorem iz {j pos}:PE X (.Constant .none j pos) (tC .non):=λ_ _ _ H _ I h=>Constant_none ⟨.non,H,I,rfl,h⟩
theorem aM {x j pos}:PE X (.Constant (.str x) j pos) (tC (.str x)):=λ_ _ _ H _ I h=>Calls.Constant_str ⟨.str x,H,I.tok _,⟨_,rfl⟩,h⟩
def Gl (X:Cx) (x:Str):Prop:=X.env.kindOf x=some .globalImplicit
variable {Q E:Value->Shared->Prop} {u:Value} {pins:List (Addr × Obj)}
theorem j9 {s:Shared} {σ:St} {H:Hp} {pos:Pos} (I:Inv X pins σ H s) (hg:Gl X x) (hm:X.mg x=some u) (h:Q u s)
  (hd:(x==("__debug__" : Str))=false:=by decide):wpAny (model X.prog X.w) X.A (eval (.Name x pos) X.env) Q E s :=
 Calls.Name_function_global I.ok.kind hg (Calls.loadGlobal_global (by rw[I.ok.glob];exact I.mod.glob.keeps I.bk) hm h) hd
theorem cK {s:Shared} {σ:St} {H:Hp} {pos:Pos} (I:Inv X pins σ H s) (hg:Gl X x) (hm:X.mg x=none) (hv:bootBuiltins x=some u) (h:Q u s)
  (hn:x ≠ "__name__" := by decide) (hd:(x==("__debug__" : Str))=false:=by decide):wpAny (model X.prog X.w) X.A (eval (.Name x pos) X.env) Q E s:=by
 obtain⟨mb,h1,h2⟩:=I.mod.blt;exact Calls.Name_function_global I.ok.kind hg (Calls.loadGlobal_builtin (by rw[I.ok.glob];exact I.mod.glob.keeps I.bk) hm (by rw[I.ok.blt];exact h1.keeps I.bk) ((h2 x hn).trans hv) h) hd
theorem dm {v:V} {pos:Pos} (hg:Gl X x) (hm:X.mg x=some u) (r:aO v u) (hd:(x==("__debug__" : Str))=false:=by decide):PE X (.Name x pos) (tC v) :=
 λ_ _ _ H _ I h=>j9 I hg hm ⟨v,H,I,r,h⟩ hd
theorem cG {v:V} {pos:Pos} (hg:Gl X x) (hm:X.mg x=none) (hv:bootBuiltins x=some u) (r:aO v u) (hn:x ≠ "__name__" := by decide) (hd:(x==("__debug__" : Str))=false:=by decide):PE X (.Name x pos) (tC v) :=
 λ_ _ _ H _ I h=>cK I hg hm hv ⟨v,H,I,r,h⟩ hn hd
variable {a b:Expr} {ta tb:TE} {pos:Pos}
def PC (X:Cx) (op:CmpOp) (a b:Expr) (t:TE):Prop :=
 ∀(pins:List (Addr × Obj)) (s:Shared) (σ:St) (H:Hp) (Q:VK),Inv X pins σ H s->t σ H Q ->
  wpAny (model X.prog X.w) X.A (eval a X.env) (λv s₁=>wpAny (model X.prog X.w) X.A (eval b X.env) (λu s₂=>wpAny (model X.prog X.w) X.A (compareOp op v u) (EP X pins σ Q) X.xe s₂) X.xe s₁) X.xe s
def tB (t:TE):TT:=λσ H Q=>t σ H λx H1=>∃c,x=.bl c/\Q c H1
theorem pJ {op:CmpOp} {t:TE} (h:PC X op a b t) (h1:behindInMarks op b=false:=by first|exact nobehind _ (by decide) (by decide)|rfl):PT X (.Compare a [op] [b] pos) (tB t):=by
 intro pins s σ H Q I hw;refine wpAny_isTrue_Compare1 (thn (h pins s σ H _ I hw) λv s1 h1=>thn h1 λu s2 h2=>thn h2 λc s3 ⟨x,H1,I1,r1,q1⟩=>?_) h1;obtain⟨d,rfl,q⟩:=q1;cases r1;exact Q3 ⟨H1,I1,q⟩
theorem bL {e:Expr} {t:TE} (h:PE X e t) (he:∀whole,isTrue e X.env whole=(do let v <-whole;standAt e.pos;holding [v] (truthy v)):=by intro _;rfl):PT X e (tB t):=by
 intro pins s σ H Q I hw;refine isTrue_plain (thn (h pins s σ H _ I hw) λv s1 ⟨x,H1,I1,r1,q1⟩=>?_) (he _);obtain⟨d,rfl,q⟩:=q1;cases r1;exact Q3 ⟨H1,I1,q⟩
variable {tA tB':TT} {rest:List Expr}
def uU (t u:TT):TT:=λσ H Q=>t σ H λc H1=>if c=true then u σ H1 Q else Q false H1
def tOr (t u:TT):TT:=λσ H Q=>t σ H λc H1=>if c=true then Q true H1 else u σ H1 Q
def uN (t:TT):TT:=λσ H Q=>t σ H λc H1=>Q (!c) H1
theorem fJ (ha:PT X a tA):PW X (.BoolOp .And [a] pos) tA:=by
 intro wh pins s σ H Q I h;refine isTrue_and (thn (ha pins s σ H Q I h) λc s1 e=>?_)
 cases c with
 | true=>exact isTrue_and_nil e
 | false=>exact e
theorem du (ha:PT X a tA):PW X (.BoolOp .Or [a] pos) tA:=by
 intro wh pins s σ H Q I h;refine isTrue_or (thn (ha pins s σ H Q I h) λc s1 e=>?_)
 cases c with
 | false=>exact isTrue_or_nil e
 | true=>exact e
theorem gc (ha:PT X a tA) (hb:PW X (.BoolOp .And (b::rest) pos) tB'):PW X (.BoolOp .And (a::b::rest) pos) (uU tA tB'):=by
 intro wh pins s σ H Q I h;refine isTrue_and (thn (ha pins s σ H _ I h) λc s1 ⟨H1,I1,q1⟩=>?_)
 cases c with
 | true=>exact hb wh pins s1 σ H1 Q I1 q1
 | false=>exact⟨H1,I1,q1⟩
theorem d9 (ha:PT X a tA) (hb:PW X (.BoolOp .Or (b::rest) pos) tB'):PW X (.BoolOp .Or (a::b::rest) pos) (tOr tA tB'):=by
 intro wh pins s σ H Q I h;refine isTrue_or (thn (ha pins s σ H _ I h) λc s1 ⟨H1,I1,q1⟩=>?_)
 cases c with
 | true=>exact⟨H1,I1,q1⟩
 | false=>exact hb wh pins s1 σ H1 Q I1 q1
theorem bM (ha:PT X a tA):PT X (.UnaryOp .Not a pos) (uN tA):=by
 intro pins s σ H Q I h;exact isTrue_not (ha pins s σ H (λc H1=>Q (!c) H1) I h)
def pk (ta tb:TE):TE:=λσ H Q=>ta σ H λx H1=>∃c,x=.bl c/\if c=true then tb σ H1 Q else Q (.bl false) H1
def tV (ta tb:TE):TE:=λσ H Q=>ta σ H λx H1=>∃c,x=.bl c/\if c=true then Q (.bl true) H1 else tb σ H1 Q
def sO (ta:TE):TE:=λσ H Q=>ta σ H λx H1=>∃c,x=.bl c/\Q (.bl (!c)) H1
theorem c7 {op} {t:TE} (h:PE X a t):PE X (.BoolOp op [a] pos) t:=λpins s σ H Q I hw=>BoolOp_one (h pins s σ H Q I hw)
theorem eC (ha:PE X a ta) (hb:PE X (.BoolOp .And (b::rest) pos) tb):PE X (.BoolOp .And (a::b::rest) pos) (pk ta tb):=by
 intro pins s σ H Q I h;refine BoolOp_and (thn (ha pins s σ H _ I h) λv s1 ⟨x,H1,I1,r1,q1⟩=>?_);obtain⟨c,rfl,q1⟩:=q1;cases r1;refine Q3 ?_
 cases c with
 | true=>exact hb pins s1 σ H1 Q I1 q1
 | false=>exact⟨.bl false,H1,I1,rfl,q1⟩
theorem pS (ha:PE X a ta) (hb:PE X (.BoolOp .Or (b::rest) pos) tb):PE X (.BoolOp .Or (a::b::rest) pos) (tV ta tb):=by
 intro pins s σ H Q I h;refine BoolOp_or (thn (ha pins s σ H _ I h) λv s1 ⟨x,H1,I1,r1,q1⟩=>?_);obtain⟨c,rfl,q1⟩:=q1;cases r1;refine Q3 ?_
 cases c with
 | false=>exact hb pins s1 σ H1 Q I1 q1
 | true=>exact⟨.bl true,H1,I1,rfl,q1⟩
theorem ug (ha:PE X a ta):PE X (.UnaryOp .Not a pos) (sO ta):=by
 intro pins s σ H Q I h;refine UnaryOp_ (thn (ha pins s σ H _ I h) λv s1 ⟨x,H1,I1,r1,q1⟩=>?_);obtain⟨c,rfl,q1⟩:=q1;cases r1;exact not_of (Q3 ⟨.bl (!c),H1,I1,rfl,q1⟩)
def tIf (t:TT) (ta tb:TE):TE:=λσ H Q=>t σ H λc H1=>if c=true then ta σ H1 Q else tb σ H1 Q
theorem pT {c:Expr} (hc:PT X c tA) (ha:PE X a ta) (hb:PE X b tb):PE X (.IfExp c a b pos) (tIf tA ta tb):=by
 intro pins s σ H Q I h;refine wpAny_IfExp (thn (hc pins s σ H _ I h) λd s1 ⟨H1,I1,q1⟩=>?_)
 cases d with
 | true=>exact ha pins s1 σ H1 Q I1 q1
 | false=>exact hb pins s1 σ H1 Q I1 q1
end
def SqL (K:PySem.W.Frag) (H:Hp) (a:Addr) (xs:List V):Prop :=
 Rd H a (.lst xs) \/
  ∃(o:Obj) (its:Array Value) (n:Nat),K.lookup a=some o/\o.cls=.type "list" /\ o.dict=none/\o.data=.seq its n/\its.size<=sizeLine/\aW xs its.toList
def SqT (K:PySem.W.Frag) (H:Hp) (a:Addr) (xs:List V):Prop :=
 Rd H a (.tup xs) \/
  ∃(o:Obj) (its:Array Value) (n:Nat),K.lookup a=some o/\o.cls=.type "tuple" /\ o.data=.seq its n/\its.size<=sizeLine/\aW xs its.toList
noncomputable def v8:Value->Option V
 | .none=>some .non
 | .bool b=>some (.bl b)
 | .int i _=>some (.int i)
 | .str x _=>some (.str x)
 | .bytes b _=>some (.byt b)
 | .float b _=>some (.flt b)
 | .ref a=>some (.ref a)
 | .type n=>some (.ty n)
 | _=>none
theorem aO.abs {x:V} (r:aO x u):v8 u=some x:=by
 cases x with
 | non=>cases r;rfl
 | bl _=>cases r;rfl
 | int _=>obtain⟨t,rfl⟩:=r;rfl
 | str _=>obtain⟨t,rfl⟩:=r;rfl
 | byt _=>obtain⟨t,rfl⟩:=r;rfl
 | flt _=>obtain⟨t,rfl⟩:=r;rfl
 | ref _=>cases r;rfl
 | ty _=>cases r;rfl
theorem aO.inj {x y:V} (r:aO x u) (q:aO y u):x=y:=QR (r.abs.symm.trans q.abs)
theorem aW.inj:∀{xs ys:List V} {us:List Value},aW xs us->aW ys us->xs=ys
 | _,_,_,.nil,.nil=>rfl
 | _,_,_,.cons r t,.cons r' t'=>by rw[r.inj r',aW.inj t t']
section
variable {X:Cx} {pins:List (Addr × Obj)} {σ:St} {H:Hp} {s:Shared} {a:Addr} {xs ys:List V}
theorem SqL.of {K:PySem.W.Frag} (h:H a=some (.lst xs)):SqL K H a xs:=.inl (.inl h)
theorem SqT.of {K:PySem.W.Frag} (h:H a=some (.tup xs)):SqT K H a xs:=.inl (.inl h)
theorem Inv.list (I:Inv X pins σ H s) (h:SqL X.K H a xs):∃its:List Value,aW xs its/\PlainL s.heap a its.toArray/\xs.length<=sizeLine:=by
 rcases h with h|⟨o,its,n,hk,hc,hd,hs,hz,r⟩
 ·obtain⟨z,its,n,r,e⟩:=h.ok I.hok;exact⟨its,r,⟨_,n,e,rfl,rfl,rfl⟩,z⟩
 refine⟨its.toList,r,⟨o,n,I.kIn a o hk,hc,hd,by simpa using hs⟩,?_⟩;have e:=r.length;simp only[QA]at e;omega
theorem Inv.tuple (I:Inv X pins σ H s) (h:SqT X.K H a xs):∃its:List Value,aW xs its/\IsTup s.heap a its.toArray/\xs.length<=sizeLine:=by
 rcases h with h|⟨o,its,n,hk,hc,hs,hz,r⟩
 ·obtain⟨z,its,r,p⟩:=h.ok I.hok;exact⟨its,r,p,z⟩
 refine⟨its.toList,r,⟨o,I.kIn a o hk,hc,n,by simpa using hs⟩,?_⟩;have e:=r.length;simp only[QA]at e;omega
theorem Inv.list_inj (I:Inv X pins σ H s) (h:SqL X.K H a xs) (h':SqL X.K H a ys):xs=ys:=by
 obtain⟨its,r,⟨o,n,e,_,_,d⟩,_⟩:=I.list h;obtain⟨its',r',⟨o',n',e',_,_,d'⟩,_⟩:=I.list h';rw[e]at e';cases e';rw[d]at d';injection d' with d1 _;have:its=its':=by simpa using congrArg Array.toList d1
 subst this;exact r.inj r'
theorem Inv.tuple_inj (I:Inv X pins σ H s) (h:SqT X.K H a xs) (h':SqT X.K H a ys):xs=ys:=by
 obtain⟨its,r,⟨o,e,_,n,d⟩,_⟩:=I.tuple h;obtain⟨its',r',⟨o',e',_,n',d'⟩,_⟩:=I.tuple h';rw[e]at e';cases e';rw[d]at d';injection d' with d1 _;have:its=its':=by simpa using congrArg Array.toList d1
 subst this;exact r.inj r'
end
abbrev Cx.wish (X:Cx) (E:Value->Shared->Prop):Cx:={ X with xe:=E }
abbrev Cx.nox (X:Cx):Cx:=X.wish λ_ _=>False
theorem Cx.Ok.wish (ok:X.Ok) (E:Value->Shared->Prop):(X.wish E).Ok :=
 ⟨ok.mod,ok.kind,ok.glob,ok.blt,ok.above,ok.inj,ok.has,ok.cab,ok.hd,ok.frames,ok.stk,ok.exf,ok.bs,ok.bsz,ok.noex,ok.exfs,ok.funs,ok.frf⟩
theorem Cx.Ok.unwish (ok:(X.wish E).Ok):X.Ok :=
 ⟨ok.mod,ok.kind,ok.glob,ok.blt,ok.above,ok.inj,ok.has,ok.cab,ok.hd,ok.frames,ok.stk,ok.exf,ok.bs,ok.bsz,ok.noex,ok.exfs,ok.funs,ok.frf⟩
section
variable {X:Cx} {pins:List (Addr × Obj)} {σ:St} {H:Hp} {s:Shared} {E:Value->Shared->Prop}
theorem Inv.wish (I:Inv X pins σ H s) (E:Value->Shared->Prop):Inv (X.wish E) pins σ H s:=⟨I.ok.wish E,I.os,I.bare,I.base,I.loc,I.cell,I.free,I.freeC,I.pin,I.hok,I.len⟩
theorem Inv.unwish (I:Inv (X.wish E) pins σ H s):Inv X pins σ H s:=⟨I.ok.unwish,I.os,I.bare,I.base,I.loc,I.cell,I.free,I.freeC,I.pin,I.hok,I.len⟩
theorem SP.unwish {D:Ends} {f:Flow} {s':Shared} (h:SP (X.wish E) pins D f s'):SP X pins D f s':=by
 cases f with
 | next=>obtain⟨σ',H',I,q⟩:=h;exact⟨σ',H',I.unwish,q⟩
 | brk=>obtain⟨σ',H',I,q⟩:=h;exact⟨σ',H',I.unwish,q⟩
 | cont=>obtain⟨σ',H',I,q⟩:=h;exact⟨σ',H',I.unwish,q⟩
 | ret u=>obtain⟨v,σ',H',I,r,q⟩:=h;exact⟨v,σ',H',I.unwish,r,q⟩
theorem PSs.nox {st:List Stmt} {t:TS} (h:PSs X.nox st t):PSs X st t:=λpins s σ H D I hw =>
 Q4 (h pins s σ H D (I.wish _) hw) (λ_ _ q=>q.unwish) λ_ _ z=>False.elim z
end
section
variable {X:Cx} {st:Stmt} {rest:List Stmt} {t u:TS} {e:Expr} {te:TE} {pos:Pos}
def sP:TS:=λD σ H=>D.nx σ H
def rC (t u:TS):TS:=λD σ H=>t { D with nx:=u D } σ H
theorem aV:PSs X [] sP:=λ_ _ σ H _ I h=>wpAny_execs_nil ⟨σ,H,I,h⟩
theorem aq (h1:PS X st t) (h2:PSs X rest u):PSs X (st::rest) (rC t u):=by
 intro pins s σ H D I h;refine wpAny_execs_cons (thn (h1 pins s σ H { D with nx:=u D } I h) λf s1 q=>?_)
 cases f with
 | next =>
  obtain⟨σ',H',I',q⟩:=q;exact h2 pins s1 σ' H' D I' q
 | ret v=>exact q
 | brk=>exact q
 | cont=>exact q
theorem aw (h1:PS X st t):PSs X [st] t:=by
 intro pins s σ H D I h;refine wpAny_execs_cons (thn (h1 pins s σ H D I h) λf s1 q=>?_)
 cases f with
 | next=>exact wpAny_execs_nil q
 | ret v=>exact q
 | brk=>exact q
 | cont=>exact q
theorem Inv.quiet {pins:List (Addr × Obj)} {σ:St} {H:Hp} {s:Shared} (I:Inv X pins σ H s):interactive X.env=false:=by simp[interactive,I.ok.kind]
def sR (te:TE):TS:=λD σ H=>te σ H λ_ H1=>D.nx σ H1
theorem bB (he:PE X e te) (hs:swapsWith e none pos.line X.env=pure false:=by rfl):PS X (.Expr e pos) (sR te):=by
 intro pins s σ H D I h;exact wpAny_Expr_any (thn (he pins s σ H _ I h) λv s1 ⟨x,H1,I1,r1,q1⟩=>⟨σ,H1,I1,q1⟩) I.quiet hs
def uM (te:TE):TS:=λD σ H=>te σ H D.rt
theorem ax (he:PE X e te):PS X (.Return (some e) pos) (uM te):=by
 intro pins s σ H D I h;exact wpAny_Return_some (thn (he pins s σ H _ I h) λv s1 ⟨x,H1,I1,r1,q1⟩=>⟨x,σ,H1,I1,r1,q1⟩)
def uP (c:TT) (t u:TS):TS:=λD σ H=>c σ H λb H1=>if b=true then t D σ H1 else u D σ H1
theorem bI {c:Expr} {a b:List Stmt} {tc:TT} (hc:PT X c tc) (ha:PSs X a t) (hb:PSs X b u):PS X (.If c a b pos) (uP tc t u):=by
 intro pins s σ H D I h;refine wpAny_If (thn (hc pins s σ H _ I h) λd s1 ⟨H1,I1,q1⟩=>?_)
 cases d with
 | true=>exact ha pins s1 σ H1 D I1 q1
 | false=>exact hb pins s1 σ H1 D I1 q1
def tW:TS:=λ_ _ _=>False
theorem dH {sts:List Stmt}:PSs X sts tW:=λ_ _ _ _ _ _ h=>h.elim
end
abbrev TG:=V->St->Hp->(St->Hp->Prop)->Prop
abbrev TGs:=List V->St->Hp->(St->Hp->Prop)->Prop
def PG (X:Cx) (target:Expr) (t:TG):Prop :=
 ∀(pins:List (Addr × Obj)) (s:Shared) (σ:St) (H:Hp) (v:V) (u:Value) (Q:St->Hp->Prop),Inv X pins σ H s->aO v u->t v σ H Q ->
  wpAny (model X.prog X.w) X.A (assign target X.env u) (λ_ s'=>∃σ' H',Inv X pins σ' H' s'/\Q σ' H') X.xe s
def PGs (X:Cx) (ts:List Expr) (t:TGs):Prop :=
 ∀(pins:List (Addr × Obj)) (s:Shared) (σ:St) (H:Hp) (vs:List V) (us:List Value) (Q:St->Hp->Prop),Inv X pins σ H s->aW vs us->t vs σ H Q ->
  wpAny (model X.prog X.w) X.A (assignInOrder ((assignEach ts X.env).map (·.2)) us) (λ_ s'=>∃σ' H',Inv X pins σ' H' s'/\Q σ' H') X.xe s
abbrev vV:=V->V->V->Hp->(Hp->Prop)->Prop
abbrev TIp:=V->V->Hp->VK->Prop
def PIp (X:Cx) (op:Operator) (t:TIp):Prop :=
 ∀(pins:List (Addr × Obj)) (s:Shared) (σ:St) (H:Hp) (x y:V) (v u:Value) (Q:VK),Inv X pins σ H s->aO x v->aO y u->t x y H Q ->
  wpAny (model X.prog X.w) X.A (inplaceOp op v u) (EP X pins σ Q) X.xe s
section
variable {X:Cx} {pos:Pos}
def ee (i:Nat):TG:=λv σ H Q=>Q (σ.set i (some v)) H
variable {x:Str}
theorem aZ {i:Nat} (hN:X.N.Nodup) (hi:X.N[i]?=some x) (hx:Loc X.env.scope x) (hf:X.fn x=true\/X.env.scope.names.lookup x=some .local:=by walk_at "z"):PG X (.Name x pos) (ee i):=by
 intro pins s σ H v u Q I r h;exact wpAny_assign_Name (gW I hN hi hx r (λs' I'=>⟨_,H,I',h⟩) hf)
theorem bW (i:Nat) (hN:X.N.Nodup) (hi:X.N[i]?=some x:=by rfl) (hx:Loc X.env.scope x:=by walk_at "z") (hf:X.fn x=true\/X.env.scope.names.lookup x=some .local:=by walk_at "z"):PG X (.Name x pos) (ee i):=aZ hN hi hx hf
def vS:TGs:=λvs σ H Q=>vs=[]/\Q σ H
def qP (t:TG) (u:TGs):TGs:=λvs σ H Q=>∃v r,vs=v::r/\t v σ H λσ' H'=>u r σ' H' Q
theorem cE:PGs X [] vS:=by
 intro pins s σ H vs us Q I r h;obtain⟨e,h⟩:=h;subst e;cases r;exact assignInOrder_nil ⟨σ,H,I,h⟩
variable {e tg:Expr}
theorem aY {es:List Expr} {t:TG} {u:TGs} (h1:PG X e t) (h2:PGs X es u)
  (hs:(assignEach (e::es) X.env).map (·.2)=assign e X.env::(assignEach es X.env).map (·.2):=by rfl):PGs X (e::es) (qP t u):=by
 intro pins s σ H vs us Q I r h;obtain⟨v,vr,e1,h⟩:=h;subst e1
 cases r with
 | cons r rr =>
 rw[hs];refine assignInOrder_cons (thn (h1 pins s σ H _ _ _ I r h) λ_ s1 ⟨σ1,H1,I1,q1⟩=>?_);exact h2 pins s1 σ1 H1 _ _ Q I1 rr q1
def uG (K:PySem.W.Frag) (n:Nat) (t:TGs):TG:=λv σ H Q=>∃a xs,v=.ref a/\SqT K H a xs/\xs.length=n/\t xs σ H Q
theorem gf {es:List Expr} {k:Nat} {t:TGs} {n:Nat} (hc:X.calm=true) (h:PGs X es t)
  (hn:(assignEach es X.env).length=n:=by rfl) (hst:(assignEach es X.env).findIdx? (·.1)=none:=by rfl):PG X (.Tuple es k pos) (uG X.K n t):=by
 intro pins s σ H v u Q I r hw;obtain⟨a,xs,e1,hq,hl,hw⟩:=hw;subst e1;cases r;obtain⟨its,rv,ht,hz⟩:=I.tuple hq;refine assign_Tuple_tuple (I.ok.hd hc) ht (by simp[hn,<-hl,rv.length]) hst λh' hx=>?_;have I1:Inv X pins σ H { s with heap:=h' }:=I.kept (t':=s.toks) λb o e=>hx b o (Qp (Qj e)) e;exact h pins _ σ H xs _ Q I1 (by simpa using rv) hw
def v7 (to ti:TE) (t:vV):TG:=λv σ H Q=>to σ H λo H1=>ti σ H1 λi H2=>t o i v H2 λH3=>Q σ H3
def pj (te:TE) (g:TG):TS:=λD σ H=>te σ H λx H1=>g x σ H1 D.nx
variable {te:TE}
theorem mi {g:TG} (he:PE X e te) (hg:PG X tg g) (hs:swapsWithSole [tg] e pos.line X.env=pure false:=by rfl) (hw:swappedStores [tg] e X.env=pure none:=by rfl)
  (h1:(assignEach [tg] X.env).map (·.2)=[assign tg X.env]:=by rfl):PS X (.Assign [tg] e pos) (pj te g):=by
 intro pins s σ H D I h;refine wpAny_Assign_stores (thn (he pins s σ H _ I h) λv s1 ⟨x,H1,I1,r1,q1⟩=>?_) hs hw;rw[h1];exact thn (hg pins s1 σ H1 x v _ I1 r1 q1) λ_ s2 q=>q
variable {pos':Pos}
theorem ub {i:Nat} (hN:X.N.Nodup) (hi:X.N[i]?=some x) (hx:Loc X.env.scope x) (he:PE X e te) (hs:swapsWith e (some (.Name x pos')) pos.line X.env=pure false:=by rfl) (hf:X.fn x=true\/X.env.scope.names.lookup x=some .local:=by walk_at "z") :
  PS X (.Assign [.Name x pos'] e pos) (pj te (ee i)):=by
 intro pins s σ H D I h;refine wpAny_Assign_Name (thn (he pins s σ H _ I h) λv s1 ⟨y,H1,I1,r1,q1⟩=>?_) hs;exact gW I1 hN hi hx r1 (λs2 I2=>⟨_,H1,I2,q1⟩) hf
theorem aF (i:Nat) (hN:X.N.Nodup) (he:PE X e te) (hi:X.N[i]?=some x:=by rfl) (hx:Loc X.env.scope x:=by walk_at "z") (hs:swapsWith e (some (.Name x pos')) pos.line X.env=pure false:=by rfl) (hf:X.fn x=true\/X.env.scope.names.lookup x=some .local:=by walk_at "z"):PS X (.Assign [.Name x pos'] e pos) (pj te (ee i)):=ub hN hi hx he hs hf
def v0 (i:Nat) (te:TE) (ti:TIp):TS:=λD σ H=>∃x,σ[i]?=some (some x)/\te σ H λy H1=>ti x y H1 λz H2=>D.nx (σ.set i (some z)) H2
theorem uc {i:Nat} {op:Operator} {ti:TIp} (hN:X.N.Nodup) (hi:X.N[i]?=some x) (hx:Loc X.env.scope x) (he:PE X e te) (ho:PIp X op ti) (hf:X.fn x=true\/X.env.scope.names.lookup x=some .local:=by walk_at "z") :
  PS X (.AugAssign (.Name x pos') op e pos) (v0 i te ti):=by
 intro pins s σ H D I h;obtain⟨v,e1,h⟩:=h;obtain⟨m,hn,hl⟩:=I.loc;have vis:Vis X.env.scope x:=by rcases hx with k|k;exact .inl k;exact .inr (.inl k)
 obtain⟨u,r,l⟩:=hl i x v hi e1 vis;refine wpAny_AugAssign_Name ?_
 have go:wpAny (model X.prog X.w) X.A (eval e X.env) (λw s₂=>wpAny (model X.prog X.w) X.A (inplaceOp op u w) (λr s₃=>wpAny (model X.prog X.w) X.A (storeName X.env x r) (λ_=>SP X pins D .next) X.xe s₃) X.xe s₂) X.xe s:=by
  refine thn (he pins s σ H _ I h) λw s1 ⟨y,H1,I1,r1,q1⟩=>?_;refine thn (ho pins s1 σ H1 v y u w _ I1 r r1 q1) λz s2 ⟨zv,H2,I2,r2,q2⟩=>?_;exact gW I2 hN hi hx r2 (λs3 I3=>⟨_,H2,I3,q2⟩) hf
 rcases l with⟨hk,hm⟩|⟨hk,c,hc,hcell⟩
 ·exact wpAny_loadName_local I.ok.kind hk hn hm go
 rcases hk with hk|hk
 ·exact wpAny_loadName_cell I.ok.kind hk hc hcell go
 rcases hx with k|k
 ·have:X.env.scope.names.lookup x=some .free:=hk;rw[k]at this;cases this
 have:X.env.scope.names.lookup x=some .free:=hk;rw[k]at this;cases this
def ipI (f:Int->Int->Int):TIp:=λx y H Q=>∃i j,x=.int i/\y=.int j/\Q (.int (f i j)) H
theorem uB:PIp X .Add (ipI λi j=>i+j):=by
 intro pins s σ H x y v u Q I r1 r2 h;obtain⟨i,j,e1,e2,q⟩:=h;subst e1;subst e2;obtain⟨t,rfl⟩:=r1;obtain⟨t',rfl⟩:=r2;exact iadd_int ⟨.int _,H,I.tok _,⟨_,rfl⟩,q⟩
end
section
variable {X:Cx} {pos:Pos}
def tT (c:TT) (tb:TS):TS:=λD σ H=>∃W:Nat->St->Hp->Prop,(∃m,W m σ H)/\∀m σ H,W m σ H ->
 c σ H λb H1=>if b=true then ∃N:St->Hp->Prop,(∀σ' H',N σ' H'->∃m',m'<m/\W m' σ' H')/\tb { D with nx:=N,ct:=N,bk:=D.nx } σ H1 else D.nx σ H1
theorem kO {c:Expr} {body:List Stmt} {tc:TT} {tb:TS} (hp:PassesOwn (model X.prog X.w) X.A X.env X.xe) (hc:PT X c tc) (hb:PSs X body tb):PS X (.While c body [] pos) (tT tc tb):=by
 intro pins s σ H D I h;obtain⟨W,⟨m0,w0⟩,turn⟩:=h;refine wpAny_While (codeAny_whileLoop (λn s'=>∃σ' H',Inv X pins σ' H' s'/\W n σ' H') ?_ m0 ⟨σ,H,I,w0⟩);rintro n s1 ⟨σ1,H1,I1,w1⟩;refine wpAny_passesOwn hp (thn (hc pins s1 σ1 H1 _ I1 (turn n σ1 H1 w1)) λb s2 ⟨H2,I2,q2⟩=>?_)
 cases b with
 | true =>
  obtain⟨N,hN,q2⟩:=q2;rw[QC rfl];refine wpAny_passesOwn hp (thn (hb pins s2 σ1 H2 _ I2 q2) λf s3 q3=>?_)
  cases f with
  | next =>
   obtain⟨σ3,H3,I3,n3⟩:=q3;obtain⟨m',hm,w3⟩:=hN σ3 H3 n3;exact⟨m',hm,σ3,H3,I3,w3⟩
  | cont =>
   obtain⟨σ3,H3,I3,n3⟩:=q3;obtain⟨m',hm,w3⟩:=hN σ3 H3 n3;exact⟨m',hm,σ3,H3,I3,w3⟩
  | brk=>exact q3
  | ret v=>exact q3
 | false =>
 rw[Qz Qn];exact wpAny_execs_nil ⟨σ1,H2,I2,q2⟩
end
structure It where
 go:Nat->Hp->Prop
 yld:Nat->Hp->V->Hp->Prop
 stop:Nat->Hp->Prop
def fu (X:Cx) (pins:List (Addr × Obj)) (H:Hp) (b:Addr):Prop :=
 H b=none/\b≠X.env.locals/\b∉X.fs/\(b∈X.ex\/X.s₀.heap.objs.size<=b)/\(∀x c,X.env.cells.lookup x=some c->c≠b)/\∀p∈X.pn++pins,p.1≠b
theorem Inv.fpOk {pins:List (Addr × Obj)} {σ:St} {s:Shared} (I:Inv X pins σ H s) (hb:s.heap.objs.size<=b) (hn:H' b=none):fu X pins H' b:=by
 refine⟨hn,Nat.ne_of_gt (Qr I.lt hb),I.nofs hb,.inr (QK I.sz hb),λx c e z=>?_,λp hp z=>?_⟩
 ·obtain⟨v,q⟩:=I.cell x c e;exact absurd (Qr q.lt (by rw[z];exact hb)) (xl _)
 exact absurd (Qr (Qj (I.pin p hp).1) (by rw[z];exact hb)) (xl _)
structure Turn (P:Program) (w:World) (K:PySem.W.Frag) (tg:Expr) (J:It) (fp:List Addr) (it:Addr) (tn:Nat->Heap->Prop):Prop where
 mem:it∈fp
 obj:∀i h,tn i h->∀b∈fp,∃o,h.get? b=some o/\∀v,o.data≠.cell v
 keep:∀i h h',tn i h->(∀b∈fp,∀o,h.get? b=some o->h'.get? b=some o)->tn i h'
 item:∀(X:Cx),X.prog=P->X.w=w->X.K=K->X.calm=true->∀(i:Nat) (pins:List (Addr × Obj)) (s:Shared) (σ:St) (H:Hp) (E:Value->Shared->Prop),Inv X pins σ H s->(∀b∈fp,fu X pins H b)->tn i s.heap->J.go i H ->
  wpAny (model P w) X.A (pyNext (.ref it)) (λr s1=>∃u,r=some u /\
   wpAny (model P w) X.A (letOwnedTupleGo tg (.ref it) u) (λ_ s2=>∃x H',Inv X pins σ H' s2/\aO x u/\J.yld i H x H'/\tn (i+1) s2.heap/\∀b∈fp,H' b=none) E s1) E s
 done:∀(X:Cx),X.prog=P->X.w=w->X.K=K->X.calm=true->∀(i:Nat) (pins:List (Addr × Obj)) (s:Shared) (σ:St) (H:Hp) (E:Value->Shared->Prop),Inv X pins σ H s->(∀b∈fp,fu X pins H b)->tn i s.heap->J.stop i H ->
  wpAny (model P w) X.A (pyNext (.ref it)) (λr s1=>r=none/\Inv X pins σ H s1) E s
 self:∀(A:Around) (i:Nat) (s:Shared) (Q:Value->Shared->Prop) (E:Value->Shared->Prop),tn i s.heap->Q (.ref it) s->wpAny (model P w) A (pyIter (.ref it)) Q E s
abbrev TI:=St->Hp->(It->Hp->Prop)->Prop
def PIE (X:Cx) (pins:List (Addr × Obj)) (σ:St) (tg:Expr) (R:It->Hp->Prop) (itv:Value) (s2:Shared):Prop :=
 ∃(it:Addr) (fp:List Addr) (tn:Nat->Heap->Prop) (J:It) (H':Hp),itv=.ref it/\Inv X pins σ H' s2/\Turn X.prog X.w X.K tg J fp it tn/\tn 0 s2.heap/\(∀b∈fp,fu X pins H' b)/\R J H'
def PI (X:Cx) (tg iter:Expr) (wi:TI):Prop :=
 ∀(pins:List (Addr × Obj)) (s:Shared) (σ:St) (H:Hp) (R:It->Hp->Prop),Inv X pins σ H s->wi σ H R ->
  wpAny (model X.prog X.w) X.A (eval iter X.env) (λv s1=>wpAny (model X.prog X.w) X.A (pyIter v) (PIE X pins σ tg R) X.xe s1) X.xe s
theorem nA {M:Model} {s:Shared} {o:Obj} {n:String} {vs:Array Value} {Q:Unit->Shared->Prop} (ho:s.heap.get? it=some o) (hc:o.cls=.type n) (hd:o.data=.fields vs)
  (hn:["enumerate", "zip", "dict_itemiterator", "dict_reverseitemiterator", "odict_iterator", "itertools.zip_longest", "itertools.pairwise"].contains n=false) (hQ:Q () s):wpAny M A (letOwnedTupleGo tg (.ref it) u) Q E s:=by
 unfold letOwnedTupleGo
 cases tg <;> first
  | exact Qg hQ
  | (cases u <;> first
    | exact Qg hQ
    |(refine Qa (wpAny_load ho ?_)
      rw[hc,hd];show wpAny M A (if (["enumerate", "zip", "dict_itemiterator", "dict_reverseitemiterator", "odict_iterator", "itertools.zip_longest", "itertools.pairwise"].contains n&&vs[0]?==some (rawInt _))=true then _ else _) Q E s;rw[Qz (by intro h;rw[hn,Bool.false_and]at h;cases h)]
      exact Qg hQ))
def Itl (K:PySem.W.Frag) (a:Addr):It :=
 ⟨λi H=>∃xs x,SqL K H a xs/\xs[i]?=some x,λi H x H'=>H'=H/\∀xs,SqL K H a xs->xs[i]?=some x,λi H=>∃xs,SqL K H a xs/\xs.length<=i⟩
def Itt (K:PySem.W.Frag) (a:Addr):It :=
 ⟨λi H=>∃xs x,SqT K H a xs/\xs[i]?=some x,λi H x H'=>H'=H/\∀xs,SqT K H a xs->xs[i]?=some x,λi H=>∃xs,SqT K H a xs/\xs.length<=i⟩
def Itr (lo:Int) (n:Nat):It:=⟨λi _=>i<n,λi H x H'=>H'=H/\x=.int (lo+i),λi _=>n<=i⟩
variable {K:PySem.W.Frag}
theorem turn_list (a it:Addr):Turn P w K tg (Itl K a) [it] it (λi h=>h.IsListIter it a i) where
 mem:=by simp
 obj:=λi h st b hb=>by
  have e:b=it:=by simpa using hb
  subst e;obtain⟨o,e,c,d⟩:=st;exact⟨o,e,λv z=>by rw[d]at z;cases z⟩
 keep:=λi h h' st k=>st.at λo e=>k it (by simp) o e
 item:=by
  intro X hP hw hK hc i pins s σ H E I hf st hg;subst hP hw hK;obtain⟨xs,x,hq,hx⟩:=hg;obtain⟨its,rv,p,hz⟩:=I.list hq;obtain⟨u,hu,ru⟩:=rv.get hx;obtain⟨f0,f1,f2,f3,f4,f5⟩:=hf it (by simp);refine wpAny_pyNext_list_item st p.isList (x:=u) (by simpa using hu) λh' st' sb=>?_;have I1:Inv X pins σ H { s with heap:=h' }:=I.turned (t':=s.toks) (λb o hb e=>(sb.2 b hb).trans e) f0 f1 f3 f4 f5;obtain⟨o,e,c,d⟩:=id st';exact⟨u,rfl,nA (s:={ s with heap:=h' }) e c d (by decide) ⟨x,H,I1,ru,⟨rfl,λys hy=>by rw[I.list_inj hy hq];exact hx⟩,st',λb hb=>(hf b hb).1⟩⟩
 done:=by
  intro X hP hw hK hc i pins s σ H E I hf st hg;subst hP hw hK;obtain⟨xs,hq,hx⟩:=hg;obtain⟨its,rv,p,hz⟩:=I.list hq;obtain⟨f0,f1,f2,f3,f4,f5⟩:=hf it (by simp);have hl:=rv.length;exact wpAny_pyNext_list_end (I.ok.hd hc) st p.isList (by simp;omega) λh' eb=>⟨rfl,I.turned (t':=s.toks) (λb o hb e=>eb b o hb e) f0 f1 f3 f4 f5⟩
 self:=λ_ _ _ _ _ st h=>wpAny_pyIter_listiter st h
theorem lU (a it:Addr):Turn P w K tg (Itt K a) [it] it (λi h=>h.IsTupleIter it a i) where
 mem:=by simp
 obj:=λi h st b hb=>by
  have e:b=it:=by simpa using hb
  subst e;obtain⟨o,e,c,d⟩:=st;exact⟨o,e,λv z=>by rw[d]at z;cases z⟩
 keep:=λi h h' st k=>st.at λo e=>k it (by simp) o e
 item:=by
  intro X hP hw hK hc i pins s σ H E I hf st hg;subst hP hw hK;obtain⟨xs,x,hq,hx⟩:=hg;obtain⟨its,rv,p,hz⟩:=I.tuple hq;obtain⟨u,hu,ru⟩:=rv.get hx;obtain⟨f0,f1,f2,f3,f4,f5⟩:=hf it (by simp);refine wpAny_pyNext_tuple_item st (show s.heap.IsTuple a its.toArray from p) (x:=u) (by simpa using hu) λh' st' sb=>?_;have I1:Inv X pins σ H { s with heap:=h' }:=I.turned (t':=s.toks) (λb o hb e=>(sb.2 b hb).trans e) f0 f1 f3 f4 f5;obtain⟨o,e,c,d⟩:=id st';exact⟨u,rfl,nA (s:={ s with heap:=h' }) e c d (by decide) ⟨x,H,I1,ru,⟨rfl,λys hy=>by rw[I.tuple_inj hy hq];exact hx⟩,st',λb hb=>(hf b hb).1⟩⟩
 done:=by
  intro X hP hw hK hc i pins s σ H E I hf st hg;subst hP hw hK;obtain⟨xs,hq,hx⟩:=hg;obtain⟨its,rv,p,hz⟩:=I.tuple hq;obtain⟨f0,f1,f2,f3,f4,f5⟩:=hf it (by simp);have hl:=rv.length;exact wpAny_pyNext_tuple_end (I.ok.hd hc) st (show s.heap.IsTuple a its.toArray from p) (by simp;omega) λh' eb=>⟨rfl,I.turned (t':=s.toks) (λb o hb e=>eb b o hb e) f0 f1 f3 f4 f5⟩
 self:=λ_ _ _ _ _ st h=>wpAny_pyIter_tupleiter st h
theorem lV (it:Addr) (lo:Int) (n:Nat):Turn P w K tg (Itr lo n) [it] it (λi h=>IsRangeIter h it (lo+(i:Nat)*1) ((n:Int)-(i:Nat)) 1) where
 mem:=by simp
 obj:=λi h st b hb=>by
  have e:b=it:=by simpa using hb
  subst e
  exact⟨_,st,λv z=>by
   have z':Data.fields _=Data.cell v:=z
   cases z'⟩
 keep:=λi h h' st k=>k it (by simp) _ st
 item:=by
  intro X hP hw hK hc i pins s σ H E I hf st hg;subst hP hw hK;obtain⟨f0,f1,f2,f3,f4,f5⟩:=hf it (by simp);have W:=Walks.range (prog:=X.prog) (w:=X.w) (I.ok.hd hc) it lo 1 n;refine W.item i s _ _ hg st λv h' tk hv st' kk=>?_;obtain⟨t,rfl⟩:=hv;have I1:Inv X pins σ H { s with heap:=h',toks:=tk }:=I.turned (λb o hb e=>kk b o (by simpa using hb) e) f0 f1 f3 f4 f5;refine⟨_,rfl,nA (s:={ s with heap:=h',toks:=tk }) (n := "range_iterator") st' rfl rfl (by decide) ⟨.int (lo+i),H,I1,⟨t,?_⟩,⟨rfl,rfl⟩,st',λb hb=>(hf b hb).1⟩⟩;rw[Int.mul_one]
 done:=by
  intro X hP hw hK hc i pins s σ H E I hf st hg;subst hP hw hK;obtain⟨f0,f1,f2,f3,f4,f5⟩:=hf it (by simp);exact wpAny_pyNext_range_end (I.ok.hd hc) st (by have:n<=i:=hg;omega) λh' eb=>⟨rfl,I.turned (t':=s.toks) (λb o hb e=>eb b o hb e) f0 f1 f3 f4 f5⟩
 self:=λ_ _ _ _ _ st h=>wpAny_pyIter_rangeiter st h
section
variable {X:Cx} {tg:Expr}
def lx (K:PySem.W.Frag) (tl:TE):TI:=λσ H R=>tl σ H λx H1=>∃a,x=.ref a/\(∃xs,SqL K H1 a xs)/\R (Itl K a) H1
def vP (K:PySem.W.Frag) (tl:TE):TI:=λσ H R=>tl σ H λx H1=>∃a,x=.ref a/\(∃xs,SqT K H1 a xs)/\R (Itt K a) H1
variable {l a iter:Expr}
theorem bh {tl:TE} (hl:PE X l tl):PI X tg l (lx X.K tl):=by
 intro pins s σ H R I h;refine thn (hl pins s σ H _ I h) λv s1 ⟨x,H1,I1,r1,q1⟩=>?_;obtain⟨a,e,⟨xs,hq⟩,q⟩:=q1;subst e;cases r1;obtain⟨its,rv,p,hz⟩:=I1.list hq;refine wpAny_pyIter_list p.isList ?_;refine⟨s1.heap.objs.size,[s1.heap.objs.size],_,_,H1,rfl,I1.kept (t':=s1.toks) λb o e=>Qb _ e,turn_list a _,⟨_,Ql _ rfl,rfl,rfl⟩,λb hb=>?_,q⟩;have e:b=s1.heap.objs.size:=by simpa using hb
 subst e;exact I1.fpOk (Qi _) (I1.hok.fresh (Qi _))
theorem ue {tl:TE} (hl:PE X l tl):PI X tg l (vP X.K tl):=by
 intro pins s σ H R I h;refine thn (hl pins s σ H _ I h) λv s1 ⟨x,H1,I1,r1,q1⟩=>?_;obtain⟨a,e,⟨xs,hq⟩,q⟩:=q1;subst e;cases r1;obtain⟨its,rv,p,hz⟩:=I1.tuple hq;refine wpAny_pyIter_tuple (show s1.heap.IsTuple a its.toArray from p) ?_;refine⟨s1.heap.objs.size,[s1.heap.objs.size],_,_,H1,rfl,I1.kept (t':=s1.toks) λb o e=>Qb _ e,lU a _,⟨_,Ql _ rfl,rfl,rfl⟩,λb hb=>?_,q⟩;have e:b=s1.heap.objs.size:=by simpa using hb
 subst e;exact I1.fpOk (Qi _) (I1.hok.fresh (Qi _))
variable {s:Shared} {pins pl:List (Addr × Obj)}
theorem pH {σ:St} {H:Hp} {R:It->Hp->Prop} {E:Value->Shared->Prop} {lo hi:Int} {t u v:Tok} {tk:Nat} (I:Inv X pins σ H s) (h1:-(2 ^ 62)<=lo) (h2:lo<2 ^ 62) (h3:-(2 ^ 62)<=hi) (h4:hi<2 ^ 62)
  (q:R (Itr lo (hi-lo).toNat) H):wpAny (model X.prog X.w) X.A (pyIter (.ref s.heap.objs.size)) (PIE X pins σ tg R) E { s with heap:=s.heap.push { cls:=.type "range", data:=.fields #[.int lo t,.int hi u,.int 1 v] },toks:=tk }:=by
 refine wpAny_pyIter_range (IsRange.new ..) (small_one h1 h2 h3 h4) ?_;have I1:Inv X pins σ H { s with heap:=s.heap.push { cls:=.type "range", data:=.fields #[.int lo t,.int hi u,.int 1 v] },toks:=tk }:=I.kept λb o e=>Qb _ e
 refine⟨(s.heap.push { cls:=.type "range", data:=.fields #[.int lo t,.int hi u,.int 1 v] }).objs.size,[(s.heap.push { cls:=.type "range", data:=.fields #[.int lo t,.int hi u,.int 1 v] }).objs.size],_,_,H,rfl,
  I1.kept (t':=tk) λb o e=>Qb _ e,lV _ lo (hi-lo).toNat,?_,λb hb=>?_,q⟩
 ·have e1:lo+((0:Nat):Int)*1=lo:=by simp
  have e2:(((hi-lo).toNat:Nat):Int)-((0:Nat):Int)=Builtin.Range.rangeSize lo hi 1:=by rw[rangeSize_one];split <;> omega
  show IsRangeIter _ _ (lo+((0:Nat):Int)*1) ((((hi-lo).toNat:Nat):Int)-((0:Nat):Int)) 1;rw[e1,e2];exact Ql _ rfl
 have e:b=(s.heap.push { cls:=.type "range", data:=.fields #[.int lo t,.int hi u,.int 1 v] }).objs.size:=by simpa using hb
 subst e;exact I1.fpOk (Qi _) (I1.hok.fresh (Qi _))
def tH (ta:TA):TI:=λσ H R=>ta σ H λvs H1=>∃j:Int,vs=[.int j]/\-(2 ^ 62)<=j/\j<2 ^ 62/\R (Itr 0 j.toNat) H1
theorem ge {ta:TA} {p pos:Pos} (hg:Gl X "range") (hm:X.mg "range" = none) (ha:PA X [a] ta) (hs:starEach [a] X.env=[(false,eval a X.env)]:=by rfl):PI X tg (.Call (.Name "range" p) [a] [] pos) (tH ta):=by
 intro pins s σ H R I h;refine Call_ (cK I hg hm boot_range (QO (thn (ha pos pins s σ H _ I h) λus s1 ⟨vs,H1,I1,r1,q1⟩=>?_) hs rfl));obtain⟨j,e,q1,q2,q⟩:=q1;subst e
 cases r1 with
 | cons r rr =>
 cases rr;obtain⟨t,rfl⟩:=r;exact call_range_1 (pH I1 (by omega) (by omega) q1 q2 (by simpa using q))
def uR (wi:TI) (g:TG) (tb:TS):TS:=λD σ H=>wi σ H λJ H1=>∃W:Nat->Nat->St->Hp->Prop,(∃m,W 0 m σ H1)/\∀i m σ H,W i m σ H ->
 (J.stop i H/\D.nx σ H)\/(J.go i H/\∃N:St->Hp->Prop,(∀σ' H',N σ' H'->∃m',m'<m/\W (i+1) m' σ' H')/\∀x H',J.yld i H x H'->g x σ H' λσ2 H2=>tb { D with nx:=N,ct:=N,bk:=D.nx } σ2 H2)
def gd (fp:List Addr) (h:Heap):List (Addr × Obj):=fp.filterMap λb=>(h.get? b).map λo=>(b,o)
variable {fp:List Addr}
theorem cw {h:Heap} {b:Addr} {o:Obj} (hb:b∈fp) (e:h.get? b=some o):(b,o)∈gd fp h:=List.mem_filterMap.mpr ⟨b,hb,by rw[e];rfl⟩
theorem oC {h:Heap} {p:Addr × Obj} (hp:p∈gd fp h):p.1∈fp/\h.get? p.1=some p.2:=by
 obtain⟨b,hb,e⟩:=List.mem_filterMap.mp hp
 cases q:h.get? b with
 | none=>rw[q]at e;cases e
 | some o =>
 rw[q]at e;have e':(b,o)=p:=QR e;subst e';exact⟨hb,q⟩
theorem Inv.pinned {σ:St} {H:Hp} (I:Inv X pins σ H s) (hf:∀b∈fp,fu X pins H b) (ho:∀b∈fp,∃o,s.heap.get? b=some o/\∀v,o.data≠.cell v):Inv X (pins++gd fp s.heap) σ H s :=
 I.pins_of λp hp=>(Qt.mp hp).elim (λz=>I.pin p (Qw _ z)) λz=>by
  obtain⟨hb,e⟩:=oC z;obtain⟨f0,f1,f2,_⟩:=hf p.1 hb;obtain⟨o,e',d⟩:=ho p.1 hb;rw[e]at e';cases e';exact⟨e,f0,f1,f2,d⟩
theorem Inv.unpinned {σ:St} {H:Hp} (I:Inv X (pins++pl) σ H s):Inv X pins σ H s:=I.pins_of λp hp=>I.pin p (Qw _ (List.mem_append_left _ hp))
theorem ps_for {body:List Stmt} {wi:TI} {g:TG} {tb:TS} {pos:Pos} (hp:PassesOwn (model X.prog X.w) X.A X.env X.xe) (hc:X.calm=true) (hi:PI X tg iter wi) (hg:PG X tg g) (hb:PSs X body tb)
  (hs:∀x,foldedSetIterable iter X.env x=pure x:=by intro _;rfl):PS X (.For tg iter body [] pos) (uR wi g tb):=by
 intro pins s σ H D I h;refine wpAny_For (thn (hi pins s σ H _ I h) λv s1 h1=>thn h1 λitv s2 h2=>?_) hs;obtain⟨it,fp,tn,J,H2,e,I2,T,st2,f2,W,⟨m0,w0⟩,turn⟩:=h2;subst e
 -- what stays true of the iterator's objects through the loop
 have stat:∀{H':Hp},(∀b∈fp,H' b=none)->∀b∈fp,fu X pins H' b:=λhn b hb=>⟨hn b hb,(f2 b hb).2⟩;refine codeAny_forLoop_any (λn s'=>∃i σ' H',Inv X pins σ' H' s'/\tn i s'.heap/\(∀b∈fp,H' b=none)/\W i n σ' H') ?_ m0 ⟨0,σ,H2,I2,st2,λb hb=>(f2 b hb).1,w0⟩;rintro n s3 ⟨i,σ3,H3,I3,st3,fr3,w3⟩;rcases turn i n σ3 H3 w3 with⟨stop,qn⟩|⟨go,N,hN,step⟩
 ·refine wpAny_passesOwn hp (thn (T.done X rfl rfl rfl hc i pins s3 σ3 H3 X.xe I3 (stat fr3) st3 stop) λr s4 ⟨hr,I4⟩=>?_);subst hr;exact wpAny_execs_nil ⟨σ3,H3,I4,qn⟩
 refine wpAny_passesOwn hp (thn (T.item X rfl rfl rfl hc i pins s3 σ3 H3 X.xe I3 (stat fr3) st3 go) λr s4 ⟨u,hr,h4⟩=>?_);subst hr;refine wpAny_passesOwn hp (thn h4 λ_ s5 ⟨x,H5,I5,r5,y5,st5,fr5⟩=>?_);have I5':=I5.pinned (stat fr5) (T.obj _ _ st5);refine wpAny_passesOwn hp (thn (hg _ s5 σ3 H5 x u _ I5' r5 (step x H5 y5)) λ_ s6 ⟨σ6,H6,I6,q6⟩=>?_);refine wpAny_passesOwn hp (thn (hb _ s6 σ6 H6 _ I6 q6) λf s7 q7=>?_)
 have again:∀{σ7:St} {H7:Hp},Inv X (pins++gd fp s5.heap) σ7 H7 s7->N σ7 H7->∃m,m<n/\∃i σ' H',Inv X pins σ' H' s7/\tn i s7.heap/\(∀b∈fp,H' b=none)/\W i m σ' H':=λ{σ7 H7} I7 n7=>by
  obtain⟨m',hm,w7⟩:=hN σ7 H7 n7;refine⟨m',hm,i+1,σ7,H7,I7.unpinned,T.keep _ _ _ st5 λb hb o e=>(I7.pin (b,o) (Qw _ (Qw _ (cw hb e)))).1,λb hb=>?_,w7⟩;obtain⟨o,e,d⟩:=T.obj _ _ st5 b hb;exact(I7.pin (b,o) (Qw _ (Qw _ (cw hb e)))).2.1
 cases f with
 | next=>obtain⟨σ7,H7,I7,n7⟩:=q7;exact again I7 n7
 | cont=>obtain⟨σ7,H7,I7,n7⟩:=q7;exact again I7 n7
 | brk=>obtain⟨σ7,H7,I7,q7⟩:=q7;exact⟨σ7,H7,I7.unpinned,q7⟩
 | ret v=>obtain⟨x7,σ7,H7,I7,r7,q7⟩:=q7;exact⟨x7,σ7,H7,I7.unpinned,r7,q7⟩
end
theorem dJ {K:PySem.W.Frag} {xs:List V} {g:TG} {tb:TS} {D:Ends} {σ:St} (Pv:Nat->St->Hp->Prop) (h0:Pv 0 σ H) (hl:∀i σ H,i<=xs.length->Pv i σ H->SqL K H a xs)
  (hs:∀i x σ H,xs[i]?=some x->Pv i σ H->g x σ H λσ2 H2=>tb { D with nx:=Pv (i+1),ct:=Pv (i+1),bk:=D.nx } σ2 H2) (hd:∀σ H,Pv xs.length σ H->D.nx σ H) :
  ∃W:Nat->Nat->St->Hp->Prop,(∃m,W 0 m σ H)/\∀i m σ H,W i m σ H ->
   ((Itl K a).stop i H/\D.nx σ H)\/((Itl K a).go i H/\∃N:St->Hp->Prop,(∀σ' H',N σ' H'->∃m',m'<m/\W (i+1) m' σ' H')/\∀x H',(Itl K a).yld i H x H'->g x σ H' λσ2 H2=>tb { D with nx:=N,ct:=N,bk:=D.nx } σ2 H2):=by
 refine⟨λi m σ H=>m=xs.length-i/\i<=xs.length/\Pv i σ H,⟨xs.length,by simp,QN _,h0⟩,?_⟩;rintro i m σ H ⟨rfl,hi,p⟩;have q:=hl i σ H hi p;by_cases hlt:i<xs.length
 ·refine .inr ⟨⟨xs,xs[i],q,by simp[hlt]⟩,Pv (i+1),λσ' H' p'=>⟨xs.length-(i+1),by omega,rfl,hlt,p'⟩,λx H' y=>?_⟩;obtain⟨e,y⟩:=y;subst e;exact hs i x σ _ (y xs q) p
 have e:i=xs.length:=by omega
 subst e;exact .inl ⟨⟨xs,q,Qi _⟩,hd σ H p⟩
theorem jy {lo:Int} {n:Nat} {g:TG} {tb:TS} {D:Ends} {σ:St} (Pv:Nat->St->Hp->Prop) (h0:Pv 0 σ H)
  (hs:∀i σ H,i<n->Pv i σ H->g (.int (lo+i)) σ H λσ2 H2=>tb { D with nx:=Pv (i+1),ct:=Pv (i+1),bk:=D.nx } σ2 H2) (hd:∀σ H,Pv n σ H->D.nx σ H) :
  ∃W:Nat->Nat->St->Hp->Prop,(∃m,W 0 m σ H)/\∀i m σ H,W i m σ H ->
   ((Itr lo n).stop i H/\D.nx σ H)\/((Itr lo n).go i H/\∃N:St->Hp->Prop,(∀σ' H',N σ' H'->∃m',m'<m/\W (i+1) m' σ' H')/\∀x H',(Itr lo n).yld i H x H'->g x σ H' λσ2 H2=>tb { D with nx:=N,ct:=N,bk:=D.nx } σ2 H2):=by
 refine⟨λi m σ H=>m=n-i/\i<=n/\Pv i σ H,⟨n,by simp,QN _,h0⟩,?_⟩;rintro i m σ H ⟨rfl,hi,p⟩;by_cases hlt:i<n
 ·refine .inr ⟨hlt,Pv (i+1),λσ' H' p'=>⟨n-(i+1),by omega,rfl,hlt,p'⟩,λx H' y=>?_⟩;obtain⟨e,y⟩:=y;subst e y;exact hs i σ _ hlt p
 have e:i=n:=by omega
 subst e;exact .inl ⟨Qi _,hd σ H p⟩
abbrev R2:=V->V->Hp->VK->Prop
def OpR (X:Cx) (f:Value->Value->Sem Value) (r:R2):Prop :=
 ∀(pins:List (Addr × Obj)) (s:Shared) (σ:St) (H:Hp) (x y:V) (v u:Value) (Q:VK),Inv X pins σ H s->aO x v->aO y u->r x y H Q ->
  wpAny (model X.prog X.w) X.A (f v u) (EP X pins σ Q) X.xe s
def fW (X:Cx) (f:Value) (r:List V->Hp->VK->Prop):Prop :=
 ∀(pins:List (Addr × Obj)) (s:Shared) (σ:St) (H:Hp) (xs:List V) (us:List Value) (Q:VK),Inv X pins σ H s->aW xs us->r xs H Q ->
  wpAny (model X.prog X.w) X.A (call f us) (EP X pins σ Q) X.xe s
def tOp (r:R2) (ta tb:TE):TE:=λσ H Q=>ta σ H λx H1=>tb σ H1 λy H2=>r x y H2 Q
def tUn (r:V->Hp->VK->Prop) (ta:TE):TE:=λσ H Q=>ta σ H λx H1=>r x H1 Q
def rI (C:Int->Int->Prop) (g:Int->Int->V):R2:=λx y H Q=>∃i j,x=.int i/\y=.int j/\C i j/\Q (g i j) H
def rI0 (g:Int->Int->V):R2:=λx y H Q=>∃i j,x=.int i/\y=.int j/\Q (g i j) H
def rU (g:Int->V):V->Hp->VK->Prop:=λx H Q=>∃i,x=.int i/\Q (g i) H
section
variable {X:Cx} {a b c:Expr} {ta tb tc:TE} {pos:Pos}
variable {f:Value->Value->Sem Value}
theorem uI (ha:PE X a ta) (hb:PE X b tb) {pins:List (Addr × Obj)} {s:Shared} {σ:St} {H:Hp} {R:V->V->Hp->Prop} (I:Inv X pins σ H s)
  (h:ta σ H λx H1=>tb σ H1 λy H2=>R x y H2) {Q:Value->Shared->Prop}
  (hf:∀v u s2 x y H2,Inv X pins σ H2 s2->aO x v->aO y u->R x y H2->wpAny (model X.prog X.w) X.A (f v u) Q X.xe s2) :
  wpAny (model X.prog X.w) X.A (eval a X.env) (λv s₁=>wpAny (model X.prog X.w) X.A (eval b X.env) (λu s₂=>wpAny (model X.prog X.w) X.A (f v u) Q X.xe s₂) X.xe s₁) X.xe s:=by
 refine thn (ha pins s σ H _ I h) λv s1 ⟨x,H1,I1,r1,q1⟩=>?_;refine thn (hb pins s1 σ H1 _ I1 q1) λu s2 ⟨y,H2,I2,r2,q2⟩=>?_;exact hf v u s2 x y H2 I2 r1 r2 q2
theorem aE {op:Operator} {r:R2} (ho:OpR X (binaryOp op) r) (ha:PE X a ta) (hb:PE X b tb):PE X (.BinOp a op b pos) (tOp r ta tb):=by
 intro pins s σ H Q I h;exact wpAny_BinOp (uI ha hb I h λv u s2 x y H2 I2 rx ry q=>ho pins s2 σ H2 x y v u Q I2 rx ry q)
theorem opI {C:Int->Int->Prop} {g:Int->Int->Int}
  (rule:∀(i j:Int) (t u:Tok) (s:Shared) (Q:Value->Shared->Prop) (E:Value->Shared->Prop),C i j->Q (.int (g i j) s.toks) { s with toks:=s.toks+1 }->wpAny (model X.prog X.w) X.A (f (.int i t) (.int j u)) Q E s) :
  OpR X f (rI C λi j=>.int (g i j)):=by
 intro pins s σ H x y v u Q I rx ry h;obtain⟨i,j,rfl,rfl,hc,q⟩:=h;obtain⟨t,rfl⟩:=rx;obtain⟨t',rfl⟩:=ry;exact rule i j t t' s _ _ hc ⟨.int (g i j),H,I.tok _,⟨_,rfl⟩,q⟩
theorem u6 {g:Int->Int->Int}
  (rule:∀(i j:Int) (t u:Tok) (s:Shared) (Q:Value->Shared->Prop) (E:Value->Shared->Prop),Q (.int (g i j) s.toks) { s with toks:=s.toks+1 }->wpAny (model X.prog X.w) X.A (f (.int i t) (.int j u)) Q E s) :
  OpR X f (rI0 λi j=>.int (g i j)):=by
 intro pins s σ H x y v u Q I rx ry h;obtain⟨i,j,rfl,rfl,q⟩:=h;obtain⟨t,rfl⟩:=rx;obtain⟨t',rfl⟩:=ry;exact rule i j t t' s _ _ ⟨.int (g i j),H,I.tok _,⟨_,rfl⟩,q⟩
theorem um {g:Int->Int->Bool}
  (rule:∀(i j:Int) (t u:Tok) (s:Shared) (Q:Value->Shared->Prop) (E:Value->Shared->Prop),Q (.bool (g i j)) s->wpAny (model X.prog X.w) X.A (f (.int i t) (.int j u)) Q E s) :
  OpR X f (rI0 λi j=>.bl (g i j)):=by
 intro pins s σ H x y v u Q I rx ry h;obtain⟨i,j,rfl,rfl,q⟩:=h;obtain⟨t,rfl⟩:=rx;obtain⟨t',rfl⟩:=ry;exact rule i j t t' s _ _ ⟨.bl (g i j),H,I,rfl,q⟩
def v_ (i j:Int):Prop:=0<j/\j<1073741824
def uK (i j:Int):Prop:=(-(2 ^ 64)<i/\i<2 ^ 64)\/(-(2 ^ 64)<j/\j<2 ^ 64)
theorem uK.ok {i j:Int} (h:uK i j):IntMulOk i j:=by
 rcases h with⟨h1,h2⟩|⟨h1,h2⟩
 ·exact .of_left (intBits_le_64 h1 h2)
 exact .of_right (intBits_le_64 h1 h2)
theorem bN:OpR X (binaryOp .Add) (rI0 λi j=>.int (i+j)):=u6 λ_ _ _ _ _ _ _ q=>add_int q
theorem j5:OpR X (binaryOp .Sub) (rI0 λi j=>.int (i-j)):=u6 λ_ _ _ _ _ _ _ q=>sub_int q
theorem dv:OpR X (binaryOp .Mult) (rI uK λi j=>.int (i*j)):=opI λ_ _ _ _ _ _ _ hc q=>mul_int q hc.ok
theorem dn:OpR X (binaryOp .FloorDiv) (rI v_ λi j=>.int (i / j)):=opI λi j _ _ _ _ _ hc q=>by
 have h1:(0:Int)<j:=hc.1;have h2:j<1073741824:=hc.2;exact floordiv_int (by omega) (by rw[Int.fdiv_eq_ediv_of_nonneg i (by omega)];exact q) (.inl (PyProof.noPylong_small (by omega)))
theorem cu:OpR X (binaryOp .Mod) (rI (λ_ j=>0<j) λi j=>.int (i % j)):=opI λi j _ _ _ _ _ hc q=>by
 have h1:(0:Int)<j:=hc;exact mod_int' (by omega) (by rw[Int.fmod_eq_emod_of_nonneg i (by omega)];exact q)
end
noncomputable def rG:V->V->Bool
 | .non,.non=>true|.non,.int _=>true|.int _,.non=>true|.non,.bl _=>true|.bl _,.non=>true|.non,.str _=>true|.str _,.non=>true
 | .int _,.int _=>true|.bl _,.bl _=>true|.str _,.str _=>true|.byt _,.byt _=>true
 | .int _,.str _=>true|.str _,.int _=>true|.bl _,.str _=>true|.str _,.bl _=>true
 | _,_=>false
def rEq:R2:=λx y H Q=>rG x y=true/\Q (.bl (decide (x=y))) H
def rNe:R2:=λx y H Q=>rG x y=true/\Q (.bl (!decide (x=y))) H
theorem nE {i j:Int}:decide (V.int i=V.int j)=(i==j):=by
 rw[Bool.eq_iff_iff];simp
theorem qZ {i j:Bool}:decide (V.bl i=V.bl j)=(i==j):=by
 rw[Bool.eq_iff_iff];simp
theorem nB {i j:Str}:decide (V.str i=V.str j)=(i==j):=by
 rw[Bool.eq_iff_iff];simp
theorem nG {i j:Array UInt8}:decide (V.byt i=V.byt j)=(i.toList==j.toList):=by
 rw[Bool.eq_iff_iff];cases i;cases j;simp
section
variable {X:Cx} {a b c:Expr} {ta tb tc:TE} {pos:Pos}
theorem aR {pins:List (Addr × Obj)} {σ:St} {H:Hp} {s:Shared} {Q:VK} {k k':Bool} (I:Inv X pins σ H s) (q:Q (.bl k) H) (e:k=k'):EP X pins σ Q (.bool k') s:=by
 subst e;exact⟨.bl k,H,I,rfl,q⟩
theorem cO:OpR X (compareOp .Eq) rEq:=by
 intro pins s σ H x y v u Q I rx ry h;obtain⟨hs,q⟩:=h
 cases x with
 | non =>
  cases rx
  cases y with
  | non=>cases ry;exact PySem.EqNone.eq_none_none (aR I q (by simp))
  | bl j=>cases ry;exact PySem.EqNone.eq_none_bool (aR I q (by simp))
  | int j=>obtain⟨t',rfl⟩:=ry;exact PySem.EqNone.eq_none_int (aR I q (by simp))
  | str j=>obtain⟨t',rfl⟩:=ry;exact PySem.EqNone.eq_none_str (aR I q (by simp))
  | _=>exact absurd (show false=true from hs) Qn
 | bl i =>
  cases rx
  cases y with
  | non=>cases ry;exact PySem.EqNone.eq_bool_none (aR I q (by simp))
  | bl j=>cases ry;exact eq_bool (aR I q qZ)
  | str j=>obtain⟨t',rfl⟩:=ry;exact PySem.EqMixed.eq_bool_str (aR I q (by simp))
  | _=>exact absurd (show false=true from hs) Qn
 | int i =>
  obtain⟨t,rfl⟩:=rx
  cases y with
  | non=>cases ry;exact PySem.EqNone.eq_int_none (aR I q (by simp))
  | int j=>obtain⟨t',rfl⟩:=ry;exact eq_int (aR I q nE)
  | str j=>obtain⟨t',rfl⟩:=ry;exact PySem.EqMixed.eq_int_str (aR I q (by simp))
  | _=>exact absurd (show false=true from hs) Qn
 | str i =>
  obtain⟨t,rfl⟩:=rx
  cases y with
  | non=>cases ry;exact PySem.EqNone.eq_str_none (aR I q (by simp))
  | bl j=>cases ry;exact PySem.EqMixed.eq_str_bool (aR I q (by simp))
  | int j=>obtain⟨t',rfl⟩:=ry;exact PySem.EqMixed.eq_str_int (aR I q (by simp))
  | str j=>obtain⟨t',rfl⟩:=ry;exact eq_str (aR I q nB)
  | _=>exact absurd (show false=true from hs) Qn
 | byt i =>
  obtain⟨t,rfl⟩:=rx
  cases y with
  | byt j=>obtain⟨t',rfl⟩:=ry;exact PySem.W.eq_bytes (aR I q nG)
  | _=>exact absurd (show false=true from hs) Qn
 | _=>cases y <;> exact absurd (show false=true from hs) Qn
theorem gp:OpR X (compareOp .NotEq) rNe:=by
 intro pins s σ H x y v u Q I rx ry h;obtain⟨hs,q⟩:=h
 cases x with
 | non =>
  cases rx
  cases y with
  | non=>cases ry;exact PySem.EqNone.ne_none_none (aR I q (by simp))
  | bl j=>cases ry;exact PySem.EqNone.ne_none_bool (aR I q (by simp))
  | int j=>obtain⟨t',rfl⟩:=ry;exact PySem.EqNone.ne_none_int (aR I q (by simp))
  | str j=>obtain⟨t',rfl⟩:=ry;exact PySem.EqNone.ne_none_str (aR I q (by simp))
  | _=>exact absurd (show false=true from hs) Qn
 | bl i =>
  cases rx
  cases y with
  | non=>cases ry;exact PySem.EqNone.ne_bool_none (aR I q (by simp))
  | bl j=>cases ry;exact ne_bool (aR I q (congrArg not qZ))
  | str j=>obtain⟨t',rfl⟩:=ry;exact PySem.EqMixed.ne_bool_str (aR I q (by simp))
  | _=>exact absurd (show false=true from hs) Qn
 | int i =>
  obtain⟨t,rfl⟩:=rx
  cases y with
  | non=>cases ry;exact PySem.EqNone.ne_int_none (aR I q (by simp))
  | int j=>obtain⟨t',rfl⟩:=ry;exact ne_int (aR I q (congrArg not nE))
  | str j=>obtain⟨t',rfl⟩:=ry;exact PySem.EqMixed.ne_int_str (aR I q (by simp))
  | _=>exact absurd (show false=true from hs) Qn
 | str i =>
  obtain⟨t,rfl⟩:=rx
  cases y with
  | non=>cases ry;exact PySem.EqNone.ne_str_none (aR I q (by simp))
  | bl j=>cases ry;exact PySem.EqMixed.ne_str_bool (aR I q (by simp))
  | int j=>obtain⟨t',rfl⟩:=ry;exact PySem.EqMixed.ne_str_int (aR I q (by simp))
  | str j=>obtain⟨t',rfl⟩:=ry;exact ne_str (aR I q (congrArg not nB))
  | _=>exact absurd (show false=true from hs) Qn
 | byt i =>
  obtain⟨t,rfl⟩:=rx
  cases y with
  | byt j=>obtain⟨t',rfl⟩:=ry;exact PySem.W.ne_bytes (aR I q (congrArg not nG))
  | _=>exact absurd (show false=true from hs) Qn
 | _=>cases y <;> exact absurd (show false=true from hs) Qn
theorem kT:OpR X (compareOp .Lt) (rI0 λi j=>.bl (decide (i<j))):=um λ_ _ _ _ _ _ _ q=>lt_int q
theorem nq:OpR X (compareOp .LtE) (rI0 λi j=>.bl (decide (i<=j))):=um λ_ _ _ _ _ _ _ q=>le_int q
theorem u5:OpR X (compareOp .Gt) (rI0 λi j=>.bl (decide (j<i))):=um λ_ _ _ _ _ _ _ q=>gt_int q
theorem om:OpR X (compareOp .In) (λx y H Q=>∃i j,x=.str i/\y=.str j/\Q (.bl (!(Builtin.Str.occurrences j i 0 j.length 1).isEmpty)) H):=by
 intro pins s σ H x y v u Q I rx ry h;obtain⟨i,j,rfl,rfl,q⟩:=h;obtain⟨t,rfl⟩:=rx;obtain⟨t',rfl⟩:=ry;exact in_str (aR I q rfl)
theorem pZ:OpR X (compareOp .Is) (λx y H Q=>y=.non/\Q (.bl (decide (x=.non))) H):=by
 intro pins s σ H x y v u Q I rx ry h;obtain⟨rfl,q⟩:=h;cases ry;refine is_none_gen (aR I q ?_)
 cases x <;> first
  | (cases rx;rfl)
  | (obtain⟨t,rfl⟩:=rx;rfl)
theorem rX:OpR X (compareOp .IsNot) (λx y H Q=>y=.non/\Q (.bl (!decide (x=.non))) H):=by
 intro pins s σ H x y v u Q I rx ry h;obtain⟨rfl,q⟩:=h;cases ry;refine isnot_none_gen (aR I q ?_)
 cases x <;> first
  | (cases rx;rfl)
  | (obtain⟨t,rfl⟩:=rx;rfl)
variable {op op':CmpOp}
theorem aQ (b:Expr) (h:op≠.In:=by decide) (h2:op≠.NotIn:=by decide):behindInMarks op b=false:=by
 have e1:(op==CmpOp.In)=false:=by cases op <;> first|rfl|exact absurd rfl h
 have e2:(op==CmpOp.NotIn)=false:=by cases op <;> first|rfl|exact absurd rfl h2
 cases b <;> simp[behindInMarks,e1,e2]
variable {r r':R2}
theorem bD (ho:OpR X (compareOp op) r) (ha:PE X a ta) (hb:PE X b tb) (hm:behindInMarks op b=false):PE X (.Compare a [op] [b] pos) (tOp r ta tb):=by
 intro pins s σ H Q I h;exact wpAny_Compare1 (uI ha hb I h λv u s2 x y H2 I2 rx ry q=>ho pins s2 σ H2 x y v u Q I2 rx ry q) hm
def mT (t:TE):TT:=λσ H Q=>t σ H λx H'=>∃k,x=.bl k/\Q k H'
theorem aG (ho:OpR X (compareOp op) r) (ha:PE X a ta) (hb:PE X b tb) (hm:behindInMarks op b=false):PT X (.Compare a [op] [b] pos) (mT (tOp r ta tb)):=by
 intro pins s σ H Q I h
 refine wpAny_isTrue_Compare1 (thn (ha pins s σ H _ I h) λv s1 ⟨x,H1,I1,r1,q1⟩=>thn (hb pins s1 σ H1 _ I1 q1) λu s2 ⟨y,H2,I2,r2,q2⟩ =>
  thn (ho pins s2 σ H2 x y v u _ I2 r1 r2 q2) λc s3 ⟨z,H3,I3,r3,k,e,q3⟩=>?_) hm
 subst e;cases r3;exact Q3 ⟨H3,I3,q3⟩
def lY (r r':R2) (ta tb tc:TE):TE:=λσ H Q=>ta σ H λx H1=>tb σ H1 λy H2=>r x y H2 λz H3=>∃k,z=.bl k /\
 (if k=true then tc σ H3 λw' H4=>r' y w' H4 Q else Q (.bl false) H3)
theorem pV (ho:OpR X (compareOp op) r) (ho':OpR X (compareOp op') r') (ha:PE X a ta) (hb:PE X b tb) (hc:PE X c tc)
  (hm:lastMarks [op,op'] [b,c]=false:=by with_unfolding_all rfl):PE X (.Compare a [op,op'] [b,c] pos) (lY r r' ta tb tc):=by
 intro pins s σ H Q I h
 refine Compare_chain (thn (ha pins s σ H _ I h) λv s1 ⟨x,H1,I1,r1,q1⟩=>chain_link (thn (hb pins s1 σ H1 _ I1 q1) λu s2 ⟨y,H2,I2,r2,q2⟩ =>
  thn (ho pins s2 σ H2 x y v u _ I2 r1 r2 q2) λd s3 ⟨z,H3,I3,r3,k,e,q3⟩=>?_)) hm
 subst e;cases r3;refine Q3 ?_
 cases k with
 | false=>exact ite_ff ⟨.bl false,H3,I3,rfl,q3⟩
 | true=>exact ite_tt (chain_last (thn (hc pins s3 σ H3 _ I3 q3) λw' s4 ⟨z',H4,I4,r4,q4⟩=>ho' pins s4 σ H4 y z' u w' Q I4 r2 r4 q4))
theorem kN (ho:OpR X (compareOp op) r) (ho':OpR X (compareOp op') r') (ha:PE X a ta) (hb:PE X b tb) (hc:PE X c tc)
  (hm:lastMarks [op,op'] [b,c]=false:=by with_unfolding_all rfl):PT X (.Compare a [op,op'] [b,c] pos) (mT (lY r r' ta tb tc)):=by
 intro pins s σ H Q I h
 refine isTrue_chain (thn (ha pins s σ H _ I h) λv s1 ⟨x,H1,I1,r1,q1⟩=>test_link (thn (hb pins s1 σ H1 _ I1 q1) λu s2 ⟨y,H2,I2,r2,q2⟩ =>
  thn (ho pins s2 σ H2 x y v u _ I2 r1 r2 q2) λd s3 ⟨z,H3,I3,r3,k,e,q3⟩=>?_)) hm
 subst e;cases r3;refine Q3 ?_
 cases k with
 | false =>
  obtain⟨k',e',q'⟩:=q3;cases e';exact ite_ff ⟨H3,I3,q'⟩
 | true =>
 refine ite_tt (test_last (thn (hc pins s3 σ H3 _ I3 q3) λw' s4 ⟨z',H4,I4,r4,q4⟩=>thn (ho' pins s4 σ H4 y z' u w' _ I4 r2 r4 q4) λd' s5 ⟨z2,H5,I5,r5,k2,e2,q5⟩=>?_));subst e2;cases r5;exact Q3 ⟨H5,I5,q5⟩
theorem iF:(sizeLine:Nat)<2 ^ 63:=by rw[sizeLine_eq];decide
theorem dU:OpR X (binaryOp .Add) (λx y H Q=>∃i j,x=.str i/\y=.str j/\i.length+j.length<=sizeLine/\Q (.str (i++j)) H):=by
 intro pins s σ H x y v u Q I rx ry h;obtain⟨i,j,rfl,rfl,hz,q⟩:=h;obtain⟨t,rfl⟩:=rx;obtain⟨t',rfl⟩:=ry;exact add_str (λt' tk=>⟨.str (i++j),H,I.tok _,⟨_,rfl⟩,q⟩) hz
theorem dB {x:V} {us:List Value} (r:aW [x] us):∃u,us=[u]/\aO x u:=by
 cases r with
 | cons r1 r2=>cases r2;exact⟨_,rfl,r1⟩
theorem o9 {x y:V} {us:List Value} (r:aW [x,y] us):∃u w',us=[u,w']/\aO x u/\aO y w':=by
 cases r with
 | cons r1 r2 =>
 cases r2 with
 | cons r3 r4=>cases r4;exact⟨_,_,rfl,r1,r3⟩
theorem jB:fW X (.type "int") (λxs H Q=>(∃i,xs=[.int i]/\Q (.int i) H)\/∃k,xs=[.bl k]/\Q (.int (if k then 1 else 0)) H):=by
 intro pins s σ H xs us Q I r h;rcases h with⟨i,rfl,q⟩|⟨k,rfl,q⟩
 ·obtain⟨u,rfl,t,rfl⟩:=dB r;exact call_int_int ⟨.int i,H,I,⟨_,rfl⟩,q⟩
 obtain⟨u,rfl,r1⟩:=dB r;cases r1;exact call_int_bool ⟨.int (if k then 1 else 0),H,I.tok _,⟨_,rfl⟩,q⟩
end
structure ObjM (h:Heap) (x dx C:Addr) (mA:Str->Option Value):Prop where
 obj:h.get? x=some (PySem.W.instObj C dx)
 ns:h.Ns1 dx mA
 ne:dx≠x
variable {mA mg:Str->Option Value}
theorem oF (n:h.Ns1 dx mA):∃od,h.get? dx=some od/\∀name,PySem.W.lookIn name od=some (mA name):=by
 obtain⟨o,es,ep,ho,hd,hk,_,hm⟩:=n;refine⟨o,ho,λname=>?_⟩;have e:=hm name;unfold nsFind findBy at e;rw[<-Array.find?_toList]at e;unfold PySem.W.lookIn;rw[hd];dsimp only
 split
 ·rename_i y q
  rw[q]at e;exact congrArg some e
 rename_i q
 rw[q]at e
 have a:es.toList.any (·.refKey)=false:=by
  rw[List.any_eq_false];intro y hy;obtain⟨z,t,hkey⟩:=hk y (Array.mem_toList_iff.mp hy);simp[DictEntry.refKey,hkey]
 have a':¬es.toList.any (·.refKey)=true:=by rw[a];exact Qn
 rw[Qz a'];exact congrArg some e
theorem ObjM.look {x:Addr} (I:ObjM h x dx C mA):∃od,PySem.W.InstAt h x (PySem.W.instObj C dx) C (some od)/\∀name,PySem.W.lookIn name od=some (mA name) :=
 let ⟨od,ho,hl⟩:=oF I.ns
 ⟨od,⟨I.obj,rfl,rfl,ho⟩,hl⟩
section
variable {prog:Program} {w:World} {A:Around} {E:Value->Shared->Prop} {s:Shared} {K:PySem.W.Frag} {x dx C f:Addr} {mA:Str->Option Value} {name:Str} {v:Value}
end
theorem iW.some_of {v:V} {o:Option Value} (r:iW (some v) o):∃u,o=some u/\aO v u:=by
 cases o with
 | none=>exact(show False from r).elim
 | some u=>exact⟨u,rfl,r⟩
section
variable {P:Program} {w:World} {H H':Hp} {h h':Heap} {a C dx:Addr} {fs fs':List (Str × V)}
theorem sv (hok:HOk P w H h) (e:H a=some (.ins C dx fs)):∃mA,ObjM h a dx C mA/\(∀f,iW (fs.lookup f) (mA f))/\PySem.Within mA (fs.map (·.1))/\fs.length<=1000/\H dx=some (.own a):=by
 obtain⟨d,z,ne,ob,mA,n,r,q⟩:=(show bc P w H h a (.ins C dx fs) from hok a _ e);exact⟨mA,⟨ob,n,ne⟩,r,q,z,d⟩
end
structure Cls (K:PySem.W.Frag) (C:Addr):Prop where
 pg:PySem.W.plainGet K C Str.empty=true
 hd:PySem.W.hasDictIn K C=true
 po:PySem.W.plainOver K C=true
 sa:PySem.W.findIn K (.ref C) "__setattr__" = some (some (.builtin "object.__setattr__"))
theorem Cls.get (c:Cls K C) (f:Str):PySem.W.plainGet K C f=true:=c.pg
structure Con (K:PySem.W.Frag) (C:Addr) (f:Str) (v:V) (u:Value):Prop where
 at_:PySem.W.findIn K (.ref C) f=some (some u)
 rel:aO v u
 get:PySem.W.specialIn K u "__get__" = some none
 cp:PySem.W.copiedNames.contains f=false
structure Meth (K:PySem.W.Frag) (C:Addr) (m:Str) (f:Addr):Prop where
 at_:PySem.W.findIn K (.ref C) m=some (some (.ref f))
 fn:PySem.W.isFn K (.ref f)=true
 kp:PySem.W.keepIn K (.ref f)=true
section
variable {X:Cx} {pins:List (Addr × Obj)} {σ:St} {H:Hp} {s:Shared} {a C dx:Addr} {fs:List (Str × V)} {f:Str} {v:V} {A:Around} {E:Value->Shared->Prop}
end
section
variable {X:Cx} {o e value:Expr} {f:Str} {pos pos' tpos:Pos} {ta tv:TE}
end
section
variable {X:Cx} {pins:List (Addr × Obj)} {σ:St} {H:Hp} {s:Shared} {A:Around} {E:Value->Shared->Prop} {Q:Value->Shared->Prop} {c:Value} {b:Bool}
inductive TyOf (K:PySem.W.Frag) (H:Hp):V->Value->Prop where
 | non:TyOf K H .non (.type "NoneType")
 | bl (x:Bool):TyOf K H (.bl x) (.type "bool")
 | int (i:Int):TyOf K H (.int i) (.type "int")
 | str (x:Str):TyOf K H (.str x) (.type "str")
 | flt (x:UInt64):TyOf K H (.flt x) (.type "float")
 | lst {a:Addr} {xs:List V} (e:H a=some (.lst xs)):TyOf K H (.ref a) (.type "list")
 | frz {a:Addr} {o:Obj} {xs:List V} (e:H a=some (.frz o (.lst xs))):TyOf K H (.ref a) (.type "list")
 | tup {a:Addr} {xs:List V} (e:H a=some (.tup xs)):TyOf K H (.ref a) (.type "tuple")
 | dK {a:Addr} {kvs:List (Key × V)} (e:H a=some (.dK kvs)):TyOf K H (.ref a) (.type "dict")
 | dT {a:Addr} {kvs:List (List Key × V)} (e:H a=some (.dT kvs)):TyOf K H (.ref a) (.type "dict")
 | ins {a C dx:Addr} {fs:List (Str × V)} (e:H a=some (.ins C dx fs)) (cl:Cls K C) (ha:PySem.W.findIn K (.ref C) "__class__" = some (some (.builtin "object.__class__")))
   (hn:PySem.W.specialIn K (.builtin "object.__class__") "__get__" = some (some (.builtin "getset_descriptor.__get__"))) (htk:PySem.W.takesIn K (.builtin "object.__class__")=some true)
   (hm:PySem.W.mroIn K C (.type "object")=some true):TyOf K H (.ref a) (.ref C)
theorem oN {x:V} {u t:Value} (I:Inv X pins σ H s) (rx:aO x u) (ty:TyOf X.K H x t) (e:PySem.W.kitOne X.K t c=some b) (h:∀tk,Q (.bool b) { s with toks:=tk }) :
  wpAny (model X.prog X.w) A (call (.builtin "isinstance") [u,c]) Q E s:=by
 cases ty with
 | non=>cases (show u=Value.none from rx);exact Q5 PySem.W.kitx_none I.kIn True.intro e (λz=>nomatch z) h
 | bl y=>cases (show u=Value.bool y from rx);exact Q5 PySem.W.kitx_bool I.kIn True.intro e (λz=>nomatch z) h
 | int i=>obtain⟨t,q⟩:=(show ∃t,u=Value.int i t from rx);cases q;exact Q5 PySem.W.kitx_int I.kIn True.intro e (λz=>nomatch z) h
 | str y=>obtain⟨t,q⟩:=(show ∃t,u=Value.str y t from rx);cases q;exact Q5 PySem.W.kitx_str I.kIn True.intro e (λz=>nomatch z) h
 | flt y=>obtain⟨t,q⟩:=(show ∃t,u=Value.float y t from rx);cases q;exact Q5 PySem.W.kitx_float I.kIn True.intro e (λz=>nomatch z) h
 | @lst a xs ea =>
  cases (show u=Value.ref a from rx);obtain⟨_,_,n,_,h1⟩:=(show bc X.prog X.w H s.heap a (.lst xs) from I.hok a _ ea);exact Q5 PySem.W.kitx_list I.kIn ⟨_,h1,rfl⟩ e (λz=>nomatch z) h
 | @frz a ob xs ea =>
  cases (show u=Value.ref a from rx);obtain⟨_,_,_,n,_,h1⟩:=(show bc X.prog X.w H s.heap a (.frz ob (.lst xs)) from I.hok a _ ea);exact Q5 PySem.W.kitx_list I.kIn ⟨_,h1,rfl⟩ e (λz=>nomatch z) h
 | @tup a xs ea =>
  cases (show u=Value.ref a from rx);obtain⟨_,_,_,p⟩:=(show bc X.prog X.w H s.heap a (.tup xs) from I.hok a _ ea);obtain⟨o,h1,h2,_⟩:=p;exact Q5 PySem.W.kitx_tuple I.kIn ⟨o,h1,h2⟩ e (λz=>nomatch z) h
 | @dK a kvs ea =>
  cases (show u=Value.ref a from rx);obtain⟨_,_,vs,_,p⟩:=(show bc X.prog X.w H s.heap a (.dK kvs) from I.hok a _ ea);obtain⟨o,es,ep,h1,h2,_⟩:=p;exact Q5 PySem.W.kitx_dict I.kIn ⟨o,h1,h2.1⟩ e (λz=>nomatch z) h
 | @dT a kvs ea =>
  cases (show u=Value.ref a from rx);obtain⟨_,_,xs,_,o,es,ep,h1,h2,_⟩:=(show bc X.prog X.w H s.heap a (.dT kvs) from I.hok a _ ea);exact Q5 PySem.W.kitx_dict I.kIn ⟨o,h1,h2.1⟩ e (λz=>nomatch z) h
 | @ins a C dx fs ea cl ha hn htk hm =>
 cases (show u=Value.ref a from rx);obtain⟨mA,O,_⟩:=sv I.hok ea;obtain⟨od,J,_⟩:=O.look;exact Q5 (PySem.W.kitx_own (cl.get _) cl.hd ha hn htk hm) I.kIn J e (λz=>nomatch z) h
end
structure Room (k:Nat) (A:Around):Prop where
 hd:A.handled=none
 dp:A.depth+3*k+5<recursionLimit
 un:A.units+16*k+200<cLine
theorem Room.mono {j k:Nat} (r:Room k A) (h:j<=k):Room j A:=⟨r.hd,by have:=r.dp;omega,by have:=r.un;omega⟩
theorem Room.deeper {k:Nat} (r:Room (k+1) A) (env:Env):Room k (A.deeper env) :=
 ⟨r.hd,by have:=r.dp;show A.depth+1+3*k+5<_;omega,by have:=r.un;show A.units+3+16*k+200<_;omega⟩
theorem Room.depth {k:Nat} (r:Room k A):A.depth<recursionLimit:=by have:=r.dp;omega
theorem Room.units {k:Nat} (r:Room k A):A.units+64<cLine:=by have:=r.un;omega
def gz:TA:=λ_ H Q=>Q [] H
def bP (ta:TE) (tr:TA):TA:=λσ H Q=>ta σ H λx H1=>tr σ H1 λxs H2=>Q (x::xs) H2
section
variable {X:Cx} {e:Expr} {es:List Expr} {te:TE} {t:TA} {pos:Pos}
theorem ad:PA X [] gz:=λ_ _ _ _ H Q I h=>Calls.spliced_nil ⟨[],H,I,.nil,h⟩
theorem aa (ha:PE X e te) (hr:PA X es t) (hs:starEach (e::es) X.env=(false,eval e X.env)::starEach es X.env:=by rfl):PA X (e::es) (bP te t):=by
 intro pos pins s σ H Q I h;rw[hs];show wpAny _ _ (spliced ((false,eval e X.env)::backTo pos (starEach es X.env))) _ _ s;refine xh (thn (ha pins s σ H _ I h) λu s1 ⟨x,H1,I1,r1,q1⟩=>?_);exact thn (hr pos pins s1 σ H1 _ I1 q1) λus s2 ⟨xs,H2,I2,r2,q2⟩=>⟨x::xs,H2,I2,.cons r1 r2,q2⟩
def uL (t:TA):TE:=λσ H Q=>t σ H λxs H1=>xs.length<=sizeLine/\∀p,H1 p=none->Q (.ref p) (upd H1 p (.tup xs))
def kq (t:TA):TE:=λσ H Q=>t σ H λxs H1=>xs.length<=sizeLine/\∀p,H1 p=none->Q (.ref p) (upd H1 p (.lst xs))
theorem pe_tup {x1} (h:PA X es t):PE X (.Tuple es x1 pos) (uL t):=by
 intro pins s σ H Q I hq;refine wpAny_Tuple_spliced (thn (h pos pins s σ H _ I hq) λus s1 ⟨xs,H1,I1,r,z,q⟩=>⟨by rw[<-r.length];exact z,?_⟩);have hf:H1 s1.heap.objs.size=none:=I1.hok.fresh (Qi _);refine⟨.ref s1.heap.objs.size,upd H1 s1.heap.objs.size (.tup xs),I1.laid (t':=s1.toks) (λb u e=>Qb _ e) (Qi _) ?_,rfl,q _ hf⟩;exact⟨z,us,r,⟨_,Ql _ rfl,rfl,_,rfl⟩⟩
theorem pe_lst (h:PA X es t):PE X (.List es pos) (kq t):=by
 intro pins s σ H Q I hq;refine wpAny_List_spliced (thn (h pos pins s σ H _ I hq) λus s1 ⟨xs,H1,I1,r,z,q⟩=>⟨by rw[<-r.length];exact z,?_⟩);have hf:H1 s1.heap.objs.size=none:=I1.hok.fresh (Qi _);refine⟨.ref s1.heap.objs.size,upd H1 s1.heap.objs.size (.lst xs),I1.laid (t':=s1.toks) (λb u e=>Qb _ e) (Qi _) ?_,rfl,q _ hf⟩;exact⟨z,us,0,r,Ql _ rfl⟩
end
abbrev Sp:=List V->Hp->VK->XK->Prop
abbrev CXT:=List Env->Hp->Shared->XK->Value->Shared->Prop
structure Env0 (P:Program) (w:World) (K:PySem.W.Frag) (mg:Str->Option Value) (base:Heap) (A:Around) (outer:List Env) (s:Shared) (H:Hp):Prop where
 frames:A.frames=some outer
 mod:Mod K mg base
 bs:∀b o,base.get? b=some o->s.heap.get? b=some o/\H b=none
 bsz:base.objs.size<=s.heap.objs.size
 funs:s.heap.FunFrames base outer
 frf:∀b∈frs outer,H b=none
 hok:HOk P w H s.heap
 bare:AllBare s.gens
def CE (outer:List Env) (P:Program) (w:World) (H:Hp) (s:Shared) (Q:VK) (u:Value) (s':Shared):Prop :=
 ∃v H',s'.os=s.os/\AllBare s'.gens/\Un (frs outer) [] H H' s.heap s'.heap/\HOk P w H' s'.heap/\aO v u/\Q v H'
def CR (CX:CXT) (outer:List Env) (P:Program) (w:World) (H:Hp) (s:Shared) (Q:VK) (E:XK) (r:Result) (s':Shared):Prop :=
 match r with
 | .ok (.ret u)=>CE outer P w H s Q u s'
 | .ok _=>False
 | .error e=>CX outer H s E e s'
structure FnOk (P:Program) (w:World) (K:PySem.W.Frag) (mg:Str->Option Value) (base:Heap) (CX:CXT) (k:Nat) (f:Addr) (fd:FuncData) (ps:List Str) (sp:Sp):Prop where
 len:∀vs H Q E,sp vs H Q E->vs.length=ps.length
 run:∀(A:Around) (outer:List Env) (s:Shared) (H:Hp) (args:Args) (us:List Value) (vs:List V) (Q:VK) (E:XK),Room k A->Env0 P w K mg base A outer s H->BindsTo s fd args (ps.zip us)->aW vs us->sp vs H Q E ->
  codeAny (model P w) A (.call (.ref f) args) (CR CX outer P w H s Q E) s
section
variable {X:Cx} {pins:List (Addr × Obj)} {σ:St} {H:Hp} {s s':Shared}
theorem Inv.env0 (I:Inv X pins σ H s):Env0 X.prog X.w X.K X.mg X.base X.A X.stack s H :=
 ⟨I.ok.frames,I.ok.mod,I.bs,QK I.ok.bsz I.sz,I.stack,I.stkFree,I.hok,I.bare⟩
theorem Inv.after {Q:VK} {u:Value} (I:Inv X pins σ H s) (h:CE X.stack X.prog X.w H s Q u s'):EP X pins σ Q u s':=by
 obtain⟨v,H',os,bare,un,hok,r,q⟩:=h;obtain⟨hh,g,d,t,os'⟩:=s';obtain rfl:os'=s.os:=os;exact⟨v,H',I.call (h':=hh) (g':=g) (d':=d) (t':=t) (ch:=[]) un hok bare (λb z=>absurd z (by simp)),r,q⟩
end
def jk (sp:Sp) (dvs:List V) (E:XK) (t:TA):TE:=λσ H Q=>t σ H λvs H1=>sp (vs++dvs) H1 Q E
def fb (K:PySem.W.Frag) (fd:FuncData) (ps:List Str) (ds:List Value):Prop :=
 ∀(s:Shared) (us:List Value),K.In s.heap->(us++ds).length=ps.length->BindsTo s fd ⟨us,[]⟩ (ps.zip (us++ds))
variable {ps N:List Str}
theorem fb.all {fd:FuncData} (h:∀us:List Value,us.length=ps.length->bindArgs fd ⟨us,[]⟩=pure (ps.zip us)):fb K fd ps []:=λs us _ hl=>by
 rw[List.append_nil]at hl ⊢;exact .of_eq (h us hl)
def iX (CX:CXT) (X:Cx) (E:XK):Prop:=∀(pins:List (Addr × Obj)) (σ:St) (H:Hp) (s:Shared) (e:Value) (s':Shared),Inv X pins σ H s->CX X.stack H s E e s'->X.xe e s'
section
variable {X:Cx} {CX:CXT} {k:Nat} {f C:Addr} {fd:FuncData} {ps:List Str} {sp:Sp} {dvs:List V} {ds:List Value} {E:XK} {x m:Str} {p pos apos:Pos} {e o:Expr} {es:List Expr} {ta:TE} {t:TA}
theorem t7 {pins:List (Addr × Obj)} {σ:St} {H:Hp} {s:Shared} {Q:VK} {us:List Value} {vs:List V} (F:FnOk X.prog X.w X.K X.mg X.base CX k f fd ps sp) (hr:Room k X.A) (hb:fb X.K fd ps ds) (hd:aW dvs ds) (hx:iX CX X E)
  (I:Inv X pins σ H s) (r:aW vs us) (h:sp (vs++dvs) H Q E):wpAny (model X.prog X.w) X.A (call (.ref f) us) (EP X pins σ Q) X.xe s:=by
 have r2:aW (vs++dvs) (us++ds):=r.append hd;have hl:(us++ds).length=ps.length:=by rw[<-r2.length];exact F.len _ _ _ _ h
 refine wpAny_call (codeAny_mono (F.run X.A X.stack s H ⟨us,[]⟩ (us++ds) (vs++dvs) Q E hr I.env0 (hb s us I.kIn hl) r2 h) λr s' hq=>?_)
 cases r with
 | error e=>exact hx pins σ H s e s' I hq
 | ok fl =>
 cases fl with
 | ret u=>exact I.after hq
 | next=>exact False.elim hq
 | brk=>exact False.elim hq
 | cont=>exact False.elim hq
theorem rW (F:FnOk X.prog X.w X.K X.mg X.base CX k f fd ps sp) (hr:Room k X.A) (hg:Gl X x) (hm:X.mg x=some (.ref f)) (hk:PySem.W.keepIn X.K (.ref f)=true) (hb:fb X.K fd ps ds) (hd:aW dvs ds) (hx:iX CX X E)
  (ha:PA X (e::es) t) (hdb:(x==("__debug__" : Str))=false:=by decide) (he:starEach (e::es) X.env=(false,eval e X.env)::starEach es X.env:=by rfl) (hpl:(backTo pos (starEach es X.env)).any (·.1)=false:=by rfl) :
  PE X (.Call (.Name x p) (e::es) [] pos) (jk sp dvs E t):=by
 intro pins s σ H Q I h;refine wpAny_Call_Name_kw (j9 I hg hm ?_ hdb);refine PySem.W.callWith_K (h₀:=X.base) I.ok.mod.kin hk (thn (ha pos pins s σ H _ I h) λus s1 ⟨vs,H1,I1,r,q⟩=>⟨I1.kIn,?_⟩) he hpl;exact t7 F hr hb hd hx I1 r q
structure Mk (K:PySem.W.Frag) (C f:Addr):Prop where
 makes:PySem.W.makesIn K C=true
 init:PySem.W.findIn K (.ref C) "__init__" = some (some (.ref f))
 fn:PySem.W.isFn K (.ref f)=true
 kp:PySem.W.keepIn K (.ref C)=true
end
def PK (X:Cx) (kws:List Keyword) (t:TA):Prop :=
 ∀(pos:Pos) (pins:List (Addr × Obj)) (s:Shared) (σ:St) (H:Hp) (Q:List V->Hp->Prop),Inv X pins σ H s->t σ H Q->wpAny (model X.prog X.w) X.A (evalAll ((backToKw pos (keywordEach kws X.env)).map (·.2))) (AP X pins σ Q) X.xe s
section
variable {X:Cx} {CX:CXT} {k:Nat} {f C:Addr} {fd:FuncData} {ps ks:List Str} {sp:Sp} {E:XK} {x m:Str} {p pos apos kpos:Pos} {e o:Expr} {es:List Expr} {kws:List Keyword} {te ta:TE} {t tk:TA} {nm:Option Str}
theorem ud:PK X [] gz:=λ_ _ _ _ H Q I h=>wpAny_evalAll_nil ⟨[],H,I,.nil,h⟩
theorem rP (ha:PE X e te) (hr:PK X kws t):PK X (⟨nm,e,kpos⟩::kws) (bP te t):=by
 intro pos pins s σ H Q I h;show wpAny _ _ (evalAll ((do let v <-eval e X.env;standAt pos;pure v)::(backToKw pos (keywordEach kws X.env)).map (·.2))) _ _ s;refine wpAny_evalAll_cons (Qa (thn (ha pins s σ H _ I h) λu s1 ⟨x,H1,I1,r1,q1⟩=>Qa (wpAny_standAt (Qg ?_))));exact thn (hr pos pins s1 σ H1 _ I1 q1) λus s2 ⟨xs,H2,I2,r2,q2⟩=>⟨x::xs,H2,I2,.cons r1 r2,q2⟩
structure KBinds (K:PySem.W.Frag) (fd:FuncData) (ps ks:List Str) (g:List Value->List Value->List Value) (gV:List V->List V->List V):Prop where
 to:∀(s:Shared) (us ws:List Value),K.In s.heap->(g us ws).length=ps.length->BindsTo s fd ⟨us,ks.zip ws⟩ (ps.zip (g us ws))
 rel:∀{vs:List V} {us:List Value} {zs:List V} {ws:List Value},aW vs us->aW zs ws->aW (gV vs zs) (g us ws)
variable {g:List Value->List Value->List Value} {gV:List V->List V->List V}
end
structure FnScope (N P:List Str) (sc:Scope):Prop where
 kind:sc.kind=.function
 co:sc.isCoroutine=false
 gen:sc.isGenerator=false
 nd:N.Nodup
 pre:N.take P.length=P
 par:∀x∈P,sc.names.lookup x=some .local\/sc.names.lookup x=some .cell
 nofree:∀y∈sc.names,y.2≠.free
theorem jC {kindOf:Str->Option NameKind} {x:Str}:∀{binds:List (Str × Value)} {m:Str->Option Value},(∀v,(x,v)∉binds)->bindL kindOf binds m x=m x
 | [],_,_=>rfl
 | (n,v)::r,m,h=>by
  unfold bindL;rw[jC λw hw=>h w (Qv _ hw)]
  split
  ·have:x≠n:=by rintro rfl;exact h v QZ
   simp[this]
  rfl
theorem jE {kindOf:Str->Option NameKind} {x:Str}:∀{binds:List (Str × Value)} {m:Str->Option Value},(∀v,(x,v)∉binds)->bindC kindOf binds m x=m x
 | [],_,_=>rfl
 | (n,v)::r,m,h=>by
  unfold bindC;rw[jE λw hw=>h w (Qv _ hw)]
  split
  ·rfl
  have:x≠n:=by rintro rfl;exact h v QZ
  simp[this]
theorem jD {kindOf:Str->Option NameKind} {x:Str} {v:Value}:∀{P:List Str} {vs:List Value} {i:Nat} {m:Str->Option Value},P.Nodup->P[i]?=some x->vs[i]?=some v->kindOf x=some .local ->
  bindL kindOf (P.zip vs) m x=some v
 | [],_,_,_,_,h,_,_=>by simp at h
 | _::_,[],_,_,_,_,h,_=>by simp at h
 | p::P,w::vs,0,m,nd,h1,h2,hk=>by
  simp at h1 h2;subst h1;subst h2;show bindL kindOf ((p,w)::P.zip vs) m p=_;unfold bindL;rw[jC λv hv=>(xg.mp nd).1 (List.of_mem_zip hv).1,QC hk];simp
 | p::P,w::vs,i+1,m,nd,h1,h2,hk=>by
  show bindL kindOf ((p,w)::P.zip vs) m x=_;unfold bindL;exact jD (i:=i) (xg.mp nd).2 (by simpa using h1) (by simpa using h2) hk
theorem jF {kindOf:Str->Option NameKind} {x:Str} {v:Value}:∀{P:List Str} {vs:List Value} {i:Nat} {m:Str->Option Value},P.Nodup->P[i]?=some x->vs[i]?=some v->kindOf x≠some .local ->
  bindC kindOf (P.zip vs) m x=some v
 | [],_,_,_,_,h,_,_=>by simp at h
 | _::_,[],_,_,_,_,h,_=>by simp at h
 | p::P,w::vs,0,m,nd,h1,h2,hk=>by
  simp at h1 h2;subst h1;subst h2;show bindC kindOf ((p,w)::P.zip vs) m p=_;unfold bindC;rw[jE λv hv=>(xg.mp nd).1 (List.of_mem_zip hv).1,Qz hk];simp
 | p::P,w::vs,i+1,m,nd,h1,h2,hk=>by
  show bindC kindOf ((p,w)::P.zip vs) m x=_;unfold bindC;exact jF (i:=i) (xg.mp nd).2 (by simpa using h1) (by simpa using h2) hk
def start (N:List Str) (vs:List V):St:=vs.map some++List.replicate (N.length-vs.length) none
noncomputable def cxOf (CX:CXT) (P:Program) (w:World) (K:PySem.W.Frag) (mg:Str->Option Value) (base:Heap) (N:List Str) (qual:Str) (scope:Scope) (f:Addr) (cd:Value) (A:Around) (outer:List Env) (s:Shared) (H:Hp) (E:XK):Cx where
 prog:=P
 w:=w
 K:=K
 mg:=mg
 base:=base
 A:=A.deeper (envOfC qual scope s.heap.objs.size f cd)
 N:=N
 s₀:=s
 H₀:=H
 env:=envOfC qual scope s.heap.objs.size f cd
 outer:=outer
 stack:=envOfC qual scope s.heap.objs.size f cd::outer
 ex:=[]
 calm:=true
 fn:=λ_=>true
 pn:=[]
 xe:=λe s'=>wpAny (model P w) (A.deeper (envOfC qual scope s.heap.objs.size f cd)) (leaving (envOfC qual scope s.heap.objs.size f cd) e) (λ_ s''=>CX outer H s E e s'') (λe' s''=>CX outer H s E e' s'') s'
variable {sc scope:Scope}
theorem lM {n:Nat} {x:Str} (h:sc.names.lookup x=some .cell):∃c,(cellsFrom n sc.names []).lookup x=some c:=by
 have q:=PySem.W.cellsFrom_some sc.names n [] (.inl h);exact Option.isSome_iff_exists.mp q
theorem oO {CX:CXT} {qual:Str} {outer:List Env} {s s1:Shared} {E:XK} {us:List Value} {vs:List V}
  (S:FnScope N ps scope) (hd:A.handled=none) (e0:Env0 P w K mg base A outer s H) (hl:vs.length=ps.length) (r:aW vs us)
  (x:InCallC s s.heap.objs.size (bindL (envOfC qual scope s.heap.objs.size f cd).kindOf (ps.zip us) λ_=>none) (cellsFrom (s.heap.objs.size+1) scope.names []) (bindC (envOfC qual scope s.heap.objs.size f cd).kindOf (ps.zip us) λ_=>none) s1) :
  Inv (cxOf CX P w K mg base N qual scope f cd A outer s H E) [] (start N vs) H s1:=by
 have hpl:ps.length<=N.length:=by have:=congrArg List.length S.pre;rw[QL]at this;omega
 obtain⟨h1,tk,rfl,hk⟩:=x.done;have noA:∀b:Addr,b∉(cxOf CX P w K mg base N qual scope f cd A outer s H E).ex:=λb z=>absurd (show b∈([]:List Addr) from z) (by simp)
 refine⟨⟨e0.mod,S.kind,rfl,rfl,Qi _,λy z c h1 h2=>?_,λy hy=>?_,λy c _ h=>?_,λ_=>hd,Around.frames_deeper e0.frames,.inr ⟨rfl,rfl⟩,λb z=>absurd z (noA b),e0.bs,e0.bsz,λb _ _=>noA b,λb z=>absurd z (noA b),e0.funs,e0.frf⟩,
  rfl,e0.bare,Un.kept hk,⟨_,x.toInCall.ns,λi y v h1 h2 h3=>?_⟩,λy c h=>⟨_,x.cell y c h⟩,e0.hok.fresh (Qi _),λy c h=>?_,λp hp=>absurd (show p∈([]:List (Addr × Obj)) from hp) (by simp),e0.hok.kept hk,?_⟩
 ·exact name_of_addr x.apart (PySem.mem_of_lookup h1) (PySem.mem_of_lookup h2)
 ·have hy:scope.names.lookup y=some .cell\/scope.names.lookup y=some .free:=hy;rcases hy with hy|hy
  ·exact lM hy
  exact absurd rfl (S.nofree _ (PySem.mem_of_lookup hy))
 ·exact Nat.le_of_lt (x.above y c (PySem.mem_of_lookup h))
 ·have hi:i<vs.length:=by
   unfold start at h2;by_cases hi:i<vs.length
   ·exact hi
   rw[QS (by simpa using hi)]at h2;rw[List.getElem?_replicate]at h2
   split at h2 <;> cases h2
  have ha:vs[i]?=some v:=by
   unfold start at h2;rw[QY (by simpa using hi),Qk]at h2
   cases e:vs[i]? with
   | none=>rw[e]at h2;cases h2
   | some a=>rw[e]at h2;cases h2;rfl
  obtain⟨u,hu,rv⟩:=r.get ha
  have hp:ps[i]?=some y:=by
   rw[<-S.pre,List.getElem?_take_of_lt (by omega)];exact h1
  have ndP:ps.Nodup:=by rw[<-S.pre];exact S.nd.sublist (List.take_sublist _ _)
  refine⟨u,rv,?_⟩;rcases S.par y (Qq hp) with k|k
  ·exact .inl ⟨k,jD ndP hp hu k⟩
  obtain⟨c,e⟩:=lM (n:=s.heap.objs.size+1) k;refine .inr ⟨.inl k,c,e,?_⟩;have q:=x.cell y c e;rw[jF ndP hp hu (by show scope.names.lookup y≠_;rw[k];decide)]at q;exact q
 ·exact e0.hok.fresh (Nat.le_of_lt (x.above y c (PySem.mem_of_lookup h)))
 unfold start;show _=N.length;rw[Qh,Qd,Q8];omega
theorem tI {CX:CXT} {k:Nat} {name qual:Str} {params:Arguments} {body:List Stmt} {kV:Value} {an od:Option Addr}
  {osl:Array (Option Value)} {sp:Sp} (lk:K.lookup f=some ⟨oc,od,.func (PySem.W.fnOf name qual params body scope dV kV doc pm an cdv ct),osl⟩) (hcd:PySem.W.codeIn K cdv qual=true) (S:FnScope N ps scope)
  (len:∀vs H Q E,sp vs H Q E->vs.length=ps.length)
  (hbody:∀(A:Around) (outer:List Env) (s:Shared) (H:Hp) (vs:List V) (Q:VK) (E:XK),Room k (A.deeper (envOfC qual scope s.heap.objs.size f cdv))->sp vs H Q E ->
   ∃t,PSs (cxOf CX P w K mg base N qual scope f cdv A outer s H E) body t/\t { nx:=λ_ H'=>Q .non H',rt:=Q } (start N vs) H) :
  FnOk P w K mg base CX (k+1) f (PySem.W.fnOf name qual params body scope dV kV doc pm an cdv ct) ps sp:=by
 refine⟨len,λA outer s H args us vs Q E hr e0 hb r hsp=>?_⟩;have hl:=len _ _ _ _ hsp;have KX:K.In s.heap:=e0.mod.kin.keeps λb o e=>(e0.bs b o e).1;have lim:s.heap.NoLimit:=e0.mod.nolimit.keeps λb o e=>(e0.bs b o e).1
 have hkind:∀y∈ps.zip us,scope.names.lookup y.1=some .local\/(scope.names.lookup y.1=some .cell/\((cellsFrom (s.heap.objs.size+1) scope.names []).lookup y.1).isSome=true):=λ⟨n,v⟩ hy=>by
  rcases S.par n (List.of_mem_zip hy).1 with q|q
  ·exact .inl q
  exact .inr ⟨q,PySem.W.cellsFrom_some _ _ _ (.inl q)⟩
 refine codeAny_call_function hr.depth (KX _ _ lk) rfl S.co S.gen rfl (PySem.W.codeRec_of KX hcd) (hb _ _ _ _ ?_);refine wpAny_newFunctionEnv_cells S.kind hkind λenv he s1 x=>?_;subst he;refine⟨lim.keeps x.toInCall.keep,codeAny_func ?_⟩;obtain⟨t,ht,hq⟩:=hbody A outer s H vs Q E (hr.deeper _) hsp;have I:Inv (cxOf CX P w K mg base N qual scope f cdv A outer s H E) [] (start N vs) H s1:=oO S hr.hd e0 hl r x;refine Q4 (ht [] s1 (start N vs) H _ I hq) (λfl s' hs=>?_) λe s' hs=>hs
 have fin:∀{σ':St} {H':Hp} {v:V} {u:Value},Inv (cxOf CX P w K mg base N qual scope f cdv A outer s H E) [] σ' H' s'->aO v u->Q v H'->CE outer P w H s Q u s' :=
  λ{σ' H' v u} J rv q=>⟨v,H',J.os,J.bare,J.base,J.hok,rv,q⟩
 cases fl with
 | ret u =>
  obtain⟨v,σ',H',J,rv,q⟩:=hs;exact fin J rv q
 | next =>
  obtain⟨σ',H',J,q⟩:=hs;exact fin (v:=V.non) (u:=Value.none) J rfl q
 | brk =>
  obtain⟨_,_,_,q⟩:=hs;exact False.elim q
 | cont =>
 obtain⟨_,_,_,q⟩:=hs;exact False.elim q
section
variable {X:Cx} {x:Str} {p pos:Pos} {e:Expr} {es:List Expr} {t:TA} {id T:String} {r:List V->Hp->VK->Prop}
def tCB (r:List V->Hp->VK->Prop) (t:TA):TE:=λσ H Q=>t σ H λvs H1=>r vs H1 Q
theorem aD (hc:fW X (.builtin id) r) (hg:Gl X x) (hm:X.mg x=none) (hv:bootBuiltins x=some (.builtin id)) (ha:PA X (e::es) t) (hn:x ≠ "__name__" := by decide) (hdb:(x==("__debug__" : Str))=false:=by decide)
  (he:starEach (e::es) X.env=(false,eval e X.env)::starEach es X.env:=by rfl) (hpl:(backTo pos (starEach es X.env)).any (·.1)=false:=by rfl):PE X (.Call (.Name x p) (e::es) [] pos) (tCB r t):=by
 intro pins s σ H Q I h;refine wpAny_Call_Name_kw (cK I hg hm hv ?_ hn hdb);exact PyProof.Rows.callWith_builtin1 (thn (ha pos pins s σ H _ I h) λus s1 ⟨vs,H1,I1,r1,q1⟩=>hc pins s1 σ H1 vs us Q I1 r1 q1) he hpl
theorem cU (hc:fW X (.type T) r) (hg:Gl X x) (hm:X.mg x=none) (hv:bootBuiltins x=some (.type T)) (ha:PA X (e::es) t) (hn:x ≠ "__name__" := by decide) (hdb:(x==("__debug__" : Str))=false:=by decide)
  (he:starEach (e::es) X.env=(false,eval e X.env)::starEach es X.env:=by rfl) (hpl:(backTo pos (starEach es X.env)).any (·.1)=false:=by rfl):PE X (.Call (.Name x p) (e::es) [] pos) (tCB r t):=by
 intro pins s σ H Q I h;refine wpAny_Call_Name_kw (cK I hg hm hv ?_ hn hdb);exact QO (thn (ha pos pins s σ H _ I h) λus s1 ⟨vs,H1,I1,r1,q1⟩=>hc pins s1 σ H1 vs us Q I1 r1 q1) he hpl
end
end L2
namespace HT
open PySem PyProof.Rows
section
open PySem.SeqAt
open PySem.AutoSeq1 (wpAny_loadPart')
open PySem.MeetsSeq PySem.MeetsSeq2 PySem.MeetsSeq3
end
section
variable {prog:Program} {w:World} {A:Around} {E:Value->Shared->Prop} {s:Shared}
def sIx (n d:Nat):Option Int->Nat
 | none=>d
 | some v=>if v<0 then (v+(n:Int)).toNat else min v.toNat n
theorem pE (n d:Nat):sIx n d none=d:=rfl
theorem rH (n d k:Nat):sIx n d (some (k:Int))=min k n:=by
 show (if (k:Int)<0 then ((k:Int)+(n:Int)).toNat else min (k:Int).toNat n)=min k n;rw[Qz (by omega),Int.toNat_natCast]
theorem t6 (n d:Nat) (hd:d<=n) (o:Option Int):sIx n d o<=n:=by
 cases o with
 | none=>exact hd
 | some v =>
 show (if v<0 then (v+(n:Int)).toNat else min v.toNat n)<=n;by_cases hv:v<0
 ·rw[QC hv];omega
 rw[Qz hv];exact Nat.min_le_right _ _
theorem nK (v:Int) (n d:Nat):(if v<0 then max (v+(n:Int)) 0 else min v (n:Int))=((sIx n d (some v):Nat):Int):=by
 show (if v<0 then max (v+(n:Int)) 0 else min v (n:Int))=(((if v<0 then (v+(n:Int)).toNat else min v.toNat n):Nat):Int);by_cases hv:v<0
 ·simp only[QC hv];omega
 simp only[Qz hv];omega
theorem mP (lo hi:Option Int) (n:Nat):Builtin.Slice.sliceAdjust lo hi 1 (n:Int)=(((sIx n 0 lo:Nat):Int),((sIx n n hi:Nat):Int)):=by
 have h1:¬((1:Int)<0):=by omega
 unfold Builtin.Slice.sliceAdjust;simp only[h1,xa];refine Prod.ext ?_ ?_
 ·cases lo with
  | none=>rfl
  | some v=>exact nK v n 0
 cases hi with
 | none=>rfl
 | some v=>exact nK v n n
theorem ml (i j:Nat):Builtin.Slice.slicePlaces (i:Int) (j:Int) 1=j-i:=by
 unfold Builtin.Slice.slicePlaces;have h1:(1:Int)>0:=by omega
 simp only[h1,if_true,Int.ediv_one]
 split <;> omega
variable {o lo hi:Option Int} {v vl vu:Value}
theorem h_ {Q:Option Int->Shared->Prop} (p:IsPart v o) (h:Q o s):wpAny (model prog w) A (Builtin.Slice.slicePartIndex v) Q E s:=by
 cases p with
 | none=>exact slicePart_none h
 | int i t=>exact slicePart_int h
theorem f7 {sl:Addr} {n:Nat} {Q:Int × Int × Nat->Shared->Prop} (hs:s.heap.IsSliceOf sl vl vu .none) (pl:IsPart vl lo) (pu:IsPart vu hi)
  (h:Q (((sIx n 0 lo:Nat):Int),1,sIx n n hi-sIx n 0 lo) s):wpAny (model prog w) A (Builtin.Slice.sliceApplied (.ref sl) (pure (n:Int))) Q E s:=by
 obtain⟨os,hos,hcs,hds⟩:=id hs;unfold Builtin.Slice.sliceApplied Builtin.Slice.sliceFields;refine Qa (Qa (QP hos hds (x:=vl) rfl (Qa (QP hos hds (x:=vu) rfl (Qa (QP hos hds (x:=.none) rfl (Qg ?_)))))));refine Qa (slicePart_none ?_);show wpAny _ _ (if ((1:Int)==0)=true then _ else _) _ _ s;rw[Qz (by decide)];refine Qa (h_ pl (Qa (h_ pu (Qa (Qg ?_)))));show wpAny _ _ (match Builtin.Slice.sliceAdjust lo hi 1 (n:Int) with|(lo,hi)=>pure (lo,(1:Int),Builtin.Slice.slicePlaces lo hi 1)) _ _ s;rw[mP lo hi n];show wpAny _ _ (pure (((sIx n 0 lo:Nat):Int),(1:Int),Builtin.Slice.slicePlaces ((sIx n 0 lo:Nat):Int) ((sIx n n hi:Nat):Int) 1)) _ _ s;rw[ml];exact Qg h
theorem pO (xs:Array Value) (i k:Nat):((List.range k).filterMap λ(m:Nat)=>xs[((i:Int)+(m:Int)*1).toNat]?).toArray=((xs.toList.drop i).take k).toArray:=by
 have e:(λ(m:Nat)=>xs[((i:Int)+(m:Int)*1).toNat]?)=λm=>xs[i+m]?:=by
  funext m;have:((i:Int)+(m:Int)*1).toNat=i+m:=by omega
  rw[this]
 rw[e];have:=pick_run xs i k;rw[List.filterMap_map]at this;have e2:((λx=>xs[x]?)∘λx=>i+x)=λm=>xs[i+m]?:=rfl;rw[e2]at this;rw[this]
theorem fO {t sl:Addr} {items:Array Value} {Q:Value->Shared->Prop} (ht:IsTup s.heap t items) (hs:s.heap.IsSliceOf sl vl vu .none) (pl:IsPart vl lo) (pu:IsPart vu hi)
  (hw:¬(sIx items.size 0 lo=0/\sIx items.size items.size hi=items.size))
  (h:Q (.ref s.heap.objs.size) { s with heap:=s.heap.push { cls:=.type "tuple", data:=.seq ((items.toList.drop (sIx items.size 0 lo)).take (sIx items.size items.size hi-sIx items.size 0 lo)).toArray } })
  (hsz:items.size<=sizeLine):wpAny (model prog w) A (getItem (.ref t) (.ref sl)) Q E s:=by
 have htake:sizeOk (.seq ((items.toList.drop (sIx items.size 0 lo)).take (sIx items.size items.size hi-sIx items.size 0 lo)).toArray):=by
  show ((items.toList.drop (sIx items.size 0 lo)).take (sIx items.size items.size hi-sIx items.size 0 lo)).toArray.size<=sizeLine;rw[Qf,QL,List.length_drop,QA];omega
 have hj:sIx items.size items.size hi<=items.size:=t6 _ _ (Qi _) hi;obtain⟨os,hos,hcs,hds⟩:=id hs;have hTs:s.TypeIs (.ref sl) "slice" := ⟨os,hos,hcs⟩;unfold getItem
 try with_reducible refine QQ ?_
 first|refine Qa (Qg ?_)|skip
 refine Qa (wpAny_sequenceKey ht.typeIs (by decide) ?_)
 refine Qa (xi (name:=Str.ofString "__getitem__") ht.typeIs PyProof.Rows.slot_tuple_getitem
  (wpAny_call_entry PyProof.Rows.slot_tuple_getitem ht.typeIs entry_tuple_getitem ?_ (args_tuple_getitem _ _)))
 show wpAny _ _ (Builtin.Tuple.tupleItemsOf (.ref t) >>= _) _ _ s;refine Qa (tupleItemsOf_ ht ?_);refine Qa (wpAny_typeOf hTs ?_);rw[QC (by decide)];refine Qa (f7 hs pl pu ?_)
 have hno:¬((((sIx items.size 0 lo:Nat):Int)==0&&(1:Int)==1&&(sIx items.size items.size hi-sIx items.size 0 lo)==items.size)=true):=by
  intro q;rw[xj,xj]at q;have q1:((sIx items.size 0 lo:Nat):Int)=0:=eq_of_beq q.1.1;have q2:sIx items.size items.size hi-sIx items.size 0 lo=items.size:=eq_of_beq q.2;exact hw ⟨by omega,by omega⟩
 show wpAny _ _ (if (((sIx items.size 0 lo:Nat):Int)==0&&(1:Int)==1&&(sIx items.size items.size hi-sIx items.size 0 lo)==items.size)=true then _ else _) _ _ s;rw[Qz hno,pO]
 first
  | exact Qa (m:=Builtin.Tuple.tupleExact _) (wpAny_newObj_type (Qg ⟨_,rfl,Qg h⟩) htake)
  | exact Qa (m:=Builtin.Tuple.tupleExact _) (wpAny_newObj_type (Qa (Qg (Qg ⟨_,rfl,Qg h⟩))) htake)
  | exact Qa (Qa (m:=Builtin.Tuple.tupleExact _) (wpAny_newObj_type (Qg (Qg ⟨_,rfl,Qg h⟩)) htake))
  | exact Qa (Qa (m:=Builtin.Tuple.tupleExact _) (wpAny_newObj_type (Qg ⟨_,rfl,Qg h⟩) htake))
end
end HT
namespace L2
open PySem PySem.Spec PyProof.Rows
abbrev TO:=St->Hp->(Option Int->Hp->Prop)->Prop
def PO (X:Cx) (e:Option Expr) (t:TO):Prop :=
 ∀(pins:List (Addr × Obj)) (s:Shared) (σ:St) (H:Hp) (Q:Option Int->Hp->Prop),Inv X pins σ H s->t σ H Q ->
  wpAny (model X.prog X.w) X.A (evalPart e X.env) (λu s'=>∃o H',Inv X pins σ H' s'/\IsPart u o/\Q o H') X.xe s
def jI:TO:=λ_ H Q=>Q none H
def sN (t:TE):TO:=λσ H Q=>t σ H λx H1=>∃i,x=.int i/\Q (some i) H1
section
variable {X:Cx} {e:Expr} {te:TE} {lo hi:Option Expr} {tl th:TO} {pos p2:Pos}
theorem dS:PO X none jI:=by
 intro pins s σ H Q I h;rw[evalPart_none];exact Qg ⟨none,H,I,.none,h⟩
theorem dR (h:PE X e te):PO X (some e) (sN te):=by
 intro pins s σ H Q I hw;rw[evalPart_some];refine thn (h pins s σ H _ I hw) λu s1 ⟨x,H1,I1,r1,q1⟩=>?_;obtain⟨i,rfl,q⟩:=q1;obtain⟨t,rfl⟩:=r1;exact⟨some i,H1,I1,.int i t,q⟩
def SlR (X:Cx) (r:V->Option Int->Option Int->Hp->VK->Prop):Prop :=
 ∀(pins:List (Addr × Obj)) (s:Shared) (σ:St) (H:Hp) (x:V) (v vl vu:Value) (lo hi:Option Int) (sl:Addr) (Q:VK),Inv X pins σ H s->aO x v->s.heap.IsSliceOf sl vl vu .none->IsPart vl lo->IsPart vu hi->r x lo hi H Q ->
  ∃T id,typeLookup (.type T) "__getitem__" = pure (some (.builtin id))/\s.TypeIs v T/\wpAny (model X.prog X.w) X.A (getItem v (.ref sl)) (EP X pins σ Q) X.xe s
def tSl (r:V->Option Int->Option Int->Hp->VK->Prop) (te:TE) (tl th:TO):TE:=λσ H Q=>te σ H λx H1=>tl σ H1 λl H2=>th σ H2 λu H3=>r x l u H3 Q
theorem c6 {r:V->Option Int->Option Int->Hp->VK->Prop} (hr:SlR X r) (he:PE X e te) (hl:PO X lo tl) (hu:PO X hi th):PE X (.Subscript e (.Slice lo hi none p2) pos) (tSl r te tl th):=by
 intro pins s σ H Q I h;refine Subscript_ (thn (he pins s σ H _ I h) λv s1 ⟨x,H1,I1,r1,q1⟩=>?_);refine wpAny_Slice (thn (hl pins s1 σ H1 _ I1 q1) λvl s2 ⟨l,H2,I2,pl,q2⟩=>thn (hu pins s2 σ H2 _ I2 q2) λvu s3 ⟨u,H3,I3,pu,q3⟩=>?_);rw[evalPart_none];refine Qg ?_;have I4:Inv X pins σ H3 { s3 with heap:=s3.heap.push { cls:=.type "slice", data:=.fields #[vl,vu,.none] } }:=I3.kept (t':=s3.toks) λb ob q=>Qb _ q;obtain⟨T,id,hT,ht,hg⟩:=hr pins { s3 with heap:=s3.heap.push { cls:=.type "slice", data:=.fields #[vl,vu,.none] } } σ H3 x v vl vu l u s3.heap.objs.size Q I4 r1 (Heap.IsSliceOf.new ..) pl pu q3;show wpAny (model X.prog X.w) X.A (subscriptTail e (.Slice lo hi none p2) v (.ref s3.heap.objs.size)) (EP X pins σ Q) X.xe { s3 with heap:=s3.heap.push { cls:=.type "slice", data:=.fields #[vl,vu,.none] } };exact tail_any (ops:=[.ref s3.heap.objs.size,v]) ht hT hg (by with_unfolding_all rfl)
def ja (xs:List V) (lo hi:Option Int):List V:=(xs.drop (HT.sIx xs.length 0 lo)).take (HT.sIx xs.length xs.length hi-HT.sIx xs.length 0 lo)
theorem gt (xs:List V) (lo hi:Option Int):(ja xs lo hi).length<=xs.length:=by
 unfold ja;rw[QL,List.length_drop];omega
def v3 (K:PySem.W.Frag):V->Option Int->Option Int->Hp->VK->Prop:=λx lo hi H Q=>∃a xs,x=.ref a/\SqT K H a xs /\
 ¬(HT.sIx xs.length 0 lo=0/\HT.sIx xs.length xs.length hi=xs.length)/\∀p,H p=none->Q (.ref p) (upd H p (.tup (ja xs lo hi)))
theorem t0:SlR X (v3 X.K):=by
 intro pins s σ H x v vl vu lo hi sl Q I rx hs pl pu h;obtain⟨a,xs,rfl,hx,hw,q⟩:=h;cases rx;obtain⟨its,r,ht,hz⟩:=I.tuple hx;have hlen:its.toArray.size=xs.length:=by rw[Qf];exact r.length.symm
 refine⟨"tuple", _,PyProof.Rows.slot_tuple_getitem.lookup,ht.typeIs,?_⟩;refine HT.fO ht hs pl pu (by rw[hlen];exact hw) ?_ (by rw[hlen];exact hz);rw[hlen];refine⟨.ref s.heap.objs.size,_,I.laid (t':=s.toks) (o:=.tup (ja xs lo hi)) (λb ob q=>Qb _ q) (Qi _) ?_,rfl,q _ (I.hok.fresh (Qi _))⟩;exact⟨QK (gt xs lo hi) hz,_,(r.drop (HT.sIx xs.length 0 lo)).take (HT.sIx xs.length xs.length hi-HT.sIx xs.length 0 lo),IsTup.new _ _⟩
end
def ixN (n:Nat) (i:Int):Option Nat:=if 0<=i then (if i<n then some i.toNat else none) else if -(n:Int)<=i then some (i+n).toNat else none
def atI {α:Type} (xs:List α) (i:Int):Option α:=(ixN xs.length i).bind λj=>xs[j]?
theorem sr {n:Nat} {i:Int} {j:Nat} (h:ixN n i=some j):seqIndex? i n=some j/\j<n/\-(n:Int)<=i/\i<n:=by
 unfold ixN at h;by_cases h0:0<=i
 ·rw[QC h0]at h;by_cases h1:i<n
  ·rw[QC h1]at h;have e:i.toNat=j:=QR h;exact⟨by rw[seqIndex_of h0 h1,e],by omega,by omega,h1⟩
  rw[Qz h1]at h;cases h
 rw[Qz h0]at h;by_cases h1:-(n:Int)<=i
 ·rw[QC h1]at h;have e:(i+n).toNat=j:=QR h;exact⟨by rw[seqIndex_neg (by omega) h1,e],by omega,h1,by omega⟩
 rw[Qz h1]at h;cases h
theorem ki {α:Type} {xs:List α} {i:Int} {v:α} (h:atI xs i=some v):∃j,seqIndex? i xs.length=some j/\xs[j]?=some v/\j<xs.length/\-(xs.length:Int)<=i/\i<xs.length:=by
 unfold atI at h
 cases e:ixN xs.length i with
 | none=>rw[e]at h;cases h
 | some j =>
 rw[e]at h;obtain⟨h1,h2,h3,h4⟩:=sr e;exact⟨j,h1,h,h2,h3,h4⟩
theorem d4 {α:Type} {xs:List α} {j:Nat} {v:α} (h:xs[j]?=some v):atI xs (j:Int)=some v:=by
 have hj:j<xs.length:=(Qc.mp h).1
 have e:ixN xs.length (j:Int)=some j:=by
  unfold ixN;rw[QC (by omega),QC (by omega)];simp
 unfold atI;rw[e];exact h
def sJ (b:Expr):Prop:=∀o i,subscripted b false o i=operate [o,i] (getItem o i)
def IxR (X:Cx) (r:R2):Prop :=
 ∀(value slice:Expr) (pins:List (Addr × Obj)) (s:Shared) (σ:St) (H:Hp) (x y:V) (v u:Value) (Q:VK),Inv X pins σ H s->aO x v->aO y u->r x y H Q ->
  subscripted slice false v u=operate [v,u] (getItem v u)->wpAny (model X.prog X.w) X.A (subscriptTail value slice v u) (EP X pins σ Q) X.xe s
def MtR (X:Cx) (id:String) (r:V->List V->Hp->VK->Prop):Prop :=
 ∀(pins:List (Addr × Obj)) (s:Shared) (σ:St) (H:Hp) (x:V) (xs:List V) (v:Value) (us:List Value) (Q:VK),Inv X pins σ H s->aO x v->aW xs us->r x xs H Q ->
  wpAny (model X.prog X.w) X.A (call (.builtin id) (v::us)) (EP X pins σ Q) X.xe s
section
variable {X:Cx} {a b:Expr} {ta tb:TE} {pos:Pos}
theorem aA {r:R2} (hr:IxR X r) (ha:PE X a ta) (hb:PE X b tb) (hs:sJ b):PE X (.Subscript a b pos) (tOp r ta tb):=by
 intro pins s σ H Q I h;exact Subscript_ (uI ha hb I h λv u s2 x y H2 I2 rx ry q=>hr a b pins s2 σ H2 x y v u Q I2 rx ry q (hs _ _))
def t9 (K:PySem.W.Frag):R2:=λx y H Q=>∃p xs i v,x=.ref p/\y=.int i/\SqL K H p xs/\atI xs i=some v/\Q v H
def mh (K:PySem.W.Frag):R2:=λx y H Q=>∃p xs i v,x=.ref p/\y=.int i/\SqT K H p xs/\atI xs i=some v/\Q v H
def u0:R2:=λx y H Q=>∃z i c,x=.str z/\y=.int i/\z.length<=sizeLine/\atI z.cps.toList i=some c/\Q (.str ⟨#[c]⟩) H
theorem cR:IxR X (t9 X.K):=by
 intro value slice pins s σ H x y v u Q I rx ry h hs;obtain⟨p,xs,i,z,rfl,rfl,hq,he,q⟩:=h;cases rx;obtain⟨t,rfl⟩:=ry;obtain⟨its,r,pl,hz⟩:=I.list hq;obtain⟨j,h1,h2,h3,h4,h5⟩:=ki he;obtain⟨w,ew,rw'⟩:=r.get h2;have hl:=r.length;have hn:=iF;have fin:EP X pins σ Q w s:=⟨z,H,I,rw',q⟩;by_cases h0:0<=i
 ·have hj:i.toNat=j:=by
   rw[seqIndex_of h0 h5]at h1;exact QR h1
  exact item_listR pl.isList h0 (by omega) (by rw[hj];simpa using ew) fin hs
 have hj:(i+(its.toArray.size:Int)).toNat=j:=by
  rw[seqIndex_neg (by omega) h4]at h1;rw[Qf,<-hl];exact QR h1
 exact subscriptTail_builtinR (x:=w) pl.isList.typeIs slot_list_getitem.lookup
  (wpAny_getItem_list_neg (Q:=λr s'=>r=w/\EP X pins σ Q r s') pl.isList (by omega) (by rw[Qf] <;> omega) (by omega) (by rw[hj];simpa using ew) ⟨rfl,fin⟩) hs
theorem aB:IxR X (mh X.K):=by
 intro value slice pins s σ H x y v u Q I rx ry h hs;obtain⟨p,xs,i,z,rfl,rfl,hq,he,q⟩:=h;cases rx;obtain⟨t,rfl⟩:=ry;obtain⟨its,r,pl,hz⟩:=I.tuple hq;obtain⟨j,h1,h2,h3,h4,h5⟩:=ki he;obtain⟨w,ew,rw'⟩:=r.get h2;have hl:=r.length;have hn:=iF;have fin:EP X pins σ Q w s:=⟨z,H,I,rw',q⟩
 exact subscriptTail_builtinR (x:=w) pl.typeIs slot_tuple_getitem.lookup
  (getItem_tuple (j:=j) (Q:=λr s'=>r=w/\EP X pins σ Q r s') pl (by omega) (by omega) (by rw[Qf,<-hl];exact h1) (by simpa using ew) ⟨rfl,fin⟩) hs
theorem fj:IxR X u0:=by
 intro value slice pins s σ H x y v u Q I rx ry h hs;obtain⟨z,i,c,rfl,rfl,hz,he,q⟩:=h;obtain⟨t,rfl⟩:=rx;obtain⟨t',rfl⟩:=ry;obtain⟨j,h1,h2,h3,h4,h5⟩:=ki he;have hl:z.cps.toList.length=z.length:=by simp[Str.length]
 rw[hl]at h1 h4 h5;have hn:=iF
 exact tail_any (typeIs_str s z t) slot_str_getitem.lookup (getItem_str (c:=c) (by
  have e1:decide (i < -(2 ^ 63:Int))=false:=Qo (by omega);have e2:decide (i>=2 ^ 63)=false:=Qo (by omega)
  rw[e1,e2,Bool.or_false]) (by rw[h1];simpa using h2) ⟨.str ⟨#[c]⟩,H,I.tok _,⟨_,rfl⟩,q⟩) hs
variable {s:Shared} {pins:List (Addr × Obj)}
theorem Inv.lst {σ:St} {H:Hp} {p:Addr} {xs:List V} (I:Inv X pins σ H s) (h:H p=some (.lst xs)) :
  ∃(its:List Value) (n:Nat),aW xs its/\s.heap.get? p=some { cls:=.type "list", data:=.seq its.toArray n }/\xs.length<=sizeLine:=by
 obtain⟨z,its,n,r,e⟩:=I.hok p _ h;exact⟨its,n,r,e,z⟩
def uY:V->V->V->Hp->(Hp->Prop)->Prop:=λo i v H Q=>∃p xs k j,o=.ref p/\i=.int k/\H p=some (.lst xs)/\ixN xs.length k=some j/\Q (upd H p (.lst (xs.set j v)))
theorem sS (i:Int) (n:Nat):max 0 (min (if i<0 then i+(n:Int) else i) (n:Int))=(((if i<0 then (i+(n:Int)).toNat else min i.toNat n):Nat):Int):=by
 by_cases h:i<0
 ·rw[QC h,QC h,Int.min_eq_left (by omega)];omega
 obtain⟨k,rfl⟩:=Int.eq_ofNat_of_zero_le (Int.not_lt.mp h);rw[Qz h,Qz h,Int.toNat_natCast];omega
theorem jT (lo hi:Option Int) (n:Nat):(sliceBounds lo hi none n).1=((HT.sIx n 0 lo:Nat):Int)/\(sliceBounds lo hi none n).2.1=((HT.sIx n n hi:Nat):Int)/\(sliceBounds lo hi none n).2.2=1:=by
 refine⟨?_,?_,rfl⟩
 ·cases lo with
  | none=>simp[sliceBounds,HT.sIx]
  | some i =>
   simp only[sliceBounds,HT.sIx,Option.getD_none,show (1:Int)>0 by decide,if_true];exact sS i n
 cases hi with
 | none=>simp[sliceBounds,HT.sIx]
 | some i =>
 simp only[sliceBounds,HT.sIx,Option.getD_none,show (1:Int)>0 by decide,if_true];exact sS i n
theorem iZ (its:List Value) (lo hi:Option Int):slicePick its.toArray lo hi none=((its.drop (HT.sIx its.length 0 lo)).take (HT.sIx its.length its.length hi-HT.sIx its.length 0 lo)).toArray:=by
 obtain⟨h1,h2,h3⟩:=jT lo hi its.toArray.size;unfold slicePick;rw[h1,h2,h3];simp only[sliceRange_one,pick_run,Qf] <;> rfl
def t8 (K:PySem.W.Frag):V->Option Int->Option Int->Hp->VK->Prop:=λx lo hi H Q=>∃a xs,x=.ref a/\SqL K H a xs/\∀p,H p=none->Q (.ref p) (upd H p (.lst (ja xs lo hi)))
theorem mZ:SlR X (t8 X.K):=by
 intro pins s σ H x v vl vu lo hi sl Q I rx hs pl pu h;obtain⟨a,xs,rfl,hx,q⟩:=h;cases rx;obtain⟨its,r,ht,hz⟩:=I.list hx;have hlen:=r.length;refine⟨"list", _,slot_list_getitem.lookup,ht.isList.typeIs,?_⟩;refine wpAny_getItem_list_slice ht.isList hs pl pu .none (by simp) ?_ (by rw[Qf] <;> omega);rw[iZ,<-hlen];refine⟨.ref s.heap.objs.size,_,I.laid (t':=s.toks) (o:=.lst (ja xs lo hi)) (λb ob q=>Qb _ q) (Qi _) ?_,rfl,q _ (I.hok.fresh (Qi _))⟩;exact⟨QK (gt xs lo hi) hz,_,0,(r.drop (HT.sIx xs.length 0 lo)).take (HT.sIx xs.length xs.length hi-HT.sIx xs.length 0 lo),Ql _ rfl⟩
def cq:V->Bool
 | .non=>true
 | .bl _=>true
 | .int _=>true
 | .str _=>true
 | _=>false
def eqV:V->V->Bool
 | .non,.non=>true
 | .bl a,.bl b=>a==b
 | .bl a,.int b=>(if a then 1 else 0)==b
 | .int a,.bl b=>a==(if b then 1 else 0)
 | .int a,.int b=>a==b
 | .str a,.str b=>a==b
 | _,_=>false
variable {u v:Value}
theorem qW {A:Around} {y x:V} (ry:aO y u) (rx:aO x v) (fy:cq y=true) (fx:cq x=true):SeqAt.EqAt A s u v (eqV y x):=by
 cases y with
 | non =>
  cases ry
  cases x with
  | non=>cases rx;exact SeqAt.EqAt.same _
  | bl b=>cases rx;exact SeqAt.EqAt.none_bool b
  | int b=>obtain⟨t,rfl⟩:=rx;exact SeqAt.EqAt.none_int b t
  | str b=>obtain⟨t,rfl⟩:=rx;exact SeqAt.EqAt.none_str b t
  | _=>exact absurd (show false=true from fx) Qn
 | bl a =>
  cases ry
  cases x with
  | non=>cases rx;exact SeqAt.EqAt.bool_none a
  | bl b=>cases rx;exact SeqAt.EqAt.bool_bool a b
  | int b=>obtain⟨t,rfl⟩:=rx;exact SeqAt.EqAt.bool_int a b t
  | str b=>obtain⟨t,rfl⟩:=rx;exact SeqAt.EqAt.bool_str a b t
  | _=>exact absurd (show false=true from fx) Qn
 | int a =>
  obtain⟨t',rfl⟩:=ry
  cases x with
  | non=>cases rx;exact SeqAt.EqAt.int_none a t'
  | bl b=>cases rx;exact SeqAt.EqAt.int_bool a t' b
  | int b=>obtain⟨t,rfl⟩:=rx;exact SeqAt.EqAt.int_int a t' b t
  | str b=>obtain⟨t,rfl⟩:=rx;exact SeqAt.EqAt.int_str a t' b t
  | _=>exact absurd (show false=true from fx) Qn
 | str a =>
  obtain⟨t',rfl⟩:=ry
  cases x with
  | non=>cases rx;exact SeqAt.EqAt.str_none a t'
  | bl b=>cases rx;exact SeqAt.EqAt.str_bool a t' b
  | int b=>obtain⟨t,rfl⟩:=rx;exact SeqAt.EqAt.str_int a t' b t
  | str b=>obtain⟨t,rfl⟩:=rx;exact SeqAt.EqAt.str_str a t' b t
  | _=>exact absurd (show false=true from fx) Qn
 | _=>exact absurd (show false=true from fy) Qn
def eqU (x:V) (u:Value):Bool:=match u with
 | .none=>eqV .non x
 | .bool b=>eqV (.bl b) x
 | .int i _=>eqV (.int i) x
 | .str z _=>eqV (.str z) x
 | _=>false
theorem qV {x y:V} (r:aO y u) (f:cq y=true):eqU x u=eqV y x:=by
 cases y with
 | non=>cases r;rfl
 | bl b=>cases r;rfl
 | int i=>obtain⟨t,rfl⟩:=r;rfl
 | str z=>obtain⟨t,rfl⟩:=r;rfl
 | _=>exact absurd (show false=true from f) Qn
theorem fV {x:V}:∀{xs:List V} {us:List Value},aW xs us->xs.all cq=true->us.any (eqU x)=xs.any λy=>eqV y x
 | _,_,.nil,_=>rfl
 | y::xs,u::us,.cons r t,f=>by
  rw[List.all_cons,xj]at f;rw[List.any_cons,List.any_cons,qV r f.1,fV t f.2]
theorem eG {A:Around} {s:Shared} {x:V} {v:Value} (rx:aO x v) (fx:cq x=true):∀{xs:List V} {us:List Value},aW xs us->xs.all cq=true->∀u∈us,SeqAt.EqAt A s u v (eqU x u)
 | _,_,.nil,_=>λu hu=>by cases hu
 | y::xs,u::us,.cons r t,f=>λu' hu=>by
  rw[List.all_cons,xj]at f;rcases QE.mp hu with rfl|hu
  ·rw[qV r f.1];exact qW r rx f.1 fx
  exact eG rx fx t f.2 u' hu
def inV (x:V) (xs:List V):Bool:=xs.any λy=>eqV y x
def rIn (K:PySem.W.Frag) (neg:Bool):R2:=λx y H Q=>∃p xs,y=.ref p/\(SqL K H p xs\/SqT K H p xs)/\cq x=true/\xs.all cq=true/\Q (.bl (if neg then !inV x xs else inV x xs)) H
theorem dI:OpR X (compareOp .In) (rIn X.K false):=by
 intro pins s σ H x y v u Q I rx ry h;obtain⟨p,xs,rfl,hq,fx,fs,q⟩:=h;cases ry;rcases hq with hq|hq
 ·obtain⟨its,r,pl,hz⟩:=I.list hq;refine SeqAt.in_listAt (eqU x) pl.isList (λw hw=>eG rx fx r fs w (by simpa using hw)) ⟨.bl _,H,I,rfl,?_⟩;rw[show its.toArray.any (eqU x)=its.any (eqU x) by simp,fV r fs];exact q
 obtain⟨its,r,pl,hz⟩:=I.tuple hq;refine SeqAt.in_tupleAt (eqU x) pl (λw hw=>eG rx fx r fs w (by simpa using hw)) ⟨.bl _,H,I,rfl,?_⟩;rw[show its.toArray.any (eqU x)=its.any (eqU x) by simp,fV r fs];exact q
theorem bE:OpR X (compareOp .NotIn) (rIn X.K true):=by
 intro pins s σ H x y v u Q I rx ry h;obtain⟨p,xs,rfl,hq,fx,fs,q⟩:=h;cases ry;rcases hq with hq|hq
 ·obtain⟨its,r,pl,hz⟩:=I.list hq;refine SeqAt.notIn_listAt (eqU x) pl.isList (λw hw=>eG rx fx r fs w (by simpa using hw)) ⟨.bl _,H,I,rfl,?_⟩;rw[show its.toArray.any (eqU x)=its.any (eqU x) by simp,fV r fs];exact q
 obtain⟨its,r,pl,hz⟩:=I.tuple hq;refine SeqAt.notIn_tupleAt (eqU x) pl (λw hw=>eG rx fx r fs w (by simpa using hw)) ⟨.bl _,H,I,rfl,?_⟩;rw[show its.toArray.any (eqU x)=its.any (eqU x) by simp,fV r fs];exact q
theorem aK:fW X (.builtin "len") (λxs H Q=>∃p ys,xs=[.ref p]/\(SqL X.K H p ys\/SqT X.K H p ys)/\Q (.int ys.length) H):=by
 intro pins s σ H xs us Q I r h;obtain⟨p,ys,rfl,hq,q⟩:=h;obtain⟨u,rfl,rx⟩:=dB r;cases rx;have hn:=iF;rcases hq with hq|hq
 ·obtain⟨its,r',pl,hz⟩:=I.list hq;have hlen:=r'.length;exact Calls.call_len_list pl.isList (by simp only[Qf] <;> omega) ⟨.int ys.length,H,I.tok _,⟨s.toks+1,by rw[Qf,hlen]⟩,q⟩
 obtain⟨its,r',pl,hz⟩:=I.tuple hq;have hlen:=r'.length;exact len_tuple pl (by simp only[Qf] <;> omega) ⟨.int ys.length,H,I.tok _,⟨s.toks+1,by rw[Qf,hlen]⟩,q⟩
theorem fU:fW X (.builtin "len") (λxs H Q=>∃z,xs=[.str z]/\z.length<=sizeLine/\Q (.int z.length) H):=by
 intro pins s σ H xs us Q I r h;obtain⟨z,rfl,hz,q⟩:=h;obtain⟨u,rfl,t,rfl⟩:=dB r;have hn:=iF;exact len_str (by omega) ⟨.int z.length,H,I.tok _,⟨_,rfl⟩,q⟩
theorem fT:fW X (.type "list") (λxs H Q=>∃p ys,xs=[.ref p]/\(SqL X.K H p ys\/SqT X.K H p ys)/\∀l,H l=none->Q (.ref l) (upd H l (.lst ys))):=by
 intro pins s σ H xs us Q I r h;obtain⟨p,ys,rfl,hq,q⟩:=h;obtain⟨u,rfl,rx⟩:=dB r;cases rx
 have fin:∀(its:List Value),aW ys its->ys.length<=sizeLine->∀(h':Heap) (c':Nat),(∀b o',s.heap.get? b=some o'->h'.get? b=some o') ->
   h'.get? s.heap.objs.size=some { cls:=.type "list", dict:=none,data:=.seq its.toArray c',slots:=#[] }->EP X pins σ Q (.ref s.heap.objs.size) { s with heap:=h' }:=λits r' hz h' c' kp e =>
  ⟨.ref s.heap.objs.size,_,I.laid (t':=s.toks) kp (Qi _) (show bc X.prog X.w _ h' _ (.lst ys) from⟨hz,its,c',r',e⟩),rfl,q _ (I.hok.fresh (Qi _))⟩
 rcases hq with hq|hq
 ·obtain⟨its,r',pl,hz⟩:=I.list hq;have hlen:=r'.length;obtain⟨o,ho,hc,n,hd⟩:=pl.isList;exact call_list_seq p (.inl rfl) ho hc hd (λh' c' kp e=>fin its r' hz h' c' kp e) (by simp only[Qf] <;> omega)
 obtain⟨its,r',pl,hz⟩:=I.tuple hq;have hlen:=r'.length;obtain⟨o,ho,hc,n,hd⟩:=pl;exact call_list_seq p (.inr rfl) ho hc hd (λh' c' kp e=>fin its r' hz h' c' kp e) (by simp only[Qf] <;> omega)
def tyV (K:PySem.W.Frag) (T:String) (x:V) (H:Hp):Prop:=match x with
 | .str _=>T = "str"
 | .int _=>T = "int"
 | .ref p=>(T = "list" /\ ∃xs,SqL K H p xs)\/(T = "tuple" /\ ∃o,K.lookup p=some o/\o.cls=.type "tuple" /\ o.dict=none) \/
   (T = "dict" /\ ((∃kvs,H p=some (.dK kvs))\/∃kvs,H p=some (.dT kvs)))\/(T = "set" /\ ∃S n,H p=some (.set S n))
 | _=>False
theorem tQ {σ:St} {H:Hp} {T:String} {x:V} (I:Inv X pins σ H s) (r:aO x v) (ty:tyV X.K T x H) :
  s.TypeIs v T/\∀a,v=.ref a->∃ob,s.heap.get? a=some ob/\ob.dict=none:=by
 cases x with
 | str z =>
  obtain⟨t,rfl⟩:=r;cases (show T = "str" from ty);exact⟨typeIs_str s z t,λ_ e=>nomatch e⟩
 | int i =>
  obtain⟨t,rfl⟩:=r;cases (show T = "int" from ty);exact⟨typeIs_int s i t,λ_ e=>nomatch e⟩
 | ref p =>
  cases r;rcases ty with⟨rfl,xs,hq⟩|⟨rfl,o,hk,hc,hd⟩|⟨rfl,hk⟩|⟨rfl,S,n,hk⟩
  ·obtain⟨its,_,pl,_⟩:=I.list hq;refine⟨pl.isList.typeIs,λa e=>?_⟩;cases e;obtain⟨o,n,e,c,hd,_⟩:=pl;exact⟨o,e,hd⟩
  ·refine⟨⟨o,I.kIn p o hk,hc⟩,λa e=>?_⟩;cases e;exact⟨o,I.kIn _ o hk,hd⟩
  ·have z:∃o,s.heap.get? p=some o/\o.ExactDict:=by
    rcases hk with⟨kvs,hk⟩|⟨kvs,hk⟩
    ·obtain⟨_,_,_,_,o,_,_,e,ex,_⟩:=I.hok p _ hk;exact⟨o,e,ex⟩
    obtain⟨_,_,_,_,o,_,_,e,ex,_⟩:=I.hok p _ hk;exact⟨o,e,ex⟩
   obtain⟨o,e,ex⟩:=z;refine⟨⟨o,e,ex.1⟩,λa e2=>?_⟩;cases e2;exact⟨o,e,ex.2.1⟩
  obtain⟨o,_,_,_,e,ex,_⟩:=I.hok p _ hk;refine⟨⟨o,e,ex.1⟩,λa e2=>?_⟩;cases e2;exact⟨o,e,ex.2.1⟩
 | _=>exact False.elim ty
def tBM (K:PySem.W.Frag) (T:String) (r:V->List V->Hp->VK->Prop) (to:TE) (t:TA):TE:=λσ H Q=>to σ H λx H1=>tyV K T x H1/\t σ H1 λxs H2=>r x xs H2 Q
variable {o e:Expr} {es:List Expr} {to:TE} {t:TA} {name:Str} {apos cpos:Pos} {T id:String} {r:V->List V->Hp->VK->Prop}
theorem d_ (pa:PlainAttrs T) (slot:Slot T name id) (hty:typeOf (.builtin id)=pure (.type "method_descriptor")) (hm:MtR X id r) (ho:PE X o to) (ha:PA X (e::es) t)
  (hbase:attributeBase o name X.env (eval o X.env)=eval o X.env:=by rfl)
  (hfew:((backTo cpos (starEach (e::es) X.env)).all (fun x=>!x.1)&&(backToKw cpos (keywordEach [] X.env)).all (fun x=>x.1.isSome)
   && decide ((e::es).length+([]:List Keyword).length+(if ([]:List Keyword).isEmpty then 0 else 1)<30))=true:=by rfl)
  (hline:(apos.endLine==cpos.line)=true:=by rfl) (hs:starEach (e::es) X.env=(false,eval e X.env)::starEach es X.env:=by rfl) (hplain:(backTo cpos (starEach es X.env)).any (·.1)=false:=by rfl) :
  PE X (.Call (.Attribute o name apos) (e::es) [] cpos) (tBM X.K T r to t):=by
 intro pins s σ H Q I h;refine wpAny_Call_method_late hbase hfew hline rfl (thn (ho pins s σ H _ I h) λv s1 ⟨x,H1,I1,r1,ty,q1⟩=>?_);obtain⟨h1,h2⟩:=tQ I1 r1 ty;refine⟨T,id,pa,slot,hty,h1,h2,?_⟩;have hA:=ha cpos pins s1 σ H1 _ I1 q1;rw[hs]at hA ⊢;refine Calls.callWith_builtin (by show (false || (backTo cpos (starEach es X.env)).any (·.1))=false;rw[hplain] <;> rfl) (Calls.evalArgs_plain ?_);exact thn hA λus s2 ⟨vs,H2,I2,r2,q2⟩=>hm pins s2 σ H2 x vs v us Q I2 r1 r2 q2
end
def MtM (X:Cx) (id:String) (r:V->List V->Hp->VK->Prop):Prop :=
 ∀(pins:List (Addr × Obj)) (s:Shared) (σ:St) (H:Hp) (x:V) (xs:List V) (v:Value) (us:List Value) (Q:VK),Inv X pins σ H s->aO x v->aW xs us->r x xs H Q ->
  wpAny (model X.prog X.w) X.A (call (.builtin id) (v::us)) (EP X pins σ Q) X.xe s
theorem aW.one:∀{x:V} {us:List Value},aW [x] us->∃u,us=[u]/\aO x u
 | _,_,.cons r .nil=>⟨_,rfl,r⟩
section
variable {X:Cx} {pins:List (Addr × Obj)} {σ:St} {H:Hp} {s:Shared} {l b:Addr} {xs ys zs:List V}
theorem Inv.lset {its its':List Value} {n:Nat} {f:Array Value->Array Value} {t':Nat} (I:Inv X pins σ H s) (hH:H l=some (.lst xs))
  (e:s.heap.get? l=some { cls:=.type "list", data:=.seq its.toArray n }) (hf:f its.toArray=its'.toArray) (hv:aW ys its') (hz:ys.length<=sizeLine) :
  Inv X pins σ (upd H l (.lst ys)) { s with heap:=s.heap.update l (Obj.mapSeq f),toks:=t' }:=by
 have q:=PySem.IsL.update e f;rw[hf]at q;refine I.write (x:=l) (e:=l) (by rw[hH];exact trivial) (.inl rfl) (λb' u hb hu=>(Heap.get?_update_other s.heap (Obj.mapSeq f) (Ne.symm hb)).trans hu) ⟨_,q⟩ ?_;exact⟨hz,its',_,hv,q⟩
theorem Inv.lnew {its:List Value} {t':Nat} (I:Inv X pins σ H s) (hv:aW ys its) (hz:ys.length<=sizeLine) :
  Inv X pins σ (upd H s.heap.objs.size (.lst ys)) { s with heap:=s.heap.push { cls:=.type "list", data:=.seq its.toArray },toks:=t' } :=
 I.laid (λ_ _ q=>Qb _ q) (Qi _) ⟨hz,its,0,hv,Ql _ rfl⟩
theorem Inv.fresh (I:Inv X pins σ H s):H s.heap.objs.size=none:=I.hok.fresh (Qi _)
theorem Inv.lstM (I:Inv X pins σ H s) (hH:H l=some (.lst xs)):xs.length<=sizeLine/\∃(its:List Value) (n:Nat),aW xs its/\xs.length=its.length/\s.heap.get? l=some { cls:=.type "list", data:=.seq its.toArray n }:=by
 obtain⟨z,its,n,r,e⟩:=I.hok l _ hH;exact⟨z,its,n,r,r.length,e⟩
end
section
variable {X:Cx}
def nj:V->List V->Hp->VK->Prop:=λx vs H Q=>∃l xs y,x=.ref l/\vs=[y]/\H l=some (.lst xs)/\xs.length<sizeLine/\Q .non (upd H l (.lst (xs++[y])))
theorem bZ:MtM X "list.append" nj:=by
 intro pins s σ H x vs v us Q I rx rv h;obtain⟨l,xs,y,rfl,rfl,hH,hz,q⟩:=h;cases rx;obtain⟨u,rfl,ru⟩:=rv.one;obtain⟨z,its,n,r,hl,e⟩:=I.lstM hH;refine call_meets F.slot_list_append ⟨_,e,rfl⟩ F.entry_list_append (F.args_list_append_2 _ _) (PySem.list_append l its.toArray n u (by rw[Qf];omega)) ⟨e,?_⟩;refine⟨.non,_,I.lset (its':=its++[u]) hH e (by simp) (r.append (.cons ru .nil)) ?_,rfl,q⟩;rw[Qh,List.length_singleton];omega
def u3:R2:=λx y H Q=>∃l b xs zs,x=.ref l/\y=.ref b/\H l=some (.lst xs)/\H b=some (.lst zs)/\xs.length+zs.length<=sizeLine/\∀p,H p=none->Q (.ref p) (upd H p (.lst (xs++zs)))
theorem c8:OpR X (binaryOp .Add) u3:=by
 intro pins s σ H x y v u Q I rx ry h;obtain⟨l,b,xs,zs,rfl,rfl,hH,hB,hz,q⟩:=h;cases rx;cases ry;obtain⟨z,its,n,r,hl,e⟩:=I.lstM hH;obtain⟨z2,its2,n2,r2,hl2,e2⟩:=I.lstM hB;refine PySem.P.add_list e e2 ?_ (by rw[Qf,Qf];omega);have ea:its.toArray++its2.toArray=(its++its2).toArray:=by simp
 rw[ea];exact⟨.ref _,_,I.lnew (t':=s.toks) (r.append r2) (by rw[Qh];omega),rfl,q _ I.fresh⟩
end
section
variable {prog:Program} {w:World} {A:Around} {E:Value->Shared->Prop} {s:Shared}
end
section
variable {X:Cx}
end
section
variable {κ:Type} [DecidableEq κ]
def bq (kvs:List (κ × V)) (k:κ):Option V:=(kvs.find? λkv=>decide (kv.1=k)).map (·.2)
def bK (kvs:List (κ × V)) (k:κ) (v:V):List (κ × V) :=
 if (kvs.any λkv=>decide (kv.1=k))=true then kvs.map (λkv=>if kv.1=k then (kv.1,v) else kv) else kvs++[(k,v)]
variable {r kvs:List (κ × V)}
theorem bG {p:κ × V} {k:κ} (e:p.1=k):bq (p::r) k=some p.2:=by simp[bq,List.find?_cons,e]
theorem bH {p:κ × V} {k:κ} (e:¬p.1=k):bq (p::r) k=bq r k:=by simp[bq,List.find?_cons,e]
theorem cX (k:κ):∀kvs:List (κ × V),(kvs.any λkv=>decide (kv.1=k))=(bq kvs k).isSome
 | []=>rfl
 | p::r=>by
  rw[List.any_cons];by_cases e:p.1=k
  ·simp only[bG e,Qy e,Bool.true_or,Option.isSome_some]
  rw[bH e,Qo e,Bool.false_or];exact cX k r
theorem kn (k j:κ) (y:V):∀kvs:List (κ × V),bq (kvs.map λkv=>if kv.1=k then (kv.1,y) else kv) j=(bq kvs j).map λx=>if j=k then y else x
 | []=>rfl
 | p::r=>by
  have ih:=kn k j y r;rw[Qs];by_cases h:p.1=k
  ·rw[QC h];by_cases e:p.1=j
   ·rw[bG (p:=(p.1,y)) e,bG e,Option.map_some,QC (e.symm.trans h)]
   rw[bH (p:=(p.1,y)) e,bH e,ih]
  rw[Qz h];by_cases e:p.1=j
  ·rw[bG (p:=p) e,bG e,Option.map_some,Qz (λz=>h (e.trans z))]
  rw[bH (p:=p) e,bH e,ih]
theorem jg (k j:κ) (y:V):∀kvs:List (κ × V),bq kvs k=none->bq (kvs++[(k,y)]) j=if j=k then some y else bq kvs j
 | [],_=>by
  by_cases e:k=j
  ·rw[QC e.symm];exact bG (p:=(k,y)) e
  rw[Qz (λz=>e z.symm)];exact bH (p:=(k,y)) e
 | p::r,hn=>by
  rw[List.cons_append];have hk:¬p.1=k:=λz=>by rw[bG z]at hn;cases hn
  rw[bH hk]at hn;have ih:=jg k j y r hn;by_cases e:p.1=j
  ·rw[bG e,bG e,Qz (λz=>hk (e.trans z))]
  rw[bH e,bH e,ih]
theorem dC (kvs:List (κ × V)) (k j:κ) (y:V):bq (bK kvs k y) j=if j=k then some y else bq kvs j:=by
 unfold bK;by_cases a:(kvs.any λkv=>decide (kv.1=k))=true
 ·rw[QC a,kn];rw[cX]at a;by_cases e:j=k
  ·obtain⟨x,hx⟩:=Option.isSome_iff_exists.mp a;rw[QC e,e,hx,Option.map_some,QC rfl]
  rw[Qz e]
  cases bq kvs j with
  | none=>rfl
  | some x=>rw[Option.map_some,Qz e]
 rw[Qz a];refine jg k j y kvs ?_;rw[cX]at a
 cases q:bq kvs k with
 | none=>rfl
 | some x=>rw[q]at a;exact(a rfl).elim
theorem dq (kvs:List (κ × V)) (k:κ) (v:V):(bK kvs k v).length<=kvs.length+1:=by
 unfold bK
 split
 ·rw[Qd];omega
 rw[Qh,QM,Q6];omega
theorem eB {k:κ} (v:V) (h:bq kvs k=none):bK kvs k v=kvs++[(k,v)]:=by
 unfold bK;rw[cX,h];exact Qz (by decide)
theorem iW.isSome_eq {o:Option V} {u:Option Value} (r:iW o u):o.isSome=u.isSome:=by
 cases o with
 | none=>cases u with
  | none=>rfl
  | some _=>exact(show False from r).elim
 | some _=>cases u with
  | none=>exact(show False from r).elim
  | some _=>rfl
variable {vs:List (κ × Value)}
theorem KV.val (r:KV kvs vs) (k:κ):iW (bq kvs k) (valueAt vs k):=by
 unfold KV at r
 induction r with
 | nil=>exact True.intro
 | @cons p q ps qs h t ih =>
 obtain⟨h1,h2⟩:=h;by_cases e:p.1=k
 ·have e':q.1=k:=h1.symm.trans e;have b:valueAt (q::qs) k=some q.2:=by simp[valueAt,List.find?_cons,e']
  rw[bG e,b];exact h2
 have e':¬q.1=k:=λz=>e (h1.trans z);have b:valueAt (q::qs) k=valueAt qs k:=by simp[valueAt,List.find?_cons,e']
 rw[bH e,b];exact ih
theorem KV.any (r:KV kvs vs) (k:κ):(kvs.any λkv=>decide (kv.1=k))=vs.any λkv=>decide (kv.1=k):=by
 unfold KV at r
 induction r with
 | nil=>rfl
 | cons h t ih=>rw[List.any_cons,List.any_cons,ih,h.1]
theorem KV.repl (r:KV kvs vs) (k:κ) {y:V} {u:Value} (ry:aO y u) :
  KV (kvs.map λkv=>if kv.1=k then (kv.1,y) else kv) (vs.map λkv=>if kv.1=k then (kv.1,u) else kv):=by
 unfold KV at r ⊢
 induction r with
 | nil=>exact .nil
 | @cons p q ps qs h t ih =>
 rw[Qs,Qs];refine .cons ?_ ih;obtain⟨h1,h2⟩:=h;by_cases e:p.1=k
 ·rw[QC e,QC (h1.symm.trans e)];exact⟨h1,ry⟩
 rw[Qz e,Qz (λz=>e (h1.trans z))];exact⟨h1,h2⟩
theorem KV.put (r:KV kvs vs) (k:κ) {y:V} {u:Value} (ry:aO y u):KV (bK kvs k y) (stored vs k u):=by
 unfold bK stored;rw[r.any k];by_cases e:(vs.any λkv=>decide (kv.1=k))=true
 ·rw[QC e,QC e];exact r.repl k ry
 rw[Qz e,Qz e];exact Paired.snoc r ⟨rfl,ry⟩
theorem KV.length (r:KV kvs vs):kvs.length=vs.length:=Paired.length r
end
variable {u:Value} {w:World} {P prog:Program}
theorem jt {k:Key} (r:aO (kV k) u):(a_ P w).is k u=true:=by
 cases k with
 | inl i=>obtain⟨t,e⟩:=(show ∃t,u=Value.int i t from r);subst e;exact k_ P w i t
 | inr x=>obtain⟨t,e⟩:=(show ∃t,u=Value.str x t from r);subst e;exact eE P w x t
theorem ju {P:Program} {w:World}:∀{ks:List Key} {us:List Value},aW (ks.map kV) us->ItemsAre (a_ P w) ks us
 | [],_,r=>by rw[List.map_nil]at r;cases r;exact .nil
 | k::ks,_,r=>by
  rw[Qs]at r
  cases r with
  | cons h t=>exact .cons (jt h) (ju t)
abbrev KT (H:Hp):List (List Key × V)->List (List Key × Addr × Value)->Prop:=Paired λp q=>p.1=q.1/\H q.2.1=some (.tup (p.1.map kV))/\aO p.2 q.2.2
variable {xs:List (List Key × Addr × Value)} {kvs:List (List Key × V)} {H H':Hp}
theorem KT.val (r:KT H kvs xs) (k:List Key):iW (bq kvs k) ((atKey xs k).map (·.2)):=by
 induction r with
 | nil=>exact True.intro
 | @cons p q ps qs h t ih =>
 obtain⟨h1,_,h2⟩:=h;by_cases e:p.1=k
 ·have e':q.1=k:=h1.symm.trans e;have b:atKey (q::qs) k=some q.2:=by simp[atKey,List.find?_cons,e']
  rw[bG e,b];exact h2
 have e':¬q.1=k:=λz=>e (h1.trans z);have b:atKey (q::qs) k=atKey qs k:=by simp[atKey,List.find?_cons,e']
 rw[bH e,b];exact ih
theorem KT.repl (r:KT H kvs xs) (k:List Key) {y:V} (ry:aO y u) :
  KT H (kvs.map λkv=>if kv.1=k then (kv.1,y) else kv) (xs.map (putAt k u)):=by
 induction r with
 | nil=>exact .nil
 | @cons p q ps qs h t ih =>
 rw[Qs,Qs];refine .cons ?_ ih;obtain⟨h1,h2,h3⟩:=h;unfold putAt;by_cases e:p.1=k
 ·rw[QC e,QC (h1.symm.trans e)];exact⟨h1,h2,ry⟩
 rw[Qz e,Qz (λz=>e (h1.trans z))];exact⟨h1,h2,h3⟩
theorem KT.put (r:KT H kvs xs) (k:List Key) {b:Addr} {y:V} (hb:H b=some (.tup (k.map kV))) (ry:aO y u) :
  KT H (bK kvs k y) (storedH xs k b u):=by
 have e:(kvs.any λkv=>decide (kv.1=k))=(atKey xs k).isSome:=by
  rw[cX,(r.val k).isSome_eq,Option.isSome_map]
 unfold bK storedH;rw[e];by_cases q:(atKey xs k).isSome=true
 ·rw[QC q,QC q];exact r.repl k ry
 rw[Qz q,Qz q];exact Paired.snoc r ⟨rfl,hb,ry⟩
theorem KT.keeps (r:KT H kvs xs) (ht:∀b ys,H b=some (.tup ys)->H' b=some (.tup ys)):KT H' kvs xs :=
 Paired.mapP r λ_ _ z=>⟨z.1,ht _ _ z.2.1,z.2.2⟩
section
variable {P:Program} {w:World} {H:Hp} {h:Heap} {a:Addr}
theorem sY {u:HO} (ok:HOk P w H h) (e:Rd H a u):bc P w H h a u:=e.ok ok
theorem lG {kvs:List (Key × V)} (ok:HOk P w H h) (e:Rd H a (.dK kvs)):kvs.length<=sizeLine/\(a==sysModules)=false/\∃vs,KV kvs vs/\h.DictOf (a_ P w) a vs :=
 show bc P w H h a (.dK kvs) from sY ok e
theorem lH {kvs:List (Key × V)} (ok:HOk P w H h) (e:H a=some (.dK kvs)):kvs.length<=sizeLine/\(a==sysModules)=false/\∃vs,KV kvs vs/\h.DictOf (a_ P w) a vs:=lG ok (.inl e)
theorem j_ {ks:List Key} (ok:HOk P w H h) (e:H a=some (.tup (ks.map kV))):(tupleKind (a_ P w)).is h ks a:=by
 obtain⟨_,its,r,o,h1,h2,n,h3⟩:=(show bc P w H h a (.tup (ks.map kV)) from ok a _ e);exact⟨o,its.toArray,n,h1,h2,h3,by simpa using ju r⟩
variable {kvs:List (List Key × V)}
theorem lE (ok:HOk P w H h) (e:Rd H a (.dT kvs)):kvs.length<=sizeLine/\(a==sysModules)=false /\
  ∃xs,KT H kvs xs/\h.DictOfH (tupleKind (a_ P w)) a xs:=by
 obtain⟨z,y,xs,r,o,es,ep,h1,h2,h3,h4,h5⟩:=(show bc P w H h a (.dT kvs) from sY ok e);refine⟨z,y,xs,r,o,es,ep,h1,h2,h3,h4,λx hx=>?_,h5⟩
 have all:∀{l:List (List Key × V)} {m:List (List Key × Addr × Value)},KT H l m->∀x∈m,(tupleKind (a_ P w)).is h x.1 x.2.1:=by
  intro l m q
  induction q with
  | nil=>intro x hx;exact nomatch hx
  | @cons p q ps qs hq t ih =>
  intro x hx;rcases QE.mp hx with e|hx
  ·subst e;exact j_ ok (by rw[<-hq.1];exact hq.2.1)
  exact ih x hx
 exact all r x hx
theorem vT (ok:HOk P w H h) (e:H a=some (.dT kvs)):kvs.length<=sizeLine/\(a==sysModules)=false /\
  ∃xs,KT H kvs xs/\h.DictOfH (tupleKind (a_ P w)) a xs:=lE ok (.inl e)
end
def cL (H:Hp) (a:Addr) (y:V) (r:Option V):Prop :=
 (∃kvs k,Rd H a (.dK kvs)/\y=kV k/\r=bq kvs k)\/∃kvs k b,Rd H a (.dT kvs)/\y=.ref b/\H b=some (.tup (k.map kV))/\r=bq kvs k
def mS (H:Hp) (a:Addr) (y v:V) (H':Hp):Prop :=
 (∃kvs k,H a=some (.dK kvs)/\y=kV k/\kvs.length<sizeLine/\H'=upd H a (.dK (bK kvs k v))) \/
 ∃kvs k b,H a=some (.dT kvs)/\y=.ref b/\H b=some (.tup (k.map kV))/\kvs.length<sizeLine/\H'=upd H a (.dT (bK kvs k v))
theorem cL.k {H:Hp} {a:Addr} {kvs:List (Key × V)} {k:Key} (e:H a=some (.dK kvs)):cL H a (kV k) (bq kvs k):=.inl ⟨kvs,k,.inl e,rfl,rfl⟩
theorem mS.k {H:Hp} {a:Addr} {kvs:List (Key × V)} {k:Key} {v:V} (e:H a=some (.dK kvs)) (hl:kvs.length<sizeLine):mS H a (kV k) v (upd H a (.dK (bK kvs k v))):=.inl ⟨kvs,k,e,rfl,hl,rfl⟩
section
variable {X:Cx} {pins:List (Addr × Obj)} {σ:St} {H:Hp} {s:Shared} {a:Addr} {y v:V} {u r:Value} {o:Option V} {A:Around} {E:Value->Shared->Prop}
theorem Inv.big (I:Inv X pins σ H s):sysModules<s.heap.objs.size:=by
 have h:mainGlobals<s.heap.objs.size:=(I.mod.glob.keeps I.bk).lt;exact Nat.lt_trans (by decide) h
variable {Q:Value->Shared->Prop}
theorem oX (hu:A.units+1<cLine) (I:Inv X pins σ H s) (g:cL H a y (some v)) (ry:aO y u) (h:∀w' s',Inv X pins σ H s'->aO v w'->Q w' s') :
  wpAny (model X.prog X.w) A (getItem (.ref a) u) Q E s:=by
 rcases g with⟨kvs,k,e,ey,l⟩|⟨kvs,k,b,e,ey,eb,l⟩
 ·subst ey;obtain⟨z,hd,vs,rel,dd⟩:=lG I.hok e;obtain⟨w',hw,rw'⟩:=iW.some_of (v:=v) (o:=valueAt vs k) (by rw[l];exact rel.val k);exact wpAny_getItem_of (jt ry) dd.mapOf hw (h w' _ (I.tok _) rw')
 subst ey;cases (show u=Value.ref b from ry);obtain⟨z,hd,xs,rel,dd⟩:=lE I.hok e;obtain⟨w',hw,rw'⟩:=iW.some_of (v:=v) (o:=(atKey xs k).map (·.2)) (by rw[l];exact rel.val k);obtain⟨p,hp,hp2⟩:=Option.map_eq_some_iff.mp hw;refine wpAny_getItem_heap (tupleKind_room_in1 hu) (j_ I.hok eb) dd hp ?_;rw[hp2];exact h w' _ (I.tok _) rw'
theorem sE (hu:A.units+1<cLine) (I:Inv X pins σ H s) (g:cL H a y o) (ry:aO y u) (h:∀s',Inv X pins σ H s'->Q (.bool (!o.isSome)) s') :
  wpAny (model X.prog X.w) A (compareOp .NotIn u (.ref a)) Q E s:=by
 rcases g with⟨kvs,k,e,ey,l⟩|⟨kvs,k,b,e,ey,eb,l⟩
 ·subst ey;obtain⟨z,hd,vs,rel,dd⟩:=lG I.hok e;refine wpAny_notIn_of (jt ry) hd dd.mapOf ?_;rw[<-(rel.val k).isSome_eq,<-l];exact h _ (I.tok _)
 subst ey;cases (show u=Value.ref b from ry);obtain⟨z,hd,xs,rel,dd⟩:=lE I.hok e;refine wpAny_notIn_heap (tupleKind_room_in1 hu) (j_ I.hok eb) hd dd ?_;have q:=(rel.val k).isSome_eq;rw[Option.isSome_map]at q;rw[<-q,<-l];exact h _ (I.tok _)
theorem fQ {h':Heap} {t':Nat} {ob:HO} (I:Inv X pins σ H s) (mu:Mut (H a)) (hs:Heap.SameBut a s.heap h') (he:∃q,h'.get? a=some q) (new:bc X.prog X.w (upd H a ob) h' a ob) :
  Inv X pins σ (upd H a ob) { s with heap:=h',toks:=t' } :=
 I.write (x:=a) (e:=a) mu (.inl rfl) (λb q hb z=>(hs.2 b hb).trans z) he new
theorem ke {P:Program} {w:World} {H':Hp} {h':Heap} {kvs:List (Key × V)} {vs:List (Key × Value)} (z:kvs.length<=sizeLine) (hd:(a==sysModules)=false) (rel:KV kvs vs) (dd:h'.DictOf (a_ P w) a vs) :
  bc P w H' h' a (.dK kvs):=⟨z,hd,vs,rel,dd⟩
theorem oW {H':Hp} {Q:Unit->Shared->Prop} (hu:A.units+1<cLine) (I:Inv X pins σ H s) (g:mS H a y v H') (ry:aO y u) (rv:aO v r) (h:∀s',Inv X pins σ H' s'->Q () s') :
  wpAny (model X.prog X.w) A (setItem (.ref a) u r) Q E s:=by
 rcases g with⟨kvs,k,e,ey,l,eH⟩|⟨kvs,k,b,e,ey,eb,l,eH⟩
 ·subst ey eH;obtain⟨z,hd,vs,rel,dd⟩:=lH I.hok e;have hz:vs.length<=sizeLine:=by rw[<-rel.length];exact z
  have hl:(bK kvs k v).length<=sizeLine:=by have:=dq kvs k v;omega
  refine wpAny_setItem_pairs (hsz:=hz) (jt ry) dd λh' dd' hs=>h _ ?_;have he:∃q,h'.get? a=some q:=let ⟨q,_,_,hq,_⟩:=dd';⟨q,hq⟩;exact fQ I (by rw[e];exact True.intro) hs he (ke hl hd (rel.put k rv) dd')
 subst ey eH;cases (show u=Value.ref b from ry);obtain⟨z,hd,xs,rel,dd⟩:=vT I.hok e;have hz:xs.length<=sizeLine:=by rw[<-Paired.length rel];exact z
 have hl:(bK kvs k v).length<=sizeLine:=by have:=dq kvs k v;omega
 refine wpAny_setItem_heap (hsz:=hz) (tupleKind_room_in1 hu) (j_ I.hok eb) dd λh' dd' hs=>h _ ?_;obtain⟨q,es,ep,hq,h2,h3,h4,_,h5⟩:=dd';refine fQ I (by rw[e];exact True.intro) hs ⟨q,hq⟩ ⟨hl,hd,_,(rel.put k eb rv).keeps λc ys ec=>?_,q,es,ep,hq,h2,h3,h4,h5⟩;rw[ao (vF ec e (λz=>nomatch z))];exact ec
end
section
variable {X:Cx} {pins:List (Addr × Obj)} {σ:St} {H:Hp} {s:Shared} {a:Addr} {kvs:List (Key × V)} {k:Key} {u:Value} {A:Around} {E:Value->Shared->Prop}
end
def vX (i:Expr):Prop:=∀ov iv,subscripted i false ov iv=operate [ov,iv] (getItem ov iv)
variable {Q E:Value->Shared->Prop} {pos:Pos} {s:Shared}
theorem rD {A:Around} {env:Env} {value slice:Expr} {T id:String}
  (hl:typeLookup (.type T) "__getitem__" = pure (some (.builtin id))) (hs:vX slice)
  (h:wpAny (model prog w) A (eval value env) (λo s₁=>wpAny (model prog w) A (eval slice env) (λi s₂=>s₂.TypeIs o T/\wpAny (model prog w) A (getItem o i) Q E s₂) E s₁) E s) :
  wpAny (model prog w) A (eval (.Subscript value slice pos) env) Q E s:=by
 refine Subscript_ (Q4 h (λo s₁ h₁=>Q4 h₁ (λi s₂ h₂=>?_) λ_ _ x=>x) λ_ _ x=>x);obtain⟨hT,h₂⟩:=h₂;unfold subscriptTail;refine Qa ?_;rw[getitemInPython_of_ne hT.not_modules];refine Qa (wpAny_specialOf hT hl ?_)
 have fin:wpAny (model prog w) A (subscripted slice false o i) (λr s₃=>wpAny (model prog w) A (letTemporaryGo value o r >>= λ_=>pure r) Q E s₃) E s₂:=by
  rw[hs o i];exact wpAny_operating (Q4 h₂ (λr s₃ h₃=>Qa (wpAny_letTemporaryGo (Qg h₃))) λ_ _ x=>x)
 first
  | exact Qg (Qa fin)
  | exact Qa (Qg (Qa fin))
  | exact Qa fin
variable {pins:List (Addr × Obj)} {X:Cx}
theorem lJ {σ:St} {a:Addr} {y:V} {o:Option V} (I:Inv X pins σ H s) (g:cL H a y o):s.TypeIs (.ref a) "dict" := by
 rcases g with⟨kvs,k,e,_,_⟩|⟨kvs,k,b,e,_,_,_⟩
 ·obtain⟨_,_,vs,_,dd⟩:=lG I.hok e;exact dd.typeIs
 obtain⟨_,_,xs,_,dd⟩:=lE I.hok e;exact dd.typeIs
def pf (td ty:TE):TE:=λσ H Q=>td σ H λx H1=>ty σ H1 λy H2=>∃a v,x=.ref a/\cL H2 a y (some v)/\Q v H2
def mW (ty td:TE):TE:=λσ H Q=>ty σ H λy H1=>td σ H1 λx H2=>∃a o,x=.ref a/\cL H2 a y o/\Q (.bl (!o.isSome)) H2
def sX (td ty tv:TE):TS:=λD σ H=>tv σ H λv H1=>td σ H1 λx H2=>ty σ H2 λy H3=>∃a H4,x=.ref a/\mS H3 a y v H4/\D.nx σ H4
section
variable {X:Cx} {o i e value:Expr} {pos pos' tpos:Pos} {td ty tv:TE}
theorem cf (hu:X.A.units+1<cLine) (ho:PE X o td) (hi:PE X i ty) (hs:vX i):PE X (.Subscript o i pos) (pf td ty):=by
 intro pins s σ H Q I h;refine rD PySem.F.slot_dict_getitem.lookup hs (thn (ho pins s σ H _ I h) λu s1 ⟨x,H1,I1,rx,q1⟩=>thn (hi pins s1 σ H1 _ I1 q1) λiv s2 ⟨y,H2,I2,ry,a,v,ex,g,q2⟩=>?_);subst ex;obtain rfl:u=Value.ref a:=rx;exact⟨lJ I2 g,oX hu I2 g ry λw' s3 I3 rw'=>⟨v,H2,I3,rw',q2⟩⟩
theorem jo (hu:X.A.units+1<cLine) (hi:PE X i ty) (ho:PE X o td):PC X .NotIn i o (mW ty td):=by
 intro pins s σ H Q I h;refine thn (hi pins s σ H _ I h) λiv s1 ⟨y,H1,I1,ry,q1⟩=>thn (ho pins s1 σ H1 _ I1 q1) λu s2 ⟨x,H2,I2,rx,a,ov,ex,g,q2⟩=>?_;subst ex;obtain rfl:u=Value.ref a:=rx;exact sE hu I2 g ry λs3 I3=>⟨.bl (!ov.isSome),H2,I3,rfl,q2⟩
theorem nk (hu:X.A.units+1<cLine) (ho:PE X o td) (hi:PE X i ty) (hv:PE X value tv) (hs:swapsWith value (some (.Subscript o i pos')) pos.line X.env=pure false) :
  PS X (.Assign [.Subscript o i pos'] value pos) (sX td ty tv):=by
 intro pins s σ H D I h;refine wpAny_Assign_Subscript (thn (hv pins s σ H _ I h) λr s1 ⟨v,H1,I1,rv,q1⟩=>thn (ho pins s1 σ H1 _ I1 q1) λu s2 ⟨x,H2,I2,rx,q2⟩=>thn (hi pins s2 σ H2 _ I2 q2) λiv s3 ⟨y,H3,I3,ry,a,H4,ex,g,q3⟩=>?_) hs;subst ex;obtain rfl:u=Value.ref a:=rx;exact oW hu I3 g ry rv λs4 I4=>⟨σ,H4,I4,q3⟩
end
theorem lI (h:Heap) (hb:sysModules<h.objs.size):bc P w H (h.push { cls:=.type "dict", data:=.dict #[] }) h.objs.size (.dK []) :=
 ⟨QN _,beq_eq_false_iff_ne.mpr (Ne.symm (Qp hb)),[],.nil,Heap.DictOf.new h⟩
def tX:TE:=λ_ H Q=>∀p,H p=none->Q (.ref p) (upd H p (.dK []))
section
variable {X:Cx} {pos:Pos}
theorem kQ:PE X (.Dict [] [] pos) tX:=λpins s σ H Q I h =>
 wpAny_Dict_empty ⟨.ref s.heap.objs.size,_,I.laid (a:=s.heap.objs.size) (o:=.dK []) (t':=s.toks) (λ_ _ q=>Qb _ q) (Qi _) (lI s.heap I.big),rfl,h _ (I.hok.fresh (Qi _))⟩
end
def lX:List (TE × TE)->St->Hp->(List (V × V)->Hp->Prop)->Prop
 | [],_,H,Q=>Q [] H
 | (tk,tv)::r,σ,H,Q=>tk σ H λx H1=>tv σ H1 λy H2=>lX r σ H2 λps H3=>Q ((x,y)::ps) H3
abbrev VV:List (V × V)->List (Value × Value)->Prop:=Paired λp q=>aO p.1 q.1/\aO p.2 q.2
def PPs (X:Cx) (pos:Pos) (keys:List (Option Expr)) (values:List Expr) (trs:List (TE × TE)):Prop :=
 ∀(pins:List (Addr × Obj)) (s:Shared) (σ:St) (H:Hp) (Q:List (V × V)->Hp->Prop),Inv X pins σ H s->lX trs σ H Q ->
  wpAny (model X.prog X.w) X.A (evalPairs (pairTrees keys values X.env pos)) (λvs s'=>∃ps H',Inv X pins σ H' s'/\VV ps vs/\Q ps H') X.xe s
theorem rO:PPs X pos [] [] []:=λpins s σ H Q I h=>pairTrees_nil_walk ⟨[],H,I,.nil,h⟩
variable {trs:List (TE × TE)} {ks keys:List (Option Expr)}
theorem pM {k v:Expr} {vs:List Expr} {tk tv:TE} (hk:PE X k tk) (hv:PE X v tv) (hr:PPs X pos ks vs trs) :
  PPs X pos (some k::ks) (v::vs) ((tk,tv)::trs):=λpins s σ H Q I h =>
 pairTrees_cons_walk (thn (hk pins s σ H _ I h) λu s1 ⟨x,H1,I1,rx,q1⟩=>thn (hv pins s1 σ H1 _ I1 q1) λw2 s2 ⟨y,H2,I2,ry,q2⟩ =>
  thn (hr pins s2 σ H2 _ I2 q2) λws s3 ⟨ps,H3,I3,rel,q3⟩=>⟨(x,y)::ps,H3,I3,.cons ⟨rx,ry⟩ rel,q3⟩)
def eF (kvs more:List (Key × V)):List (Key × V):=more.foldl (λacc kv=>bK acc kv.1 kv.2) kvs
theorem KV.merge:∀{more:List (Key × V)} {rs:List (Key × Value)} {kvs:List (Key × V)} {vs:List (Key × Value)},KV more rs->KV kvs vs->KV (eF kvs more) (merged vs rs):=by
 intro more rs kvs vs r;unfold KV at r
 induction r generalizing kvs vs with
 | nil=>intro q;exact q
 | @cons p q ps qs h t ih =>
 intro r0
 have e:KV (bK kvs p.1 p.2) (stored vs q.1 q.2):=by
  have:=r0.put p.1 h.2;rw[<-h.1];exact this
 exact ih e
theorem dy:∀(more kvs:List (Key × V)),(eF kvs more).length<=kvs.length+more.length
 | [],kvs=>by show kvs.length<=kvs.length+0;omega
 | p::r,kvs=>by
  have h1:=dy r (bK kvs p.1 p.2);have h2:=dq kvs p.1 p.2;show (eF (bK kvs p.1 p.2) r).length<=_;rw[QM];omega
theorem iQ {P:Program} {w:World}:∀{kvs:List (Key × V)} {ws:List (Value × Value)},VV (kvs.map λkv=>(kV kv.1,kv.2)) ws->∃rs,Carries (a_ P w) ws rs/\KV kvs rs
 | [],_,r=>by rw[List.map_nil]at r;cases r;exact⟨[],True.intro,.nil⟩
 | p::kvs,_,r=>by
  rw[Qs]at r
  cases r with
  | @cons a b as bs h t =>
  obtain⟨rs,c,q⟩:=iQ (P:=P) (w:=w) t;obtain⟨b1,b2⟩:=b;exact⟨(p.1,b2)::rs,⟨jt h.1,rfl,c⟩,.cons ⟨rfl,h.2⟩ q⟩
def uT (trs:List (TE × TE)):TE:=λσ H Q=>∀p,H p=none->lX trs σ (upd H p (.dK [])) λps H2=>H2 p=some (.dK [])/\∃kvs:List (Key × V),ps=kvs.map (λkv=>(kV kv.1,kv.2))/\kvs.length<=15/\Q (.ref p) (upd H2 p (.dK (eF [] kvs)))
theorem rV {values:List Expr} (h:PPs X pos keys values trs) (hall:keys.all (·.isSome)=true) (hl:keys.length=values.length) (h0:keys≠[])
  (h15:keys.length<=15):PE X (.Dict keys values pos) (uT trs):=by
 intro pins s σ H Q I q;have hn:=I.hok.fresh (Qi s.heap.objs.size);have I1:=I.laid (a:=s.heap.objs.size) (o:=.dK []) (h':=s.heap.push { cls:=.type "dict", data:=.dict #[] }) (t':=s.toks) (λ_ _ q=>Qb _ q) (Qi _) (lI s.heap I.big);refine wpAny_Dict_walk (knd:=a_ X.prog X.w) hall hl h0 h15 (thn (h pins _ σ _ _ I1 (q _ hn)) λws s2 ⟨ps,H2,I2,rel,e,kvs,ep,lk,q2⟩=>?_);subst ep;obtain⟨rs,c,rk⟩:=iQ (P:=X.prog) (w:=X.w) rel;obtain⟨z,hd,vs0,r0,dd⟩:=lH I2.hok e;cases r0;refine⟨rs,c,dd,λh' dd' hs=>⟨.ref s.heap.objs.size,_,?_,rfl,q2⟩⟩
 have hz:(eF [] kvs).length<=sizeLine:=by
  have h1:=dy kvs [];rw[Q6]at h1;rw[sizeLine_eq];omega
 have he:∃q,h'.get? s.heap.objs.size=some q:=let ⟨q,_,_,hq,_⟩:=dd';⟨q,hq⟩;exact fQ I2 (by rw[e];exact True.intro) hs he (ke hz hd (rk.merge .nil) dd')
structure M1 (X:Cx) (o:Expr) (m:Str) (apos:Pos) (e:Expr) (cpos:Pos):Prop where
 base:attributeBase o m X.env (eval o X.env)=eval o X.env
 few:((backTo cpos (starEach [e] X.env)).all (λx=>!x.1)&&(backToKw cpos (keywordEach [] X.env)).all (λx=>x.1.isSome)
  && decide (([e]:List Expr).length+([]:List Keyword).length+(if ([]:List Keyword).isEmpty then 0 else 1)<30))=true
 line:(apos.endLine==cpos.line)=true
 trees:backTo cpos (starEach [e] X.env)=[(false,eval e X.env)]
structure M2 (X:Cx) (o:Expr) (m:Str) (apos:Pos) (e f:Expr) (cpos:Pos):Prop where
 base:attributeBase o m X.env (eval o X.env)=eval o X.env
 few:((backTo cpos (starEach [e,f] X.env)).all (λx=>!x.1)&&(backToKw cpos (keywordEach [] X.env)).all (λx=>x.1.isSome)
  && decide (([e,f]:List Expr).length+([]:List Keyword).length+(if ([]:List Keyword).isEmpty then 0 else 1)<30))=true
 line:(apos.endLine==cpos.line)=true
 trees:backTo cpos (starEach [e,f] X.env)=[(false,eval e X.env),(false,eval f X.env)]
def IsD (H:Hp) (a:Addr):Prop:=(∃kvs,Rd H a (.dK kvs))\/∃kvs,Rd H a (.dT kvs)
theorem uA {σ:St} {a:Addr} (I:Inv X pins σ H s) (d:IsD H a) :
  s.TypeIs (.ref a) "dict" /\ (∀b,Value.ref a=.ref b->∃ob,s.heap.get? b=some ob/\ob.dict=none)/\(a==sysModules)=false:=by
 rcases d with⟨kvs,e⟩|⟨kvs,e⟩
 ·obtain⟨_,hd,vs,_,dd⟩:=lG I.hok e;refine⟨dd.typeIs,λb q=>?_,hd⟩;cases q;obtain⟨ob,_,_,h1,h2,_⟩:=dd;exact⟨ob,h1,h2.2.1⟩
 obtain⟨_,hd,xs,_,dd⟩:=lE I.hok e;refine⟨dd.typeIs,λb q=>?_,hd⟩;cases q;obtain⟨ob,_,_,h1,h2,_⟩:=dd;exact⟨ob,h1,h2.2.1⟩
section
variable {X:Cx} {pins:List (Addr × Obj)} {σ:St} {H:Hp} {s:Shared} {a:Addr} {y d:V} {u r:Value} {o:Option V} {A:Around} {E:Value->Shared->Prop}
end
section
variable {X:Cx} {o e f:Expr} {apos cpos:Pos} {td ty tx:TE}
end
section
variable {X:Cx} {pins:List (Addr × Obj)} {σ:St} {H:Hp} {s:Shared} {a:Addr} {kvs:List (Key × V)} {A:Around} {E:Value->Shared->Prop}
end
section
variable {X:Cx} {pins:List (Addr × Obj)} {σ:St} {H:Hp} {s:Shared} {a:Addr} {y:V} {u:Value} {A:Around} {E:Value->Shared->Prop}
end
end L2
namespace Att
open PySem PySem.W PySem.Calls PyProof.Rows
theorem gD {P:Params} {h:Heap}:∀(ns:List Int) (vs:List Value),WellAll P h vs (ns.map WData.int)->IntsAre vs ns:=by
 intro ns
 induction ns with
 | nil =>
  intro vs w;rw[List.map_nil]at w;cases w;exact .nil
 | cons n ns ih =>
 intro vs w;rw[Qs]at w
 cases w with
 | cons a b =>
 cases a;exact .cons _ _ (ih _ b)
theorem nU {l:OpenLaw} {n:Nat} (hn:l.most=some n) {P:Params} {h:Heap} {args:List WData} {vals:List Value}
  (hpre:l.row.toRowW.claim.pre args=true) (hwl:WellAll P h vals args) :
  ∃a vs ns,vals=[Value.ref a]/\args=[WData.list (ns.map WData.int)]/\h.get? a=some { cls:=.type "list", data:=.seq vs.toArray }/\IntsAre vs ns/\ns.length<=n:=by
 have hsh:WShape.hasAll [] args [.list .int]=true:=(pre_splitW hpre).1;have hc:l.pre.holds [] { args:=args }=true:=(pre_splitW hpre).2;obtain⟨d,r,rfl,h1,h2⟩:=hasAllW_cons hsh;obtain rfl:=hasAllW_nil h2;obtain⟨xs,rfl,h3⟩:=hasW_list h1;obtain⟨ns,rfl⟩:=items_int h3
 have hlen:ns.length<=n:=by
  unfold OpenLaw.pre at hc
  have h4:(WTm.not (.lt (.lit (.int (n:Int))) (.len (.arg 0)))).holds [] { args:=[.list (ns.map .int)] }=true:=by
   have h4:=(holds_andW hc).1;rw[hn]at h4;exact h4
  have h5:=condW_of h4 (w_not (w_lt w_lit (w_len_list (w_arg rfl))));rw[Qd]at h5;refine Nat.le_of_not_lt λq=>?_;have q':(n:Int)<((ns.length:Nat):Int):=by omega
  first
   | (rw[Qy q']at h5;exact absurd h5 (by decide))
   | (simp at h5;omega)
 cases hwl with
 | cons w1 w2 =>
 cases w2
 cases w1 with
 | list ho hall=>exact⟨_,_,ns,rfl,rfl,ho,gD ns _ hall,hlen⟩
theorem oa (l:OpenLaw) (args:List WData):l.row.toRowW.claim.post args (.bool true) args=true :=
 postW_of (r:=l.row.toRowW) (X:=(true==true))
  (show WShape.has [] (.bool true) .bool=true by first|rfl|decide|simp[WShape.has,WShape.arms,WShape.armsAll])
  (show (WTm.eq .res (.lit (.bool true))).value [] { args:=args,res:=some (.bool true),after:=args }=some (.bool (true==true)) from w_eq_bool (w_res rfl) w_lit) rfl
theorem lO {l:OpenLaw} {n:Nat} {q:Program} {loose:List Str} {XP:(Str->Option Value)->Heap->Prop} {YP:World->Heap->Prop} {d:DefRec}
  (hn:l.most=some n) (hdf:d.params.defaults=[])
  (call:∀(w:World) (s₀ s₁:Shared) (mg mb:Str->Option Value) (fa:Addr) (o:Obj) (pm cd doc:Value) (a:Addr) (vs:List Value) (ns:List Int),
   Ground q loose [] XP w s₀ mg mb s₁.heap->YP w s₁.heap ->
   s₁.heap.get? fa=some o->o.data=.func (docDef d.name d.params d.body d.scope pm cd doc)->s₁.heap.CodeRec cd d.name->mg d.name=some (.ref fa) ->
   s₁.heap.get? a=some { cls:=.type "list", data:=.seq vs.toArray }->IntsAre vs ns->ns.length<=n->s₁.gens=#[] ->
   codeAny (model l.prog w) callerA (.call (.ref fa) ⟨[.ref a],[]⟩) (λr s'=>r=.ok (.ret (.bool true))/\OldK s₁.heap s'.heap/\s'.os=s₁.os/\AllBare s'.gens) s₁) :
  WalkO q loose XP YP l.row.toRowW d [] (λf vs=>PySem.call f vs):=by
 intro w s₀ s₁ mg mb G Y fa o pm cd doc dV kV ho hd hcd hD hmg hg args vals as hpre hlay hrd hwl hlo;obtain rfl:dV=.none:=Dflts.none hD hdf;obtain rfl:kV=.none:=Dflts.noKw hD;obtain⟨a,vs,ns,rfl,rfl,hobj,hints,hlen⟩:=nU hn hpre hwl;refine enter_call (codeAny_mono (call w s₀ s₁ mg mb fa o pm cd doc a vs ns G Y ho (fd_plain hd) hcd hmg hobj hints hlen hg) λr s' hq=>?_);obtain⟨rfl,h2,h3,h4⟩:=hq;exact⟨.inl ⟨.bool true,.bool true,[],rfl,λ_=>rfl,.bool true,oa l _,λ_=>⟨List.Pairwise.nil,λ_ hm=>(nomatch hm)⟩⟩,h2,h3,h4⟩
section
variable {prog:Program} {w:World} {A:Around} {E:Value->Shared->Prop} {s:Shared} {K:Frag}
end
end Att
namespace L2
open PySem PySem.Spec PyProof.Rows
theorem jf:∀{vs:List Value} {ns:List Int},IntsAre vs ns->aW (ns.map V.int) vs
 | _,_,.nil=>.nil
 | _,_,.cons n t h=>.cons ⟨t,rfl⟩ (jf h)
end L2
/- THE LAST THEOREM (shape;LID,My.* are yours):
  My.Adr: a structure of the addresses that your layer names (classes,functions);My.Txt K t: a structure (Prop) of the equations over K;
  My.txt_mk:{K} {implicit addresses ..} (e1:nsIn K mainGlobals "law" = some (some (.ref f))) (e2:K.lookup f=some ⟨oc,od,.func (fnOf "law" "law" params body scope dV kV doc pm an cdv ct),sl⟩) (e3:codeIn K cdv "law" = true) ..:∃t,My.Txt K t
(the tactic k_is has no namespace: write k_is) -/
namespace L2
open PySem PySem.Spec PyProof.Rows
abbrev CX0:CXT:=λ_ _ _ _ _ _=>False
abbrev E0:XK:=λ_ _ _=>False
theorem tj {X:Cx}:iX CX0 X E0:=λ_ _ _ _ _ _ _ h=>h.elim
structure Fun (K:PySem.W.Frag) (x qual:Str) (st:Stmt) (f:Addr) (fd:FuncData):Prop where
 ex:∃(oc:Value) (od:Option Addr) (kV doc pm:Value) (an:Option Addr) (cdv ct:Value) (osl:Array (Option Value)),
  fd=PySem.W.fnOf x qual (cS st) (bT st) (am st) .none kV doc pm an cdv ct/\K.lookup f=some ⟨oc,od,.func fd,osl⟩/\PySem.W.codeIn K cdv qual=true
 kp:PySem.W.keepIn K (.ref f)=true
section
variable {P:Program} {w:World} {K:PySem.W.Frag} {mg:Str->Option Value} {base:Heap}
variable {x qual:Str}
theorem Fun.ok {st:Stmt} {f:Addr} {fd:FuncData} {N ps:List Str} {k:Nat} {sp:Sp} (F:Fun K x qual st f fd) (S:FnScope N ps (am st)) (len:∀vs H Q E,sp vs H Q E->vs.length=ps.length)
  (hbody:∀(cdv:Value) (A:Around) (outer:List Env) (s:Shared) (H:Hp) (vs:List V) (Q:VK) (E:XK),Room k (A.deeper (envOfC qual (am st) s.heap.objs.size f cdv))->sp vs H Q E ->
   ∃t,PSs (cxOf CX0 P w K mg base N qual (am st) f cdv A outer s H E).nox (bT st) t/\t { nx:=λ_ H'=>Q .non H',rt:=Q } (start N vs) H):FnOk P w K mg base CX0 (k+1) f fd ps sp:=by
 obtain⟨oc,od,kV,doc,pm,an,cdv,ct,osl,rfl,lk,hcd⟩:=F.ex;refine tI lk hcd S len λA outer s H vs Q E hr hsp=>?_;obtain⟨t,h,q⟩:=hbody cdv A outer s H vs Q E hr hsp;exact⟨t,h.nox,q⟩
theorem Fun.binds {st:Stmt} {f:Addr} {fd:FuncData} {ps:List Str} (F:Fun K x qual st f fd)
  (h:∀(kV doc pm:Value) (an:Option Addr) (cdv ct:Value) (us:List Value),us.length=ps.length->bindArgs (PySem.W.fnOf x qual (cS st) (bT st) (am st) .none kV doc pm an cdv ct) ⟨us,[]⟩=pure (ps.zip us)):fb K fd ps []:=by
 obtain⟨oc,od,kV,doc,pm,an,cdv,ct,osl,rfl,lk,hcd⟩:=F.ex;exact .all (h kV doc pm an cdv ct)
theorem mF {st:Stmt} {f:Addr} {oc:Value} {od an:Option Addr} {osl:Array (Option Value)} {kV doc pm cdv ct:Value} (l:K.lookup f=some ⟨oc,od,.func (PySem.W.fnOf x qual (cS st) (bT st) (am st) .none kV doc pm an cdv ct),osl⟩)
  (c:PySem.W.codeIn K cdv qual=true) (k:PySem.W.keepIn K (.ref f)=true):Fun K x qual st f (PySem.W.fnOf x qual (cS st) (bT st) (am st) .none kV doc pm an cdv ct):=⟨⟨oc,od,kV,doc,pm,an,cdv,ct,osl,rfl,l,c⟩,k⟩
end
theorem db {A:Around} {k:Nat} (hr:Room k A):A.units+1<cLine:=Nat.lt_of_le_of_lt (Nat.add_le_add_left (by decide:1<=64) _) hr.units
section
variable {X:Cx}
theorem pv (i:Nat) {x:Str} {pos:Pos} (hN:X.N[i]?=some x:=by rfl) (hv:Vis X.env.scope x:=by first|exact Or.inl rfl|exact Or.inr (Or.inl rfl)|exact Or.inr (Or.inr rfl)) (hd:(x==("__debug__" : Str))=false:=by decide)
  (hcd:(x==("__classdict__" : Str))=false:=by decide):PE X (.Name x pos) (dE i):=uf hN hv hd hcd
end
variable {A B c:Prop}
theorem cz (h:B):if false=true then A else B:=by
 rw[Qz Qn];exact h
theorem bO (h:A):if true=true then A else B:=by
 rw[QC rfl];exact h
theorem v6 [Decidable c] (h1:c->A) (h2:¬c->B):if c then A else B:=by
 by_cases h:c
 ·rw[QC h];exact h1 h
 rw[Qz h];exact h2 h
def ar (H H':Hp):Prop:=∀b o,H b=some o->H' b=some o
theorem ar.refl (H:Hp):ar H H:=λ_ _ h=>h
theorem ar.trans {H H1 H2:Hp} (a:ar H H1) (b:ar H1 H2):ar H H2:=λc o h=>b c o (a c o h)
theorem ar.free {H H':Hp} (e:ar H H') {l:Addr} (h:H' l=Option.none):H l=Option.none:=by
 cases q:H l with
 | none=>rfl
 | some o =>
 rw[e l o q]at h;cases h
theorem ar.seq {K:PySem.W.Frag} {H H':Hp} {a:Addr} {xs:List V} (e:ar H H') (h:SqL K H a xs):SqL K H' a xs:=by
 rcases h with(h|⟨o,h⟩)|h
 ·exact .inl (.inl (e _ _ h))
 ·exact .inl (.inr ⟨o,e _ _ h⟩)
 exact .inr h
section
variable {κ:Type} [DecidableEq κ]
variable {kvs:List (κ × V)}
theorem o_ {k:κ} (h:bq kvs k=none):¬k∈kvs.map (·.1):=by
 intro m;obtain⟨p,hp,e⟩:=Qu.mp m;have q:(kvs.any λkv=>decide (kv.1=k))=true:=List.any_eq_true.mpr ⟨p,hp,Qy e⟩;rw[cX,h]at q;exact absurd q (by simp)
theorem ro {k:κ} {v:V} (h:bq kvs k=some v):k∈kvs.map (·.1):=by
 have q:(kvs.any λkv=>decide (kv.1=k))=true:=by
  rw[cX,h]
  all_goals rfl
 obtain⟨p,hp,e⟩:=List.any_eq_true.mp q;exact Qu.mpr ⟨p,hp,of_decide_eq_true e⟩
end
section
variable {X:Cx}
end
end L2
set_option maxHeartbeats 4000000
namespace L2
open PySem PySem.Spec PyProof.Rows
def wk:St->St->Prop
 | [],[]=>True
 | none::a,_::b=>wk a b
 | some x::a,y::b=>y=some x/\wk a b
 | _,_=>False
theorem jG:∀{a b:St},wk a b->a.length=b.length
 | [],[],_=>rfl
 | [],_::_,h=>h.elim
 | none::_,[],h=>h.elim
 | some _::_,[],h=>h.elim
 | none::a,_::b,h=>congrArg (·+1) (jG (a:=a) (b:=b) h)
 | some _::a,_::b,h=>congrArg (·+1) (jG (a:=a) (b:=b) h.2)
theorem jH:∀{a b:St},wk a b->∀(i:Nat) (v:V),a[i]?=some (some v)->b[i]?=some (some v)
 | [],[],_,i,v,e=>by simp at e
 | [],_::_,h,_,_,_=>h.elim
 | none::_,[],h,_,_,_=>h.elim
 | some _::_,[],h,_,_,_=>h.elim
 | none::a,y::b,h,0,v,e=>by simp at e
 | none::a,y::b,h,i+1,v,e=>by
  have:=jH (a:=a) (b:=b) h i v (by simpa using e);simpa using this
 | some x::a,y::b,h,0,v,e=>by
  have e':x=v:=by simpa using e
  subst e';rw[h.1];rfl
 | some x::a,y::b,h,i+1,v,e=>by
  have:=jH (a:=a) (b:=b) h.2 i v (by simpa using e);simpa using this
def cr (env:Env):List (Str × NameKind)->List (Str × Addr)->List (Str × Addr)
 | [],acc=>acc
 | (n,k)::r,acc=>cr env r (if (k==.free)=true then (n,(env.cells.lookup n).getD 0)::acc else acc)
theorem iO {env:Env}:∀(ns:List (Str × NameKind)) (acc:List (Str × Addr)),(∀y∈ns,y.2=.free->∃c,env.cells.lookup y.1=some c) ->
  (forIn ns acc (fun x r=>match x with
   | (name,kind)=>if (kind==NameKind.free)=true then (do let c <-cellOf env name;pure (ForInStep.yield ((name,c)::r))) else pure (ForInStep.yield r)):Sem (List (Str × Addr)))=pure (cr env ns acc)
 | [],acc,_=>rfl
 | (n,k)::r,acc,h=>by
  rw[List.forIn_cons];have ih:=λa=>iO (env:=env) r a λy hy=>h y (Qv _ hy);by_cases hk:(k==NameKind.free)=true
  ·obtain⟨c,hc⟩:=h (n,k) QZ (by simpa using hk);have e1:cellOf env n=pure c:=by unfold cellOf;rw[hc]
   simp only[hk,if_true,e1,pure_bind];unfold cr;simp only[hk,if_true,hc,Option.getD_some];exact ih _
  simp only[hk,xa,pure_bind];unfold cr;simp only[hk,xa];exact ih _
variable {env:Env} {scope:Scope}
theorem iP (h:∀y∈scope.names,y.2=.free->∃c,env.cells.lookup y.1=some c):closureFor scope env=pure (cr env scope.names []):=by
 have e:=iO scope.names [] h;unfold closureFor
 first
  | (rw[show (forIn scope.names ([]:List (Str × Addr)) _:Sem (List (Str × Addr)))=pure (cr env scope.names []) from e];rfl)
  | (simp only[bind_pure];exact e)
  | exact(congrArg (· >>= pure) e)
theorem gg {env:Env}:∀(ns:List (Str × NameKind)) (acc:List (Str × Addr)) (n:Str) (a:Addr),(n,a)∈cr env ns acc->(n,a)∈acc\/(a=(env.cells.lookup n).getD 0/\(n,NameKind.free)∈ns)
 | [],acc,n,a,h=>.inl h
 | (m,k)::r,acc,n,a,h=>by
  unfold cr at h;by_cases hk:(k==NameKind.free)=true
  ·rw[QC hk]at h;rcases gg r _ n a h with q|⟨q1,q2⟩
   ·rcases QE.mp q with q|q
    ·cases q;have hk':k=.free:=by simpa using hk
     subst hk';exact .inr ⟨rfl,QZ⟩
    exact .inl q
   exact .inr ⟨q1,Qv _ q2⟩
  rw[Qz hk]at h;rcases gg r _ n a h with q|⟨q1,q2⟩
  ·exact .inl q
  exact .inr ⟨q1,Qv _ q2⟩
theorem jA {env:Env}:∀(ns:List (Str × NameKind)) (acc:List (Str × Addr)) (p:Str × Addr),p∈acc->p∈cr env ns acc
 | [],_,_,h=>h
 | (m,k)::r,acc,p,h=>by
  unfold cr;refine jA r _ p ?_
  split
  ·exact Qv _ h
  exact h
theorem iN {env:Env}:∀(ns:List (Str × NameKind)) (acc:List (Str × Addr)) (n:Str),(n,NameKind.free)∈ns->(n,(env.cells.lookup n).getD 0)∈cr env ns acc
 | [],_,_,h=>nomatch h
 | (m,k)::r,acc,n,h=>by
  unfold cr;rcases QE.mp h with q|q
  ·cases q;refine jA r _ _ ?_;rw[QC (by rfl)];exact QZ
  exact iN r _ n q
theorem c_ {α β:Type} [BEq α] [LawfulBEq α]:∀{l:List (α × β)} {x:α} {y:β},l.lookup x=some y->(x,y)∈l
 | [],_,_,h=>by simp at h
 | (a,b)::r,x,y,h=>by
  rw[QI]at h;by_cases e:(x==a)=true
  ·rw[e]at h;have e':x=a:=by simpa using e
   have h':b=y:=by simpa using h
   subst e' h';exact QZ
  have e2:(x==a)=false:=by simpa using e
  rw[e2]at h;exact Qv _ (c_ (by simpa using h))
theorem eY {α β:Type} [BEq α] [LawfulBEq α]:∀{l:List (α × β)} {x:α} {y:β},(x,y)∈l->∃z,l.lookup x=some z
 | [],_,_,h=>nomatch h
 | (a,b)::r,x,y,h=>by
  rw[QI];by_cases e:(x==a)=true
  ·rw[e];exact⟨b,rfl⟩
  have e2:(x==a)=false:=by simpa using e
  rw[e2];rcases QE.mp h with q|q
  ·cases q;simp at e
  exact eY q
variable {c it e T D p:Addr} {x z:Str} {ns:List (Str × NameKind)}
theorem rc (h:(cr env ns []).lookup x=some c) (hall:∀y∈ns,y.2=.free->∃c,env.cells.lookup y.1=some c):env.cells.lookup x=some c:=by
 rcases gg ns [] x c (c_ h) with q|⟨q1,q2⟩
 ·nomatch q
 obtain⟨c',hc⟩:=hall _ q2 rfl;have hc':env.cells.lookup x=some c':=hc;rw[hc']at q1;rw[hc',q1];rfl
theorem nJ {env:Env} (h:(x,NameKind.free)∈ns):∃c,(cr env ns []).lookup x=some c:=eY (iN ns [] x h)
noncomputable def Cx.block (X:Cx) (N:List Str) (scope:Scope) (C:Addr) (s:Shared) (H:Hp) (fp:List Addr):Cx :=
 { X with N:=N,s₀:=s,H₀:=H,env:=compEnvC scope (cr X.env scope.names []) C X.env,outer:=X.stack,ex:=fp,fn:=λ_=>false,pn:=[],xe:=λ_ _=>False }
theorem j1 {k:NameKind} (h:(relabel scope env).names.lookup x=some k):∃k',scope.names.lookup x=some k'/\(k=k'\/(k'=.free/\k=.cell)):=by
 unfold relabel at h;generalize scope.names=ns at h
 induction ns with
 | nil=>simp at h
 | cons p r ih =>
 obtain⟨n,k0⟩:=p;rw[Qs]at h;by_cases e:(x==n)=true
 ·refine⟨k0,by rw[QI,e],?_⟩;by_cases c:(k0==NameKind.free&&env.scope.kind==.function&&env.kindOf n==some .cell)=true
  ·have h1:some NameKind.cell=some k:=by
    have h2:=h;simp only[c,if_true]at h2;rw[QI,e]at h2;exact h2
   have h3:k0=.free:=by
    simp only[xj,beq_iff_eq]at c;exact c.1.1
   exact .inr ⟨h3,(QR h1).symm⟩
  have h1:some k0=some k:=by
   have h2:=h;simp only[c,Qx,xa]at h2;rw[QI,e]at h2;exact h2
  exact .inl (QR h1).symm
 have e2:(x==n)=false:=by simpa using e
 rw[QI,e2];refine ih ?_;by_cases c:(k0==NameKind.free&&env.scope.kind==.function&&env.kindOf n==some .cell)=true
 ·have h2:=h;simp only[c,if_true]at h2;rw[QI,e2]at h2;exact h2
 have h2:=h;simp only[c,Qx,xa]at h2;rw[QI,e2]at h2;exact h2
theorem j2 (h:scope.names.lookup x=some .free):(relabel scope env).names.lookup x=some .cell\/(relabel scope env).names.lookup x=some .free:=by
 unfold relabel;show List.lookup x (scope.names.map _)=_\/List.lookup x (scope.names.map _)=_;generalize scope.names=ns at h
 induction ns with
 | nil=>simp at h
 | cons p r ih =>
 obtain⟨n,k0⟩:=p;rw[Qs];by_cases e:(x==n)=true
 ·rw[QI,e]at h;have h':k0=.free:=by simpa using h
  subst h';by_cases c:(NameKind.free==NameKind.free&&env.scope.kind==.function&&env.kindOf n==some .cell)=true
  ·left
   simp only[c,if_true];rw[QI,e]
  right
  simp only[c,Qx,xa];rw[QI,e]
 have e2:(x==n)=false:=by simpa using e
 rw[QI,e2]at h;have h3:=ih h;by_cases c:(k0==NameKind.free&&env.scope.kind==.function&&env.kindOf n==some .cell)=true
 ·simp only[c,if_true];rw[QI,e2];exact h3
 simp only[c,Qx,xa];rw[QI,e2];exact h3
def sK (X:Cx) (ifs:List Expr) (t:TT):Prop :=
 ∀(pins:List (Addr × Obj)) (s:Shared) (σ:St) (H:Hp) (Q:Bool->Hp->Prop),Inv X pins σ H s->t σ H Q ->
  wpAny (model X.prog X.w) X.A (forIn ifs true λc r=>if r=true then do let ok <-isTrue c X.env (eval c X.env);pure (ForInStep.yield ok) else pure (ForInStep.yield r)) (TP X pins σ Q) X.xe s
def fz:TT:=λ_ H Q=>Q true H
theorem br {X:Cx}:sK X [] fz:=λ_ _ _ H _ I h=>wpAny_tests_nil ⟨H,I,h⟩
theorem iy {X:Cx} {c:Expr} {t:TT} (h:PT X c t):sK X [c] t:=λpins s σ H Q I hw=>wpAny_tests_one (h pins s σ H Q I hw)
variable {w:World} {prog P:Program}
theorem fR {A:Around} {R:Result->Shared->Prop} {s:Shared} {elt target iter:Expr} {ifs:List Expr} {pos:Pos} {it acc:Value} (I:Nat->Shared->Prop)
  (turn:∀n s,I n s->wpAny (model prog w) A (pyNext it) (fun r s1=>match r with
   | none=>R (.ok .next) s1
   | some v=>wpAny (model prog w) A (letOwnedTupleGo target it v) (λ_ s2=>wpAny (model prog w) A (assign target env v) (λ_ s3 =>
     wpAny (model prog w) A (forIn ifs true λc r=>if r=true then do let ok <-isTrue c env (eval c env);pure (ForInStep.yield ok) else pure (ForInStep.yield r)) (λok s4 =>
      if ok=true then wpAny (model prog w) A (eval elt env) (λx s5 =>
       wpAny (model prog w) A (call (.builtin "list.append") [acc,x]) (λ_ s6=>∃m,m<n/\I m s6) (λ_ _=>False) s5) (λ_ _=>False) s4
      else ∃m,m<n/\I m s4) (λ_ _=>False) s3) (λ_ _=>False) s2) (λ_ _=>False) s1) (λ_ _=>False) s)
  (n:Nat) (h:I n s):codeAny (model prog w) A (.compLoop (.ListComp elt [⟨target,iter,ifs,0⟩] scope pos) 0 it acc env) R s:=by
 refine codeAny_loop rfl I (λn s hI=>?_) n h;show wpAny _ A ((compTurn (.ListComp elt [⟨target,iter,ifs,0⟩] scope pos) 0 it acc env).onRaise (λx=>do noteFrame x env;theTreesLotGoes x)) _ _ s;refine wpAny_noted ?_;rw[compTurn_list];have no:∀{E:Value->Shared->Prop},∀e s',(λ(_:Value) (_:Shared)=>False) e s'->E e s':=λ_ _ z=>False.elim z;refine Qa (wpAny_standAt (Qa (Q4 (turn n s hI) (λr s1 h1=>?_) no)))
 cases r with
 | none=>exact Qg h1
 | some v =>
 refine Qa (Q4 h1 (λ_ s2 h2=>?_) no);refine Qa (Q4 h2 (λ_ s3 h3=>Qa (Q4 h3 (λok s4 h4=>?_) no)) no)
 cases ok with
 | false=>exact Qg ⟨rfl,h4⟩
 | true =>
 exact Qa (Qa (Q4 h4 (λx s5 h5=>Qa (Q4 h5 (λ_ s6 h6=>Qg (Qg ⟨rfl,h6⟩)) no)) no))
def bF (tgs:List Str) (cap:List (Str × Nat)) (σ:St):St:=tgs.map (λ_=>none)++cap.map λc=>(σ[c.2]?).join
def jj (wi:TI) (g:TG) (tt:TT) (te:TE) (f:St->St):TE:=λσ H Q=>wi σ H λJ H1=>∀D,H1 D=none->∃W:Nat->Nat->Hp->List V->Prop,(∃m,W 0 m (upd H1 D (.lst [])) []) /\
 ∀i m H ys,W i m H ys->H D=some (.lst ys)/\((J.stop i H/\Q (.ref D) H)\/(J.go i H/\∀x H',J.yld i H x H'->g x (f σ) H' λσ2 H2=>wk (f σ) σ2/\tt σ2 H2 λb H3 =>
  if b=true then te σ2 H3 λv H4=>H4 D=some (.lst ys)/\ys.length<sizeLine/\∃m',m'<m/\W (i+1) m' (upd H4 D (.lst (ys++[v]))) (ys++[v])
  else ∃m',m'<m/\W (i+1) m' H3 ys))
structure BlockOk (X:Cx) (scope:Scope) (tgs:List Str) (cap:List (Str × Nat)):Prop where
 kind:scope.kind=.function
 nocell:(scope.names.all λy=>!(y.2==NameKind.cell))=true
 names:(scope.names.all λy=>!(y.2==NameKind.local) || (scope.names.lookup y.1==some .local))=true
 free:(scope.names.all λy=>!(y.2==NameKind.free) || (X.env.scope.names.lookup y.1==some .cell) || (X.env.scope.names.lookup y.1==some .free))=true
 caps:(cap.all λc=>decide (X.N[c.2]?=some c.1)&&(scope.names.lookup c.1==some .free)&&(decide (X.env.scope.names.lookup c.1=some .cell) || decide (X.env.scope.names.lookup c.1=some .free)))=true
 tgl:(tgs.all λx=>(scope.names.lookup x==some .local))=true
section
variable {X:Cx} {scope:Scope} {tgs:List Str} {cap:List (Str × Nat)}
theorem BlockOk.cellAt (B:BlockOk X scope tgs cap) (ok:X.Ok):∀y∈scope.names,y.2=.free->∃c,X.env.cells.lookup y.1=some c:=λy hy hk=>by
 have q:=QU.mp B.free y hy;rw[hk]at q;refine ok.has y.1 ?_;simp only[beq_self_eq_true,Bool.not_true,Bool.false_or,Bool.or_eq_true,beq_iff_eq]at q;exact q
theorem BlockOk.noc (B:BlockOk X scope tgs cap):∀y∈scope.names,y.2≠.cell:=λy hy hk=>by
 have q:=QU.mp B.nocell y hy;rw[hk]at q;simp at q
theorem BlockOk.locs (B:BlockOk X scope tgs cap):∀y∈scope.names,y.2=.local->scope.names.lookup y.1=some .local:=λy hy hk=>by
 have q:=QU.mp B.names y hy;rw[hk]at q;simpa using q
variable {pins:List (Addr × Obj)}
theorem Inv.enter {σ:St} {H:Hp} {s:Shared} {h1:Heap} {tk:Nat} {fp:List Addr} (B:BlockOk X scope tgs cap) (I:Inv X pins σ H s) (hfp:∀b∈fp,fu X pins H b) (hlt:∀b∈fp,b<s.heap.objs.size)
  (hns:h1.Ns s.heap.objs.size (λ_=>none)) (old:∀b o,s.heap.get? b=some o->h1.get? b=some o) :
  Inv (X.block (tgs++cap.map (·.1)) scope s.heap.objs.size s H fp) [] (bF tgs cap σ) H { s with heap:=h1,toks:=tk }:=by
 have cellsIn:∀x c,(cr X.env scope.names []).lookup x=some c->X.env.cells.lookup x=some c:=λx c e=>rc e (B.cellAt I.ok)
 have kindIn:∀x,((relabel scope X.env).names.lookup x=some .cell\/(relabel scope X.env).names.lookup x=some .free)->(x,NameKind.free)∈scope.names:=λx hx=>by
  have go:∀k,(relabel scope X.env).names.lookup x=some k->(k=.cell\/k=.free)->(x,NameKind.free)∈scope.names:=λk hk hc=>by
   obtain⟨k',e1,e2⟩:=j1 hk;have m:=c_ e1;rcases e2 with e2|⟨e2,_⟩
   ·subst e2;rcases hc with z|z
    ·exact absurd z (B.noc _ m)
    subst z;exact m
   subst e2;exact m
  rcases hx with h|h
  ·exact go _ h (.inl rfl)
  exact go _ h (.inr rfl)
 have nocl:∀x c,X.env.cells.lookup x=some c->c≠s.heap.objs.size:=λx c e=>by
  obtain⟨v,q⟩:=I.cell x c e;exact Qp q.lt
 refine⟨⟨I.ok.mod,?_,I.ok.glob,I.ok.blt,Qi _,λx y c e1 e2=>I.ok.inj x y c (cellsIn x c e1) (cellsIn y c e2),λx hx=>?_,λx c hf _=>absurd (show false=true from hf) Qn,I.ok.hd,I.ok.frames,.inl rfl,
  λb hb=>⟨Qp (hlt b hb),λx c e=>?_⟩,I.bs,QK I.ok.bsz I.sz,λb o e hb=>?_,λb hb hf=>?_,I.stack,I.stkFree⟩,
  rfl,I.bare,Un.kept old,⟨_,hns,λi x v h2 h3 h4=>?_⟩,λx c e=>?_,?_,λx c e=>I.freeC x c (cellsIn x c e),λp hp=>absurd (show p∈([]:List (Addr × Obj)) from hp) (by simp),I.hok.kept old,?_⟩
 ·exact B.kind
 ·exact nJ (kindIn x hx)
 ·exact(hfp b hb).2.2.2.2.1 x c (cellsIn x c e)
 ·-- no object of the base is an iterator of ours
  rcases(hfp b hb).2.2.2.1 with z|z
  ·exact I.ok.noex b o e z
  have q:=I.ok.bs b o e;exact absurd (Qr (Qj q.1) z) (xl _)
 ·have hf':b∈frs X.stack:=hf;rcases QE.mp (I.stkSub b hf') with z|z
  ·exact(hfp b hb).2.1 z
  exact(hfp b hb).2.2.1 z
 ·-- a name that is known: one of the captured ones
  have hi:tgs.length<=i:=by
   by_cases hl:i<tgs.length
   ·exfalso;unfold bF at h3;rw[QY (by simpa using hl),Qk]at h3
    cases e:tgs[i]? with
    | none=>rw[e]at h3;cases h3
    | some z=>rw[e]at h3;cases h3
   exact om2 hl
  unfold bF at h3;rw[QS (by simpa using hi),Qd,Qk]at h3;have h2':(tgs++cap.map (·.1))[i]?=some x:=h2;rw[QS hi,Qk]at h2'
  cases e:cap[i-tgs.length]? with
  | none=>rw[e]at h2';cases h2'
  | some c =>
  rw[e]at h2' h3;have hx:c.1=x:=by simpa using h2'
  have hv:(σ[c.2]?).join=some v:=by simpa using h3
  have hm:c∈cap:=Qq e;have q:=QU.mp B.caps c hm;simp only[xj,decide_eq_true_eq,beq_iff_eq,Bool.or_eq_true]at q;obtain⟨⟨q1,q2⟩,q3⟩:=q
  have hσ:σ[c.2]?=some (some v):=by
   cases z:σ[c.2]? with
   | none=>rw[z]at hv;cases hv
   | some o =>
   rw[z]at hv;have:o=some v:=by simpa using hv
   rw[this]
  obtain⟨m,_,hl⟩:=I.loc
  obtain⟨u,r,l⟩:=hl c.2 c.1 v q1 hσ (by
   rcases q3 with z|z
   ·exact .inr (.inl z)
   exact .inr (.inr z))
  subst hx;refine⟨u,r,.inr ⟨j2 q2,?_⟩⟩
  have nl:¬X.env.kindOf c.1=some .local:=λz=>by
   rcases q3 with y|y
   ·have:X.env.kindOf c.1=some .cell:=y;rw[this]at z;cases z
   have:X.env.kindOf c.1=some .free:=y;rw[this]at z;cases z
  rcases l with⟨l1,_⟩|⟨_,d,l2,l3⟩
  ·exact absurd l1 nl
  obtain⟨d',e'⟩:=nJ (env:=X.env) (c_ q2);have:d=d':=QR (l2.symm.trans (cellsIn _ _ e'));subst this;obtain⟨oc,ho,hd⟩:=l3;exact⟨d,e',oc,old d oc ho,hd⟩
 ·obtain⟨v,oc,ho,hd⟩:=I.cell x c (cellsIn x c e);exact⟨v,oc,old c oc ho,hd⟩
 ·exact I.hok.fresh (Qi _)
 unfold bF;show _=(tgs++cap.map (·.1)).length;simp
theorem Inv.leave {σ σ':St} {H H':Hp} {s s':Shared} {h2:Heap} {fp:List Addr} {N:List Str} (I:Inv X pins σ H s) (hfp:∀b∈fp,fu X pins H b)
  (J:Inv (X.block N scope s.heap.objs.size s H fp) [] σ' H' s') (hs:Heap.SameBut s.heap.objs.size s'.heap h2):Inv X pins σ H' { s' with heap:=h2 }:=by
 have u:Un (frs X.stack) fp H H' s.heap s'.heap:=J.base;have ne:∀b o,s.heap.get? b=some o->b≠s.heap.objs.size:=λb o e=>Qp (Qj e);have hf:H' s.heap.objs.size=none:=J.free;have k:∀b o,b≠s.heap.objs.size->s'.heap.get? b=some o->h2.get? b=some o:=λb o hb e=>(hs.2 b hb).trans e
 have u2:Un (frs X.stack) fp H H' s.heap h2 :=
  ⟨λb o e n h1 h3=>k b o (ne b o e) (u.keep b o e n h1 h3),λb o e n h1 h3=>let ⟨sl,q⟩:=u.slot b o e n h1 h3;⟨sl,k b _ (ne b o e) q⟩,u.free,λb o e h3=>let ⟨o',q⟩:=u.there b o e h3;⟨o',k b o' (ne b o e) q⟩,u.tups,u.frzs,u.tbls⟩
 have hok:HOk X.prog X.w H' h2:=λb ob e=>(J.hok b ob e).stay (λc v hc q=>k c v (by
  rcases hc with z|z
  ·subst z;intro y;rw[y,hf]at e;cases e
  intro y
  rw[y,hf]at z;cases z) q) (λ_ q=>q) λ_ _ q=>q
 exact Inv.call' I (s':={ s' with heap:=h2 }) J.os u2 hok J.bare λb hb=>by
  obtain⟨f0,f1,f2,f3,f4,f5⟩:=hfp b hb;exact⟨f3,f1,f4,f5⟩
theorem cM {elt tg iter:Expr} {ifs:List Expr} {pos:Pos} {wi:TI} {g:TG} {tt:TT} {te:TE} (hc:X.calm=true) (B:BlockOk X scope tgs cap) (hi:PI X tg iter wi)
  (hg:∀C s H fp,PG (X.block (tgs++cap.map (·.1)) scope C s H fp) tg g) (ht:∀C s H fp,sK (X.block (tgs++cap.map (·.1)) scope C s H fp) ifs tt) (he:∀C s H fp,PE (X.block (tgs++cap.map (·.1)) scope C s H fp) elt te)
  (hs:∀x,foldedSetIterable iter X.env x=pure x:=by intro _;rfl):PE X (.ListComp elt [⟨tg,iter,ifs,0⟩] scope pos) (jj wi g tt te (bF tgs cap)):=by
 intro pins s σ H Q I h;rw[eval_ListComp];refine wpAny_comprehension_free (use:=none) rfl hs (iP (B.cellAt I.ok)) B.kind B.locs (thn (hi pins s σ H _ I h) λv s1 h1=>thn h1 λitv s2 h2=>?_);obtain⟨it,fp,tn,J,H2,e,I2,T,st2,f2,q⟩:=h2;subst e;have lt2:∀b∈fp,b<s2.heap.objs.size:=λb hb=>let ⟨o,e,_⟩:=T.obj _ _ st2 b hb;Qj e;have hD:H2 s2.heap.objs.size=none:=I2.hok.fresh (Qi _);obtain⟨W,⟨m0,w0⟩,turn⟩:=q s2.heap.objs.size hD;refine wpAny_newObj_type ?_;have I3:Inv X pins σ (upd H2 s2.heap.objs.size (.lst [])) { s2 with heap:=s2.heap.push { cls:=.type "list", dict:=none,data:=.seq ([]:List Value).toArray } }:=I2.lnew (t':=s2.toks) (ys:=[]) (its:=[]) .nil (QN _);have st3:tn 0 (s2.heap.push { cls:=.type "list", dict:=none,data:=.seq ([]:List Value).toArray }):=T.keep _ _ _ st2 λb _ o e=>Qb _ e;have nD:∀b∈fp,b≠s2.heap.objs.size:=λb hb=>Qp (lt2 b hb);have f3:∀b∈fp,fu X pins (upd H2 s2.heap.objs.size (.lst [])) b:=λb hb=>⟨by rw[ao (nD b hb)];exact(f2 b hb).1,(f2 b hb).2⟩;generalize hs3:({ s2 with heap:=s2.heap.push { cls:=.type "list", dict:=none,data:=.seq ([]:List Value).toArray } }:Shared)=s3 at I3 st3 ⊢;have st3':tn 0 s3.heap:=by rw[<-hs3];exact st3
 have lt3:∀b∈fp,b<s3.heap.objs.size:=λb hb=>let ⟨o,e,_⟩:=T.obj _ _ st3' b hb;Qj e;generalize hH3:upd H2 s2.heap.objs.size (.lst [])=H3 at I3 f3 w0;generalize s2.heap.objs.size=D at *;refine wpAny_newFunctionEnv B.noc (by intro y hy;simp at hy) (λh1 hns hsb=>?_) B.kind;have old:∀b o,s3.heap.get? b=some o->h1.get? b=some o:=λb o e=>hsb.extBut b o (Qp (Qj e)) (Qb _ e);have I4:=Inv.enter (tk:=s3.toks+([]:List (Str × Value)).length) (h1:=h1) B I3 f3 lt3 hns old;have st4:tn 0 h1:=T.keep _ _ _ st3' λb _ o e=>old b o e
 have fpB:∀{H':Hp},(∀b∈fp,H' b=none)->∀b∈fp,fu (X.block (tgs++cap.map (·.1)) scope s3.heap.objs.size s3 H3 fp) [] H' b:=λ{H'} hn b hb =>
  ⟨hn b hb,Qp (lt3 b hb),I4.ok.exfs b hb,.inl hb,λx c e=>(I4.ok.exf b hb).2 x c e,λp hp=>absurd (show p∈([]:List (Addr × Obj)) from hp) (by simp)⟩
 have loop:codeAny (model X.prog X.w) X.A (.compLoop (.ListComp elt [⟨tg,iter,ifs,0⟩] scope pos) 0 (.ref it) (.ref D) (compEnvC scope (cr X.env scope.names []) s3.heap.objs.size X.env))
   (compPost (model X.prog X.w) X.A X.xe none (EP X pins σ Q) (.ref D) s3.heap.objs.size) { s3 with heap:=h1,toks:=s3.toks+([]:List (Str × Value)).length }:=by
  refine fR (λn s'=>∃i H' ys,Inv (X.block (tgs++cap.map (·.1)) scope s3.heap.objs.size s3 H3 fp) [] (bF tgs cap σ) H' s'/\tn i s'.heap/\(∀b∈fp,H' b=none)/\W i n H' ys) ?_ m0 ⟨0,H3,[],I4,st4,λb hb=>(f3 b hb).1,w0⟩;rintro n s5 ⟨i,H5,ys,I5,st5,fr5,w5⟩;obtain⟨hl,ht5⟩:=turn i n H5 ys w5;rcases ht5 with⟨stop,qd⟩|⟨go,step⟩
  ·refine thn (T.done (X.block (tgs++cap.map (·.1)) scope s3.heap.objs.size s3 H3 fp) rfl rfl rfl hc i [] s5 _ H5 _ I5 (fpB fr5) st5 stop) λr s6 ⟨hr,I6⟩=>?_;subst hr;obtain⟨m6,n6,_⟩:=I6.loc;exact⟨m6,n6,λh' hs'=>⟨.ref D,H5,Inv.leave I3 f3 I6 hs',rfl,qd⟩⟩
  refine thn (T.item (X.block (tgs++cap.map (·.1)) scope s3.heap.objs.size s3 H3 fp) rfl rfl rfl hc i [] s5 _ H5 _ I5 (fpB fr5) st5 go) λr s6 ⟨u,hr,h6⟩=>?_;subst hr;refine thn h6 λ_ s7 ⟨x,H7,I7,r7,y7,st7,fr7⟩=>?_;have I7':=I7.pinned (fpB fr7) (T.obj _ _ st7)
  have again:∀{σ8:St} {H8:Hp} {s8:Shared} {ys8:List V},Inv (X.block (tgs++cap.map (·.1)) scope s3.heap.objs.size s3 H3 fp) ([]++gd fp s7.heap) σ8 H8 s8->wk (bF tgs cap σ) σ8->(∃m',m'<n/\W (i+1) m' H8 ys8) ->
    ∃m,m<n/\∃i H' ys,Inv (X.block (tgs++cap.map (·.1)) scope s3.heap.objs.size s3 H3 fp) [] (bF tgs cap σ) H' s8/\tn i s8.heap/\(∀b∈fp,H' b=none)/\W i m H' ys:=λ{σ8 H8 s8 ys8} I8 k8 ⟨m',hm,w8⟩=>by
   refine⟨m',hm,i+1,H8,ys8,I8.unpinned.weak (jG k8) (jH k8),T.keep _ _ _ st7 λb hb o e=>(I8.pin (b,o) (Qw _ (Qw _ (cw hb e)))).1,λb hb=>?_,w8⟩;obtain⟨o,e,d⟩:=T.obj _ _ st7 b hb;exact(I8.pin (b,o) (Qw _ (Qw _ (cw hb e)))).2.1
  refine thn (hg _ _ _ _ _ s7 _ H7 x u _ I7' r7 (step x H7 y7)) λ_ s8 ⟨σ8,H8,I8,k8,q8⟩=>?_;refine thn (ht _ _ _ _ _ s8 σ8 H8 _ I8 q8) λok s9 ⟨H9,I9,q9⟩=>?_
  cases ok with
  | false =>
   rw[Qz Qn]at q9 ⊢;exact again I9 k8 q9
  | true =>
  rw[QC rfl]at q9 ⊢;refine thn (he _ _ _ _ _ s9 σ8 H9 _ I9 q9) λy sA ⟨yv,HA,IA,rA,hA,zA,qA⟩=>?_;exact thn (bZ _ sA σ8 HA (.ref D) [yv] (.ref D) [y] (λv H'=>v=.non/\∃m',m'<n/\W (i+1) m' H' (ys++[yv])) IA rfl (.cons rA .nil) ⟨D,ys,yv,rfl,rfl,hA,zA,rfl,qA⟩) λ_ sB ⟨_,HB,IB,_,_,qB⟩=>again IB k8 qB
 exact codeAny_compStart_list loop (T.self _ 0 _ _ _ st4 loop)
end
def Itf (n:Nat) (f:Nat->V):It:=⟨λi _=>i<n,λi H x H'=>H'=H/\x=f i,λi _=>i=n⟩
variable {n i:Nat}
theorem gQ {K:PySem.W.Frag} {px:Pos} {f:Nat->V} {Pv:Nat->Value->Prop} {St:Nat->Heap->Prop}
  (W:∀A:Around,A.handled=none->Walks P w A it [it] [it] n Pv St) (hP:∀i v,Pv i v->aO (f i) v) (hobj:∀i h,St i h->∃o,h.get? it=some o/\∀v,o.data≠.cell v)
  (hfr:∀i h h',St i h->(∀o,h.get? it=some o->h'.get? it=some o)->St i h')
  (hself:∀(A:Around) (i:Nat) (s:Shared) (Q:Value->Shared->Prop) (E:Value->Shared->Prop),St i s.heap->Q (.ref it) s->wpAny (model P w) A (pyIter (.ref it)) Q E s) :
  Turn P w K (.Name x px) (Itf n f) [it] it St where
 mem:=by simp
 obj:=λi h st b hb=>by
  have e:b=it:=by simpa using hb
  subst e;exact hobj i h st
 keep:=λi h h' st k=>hfr i h h' st λo e=>k it (by simp) o e
 item:=by
  intro X hP' hw hK hc i pins s σ H E I hf st hg;subst hP' hw hK;obtain⟨f0,f1,f2,f3,f4,f5⟩:=hf it (by simp);refine(W X.A (I.ok.hd hc)).item i s _ _ hg st λv h' tk hv st' kk=>?_;have I1:Inv X pins σ H { s with heap:=h',toks:=tk }:=I.turned (λb o hb e=>kk b o (by simpa using hb) e) f0 f1 f3 f4 f5;refine⟨v,rfl,wpAny_of_eq (a:=()) (by rfl) ⟨f i,H,I1,hP i v hv,⟨rfl,rfl⟩,st',λb hb=>(hf b hb).1⟩⟩
 done:=by
  intro X hP' hw hK hc i pins s σ H E I hf st hg;subst hP' hw hK;obtain⟨f0,f1,f2,f3,f4,f5⟩:=hf it (by simp);have e:i=n:=hg;subst e;exact(W X.A (I.ok.hd hc)).done s _ _ st λh' tk kk=>⟨rfl,I.turned (λb o hb e=>kk b o (by simpa using hb) e) f0 f1 f3 f4 f5⟩
 self:=λA i s Q E st h=>hself A i s Q E st h
def dF (z:Str) (i:Nat):V:=.str ⟨#[z.cps.getD i 0]⟩
theorem ia {v:Value} (h:SignAt z i v):aO (dF z i) v:=by
 obtain⟨c,u,h1,h2⟩:=h;subst h2;refine⟨u,?_⟩;have:z.cps.getD i 0=c:=by rw[Array.getD_eq_getD_getElem?,h1];rfl
 rw[this]
theorem pc {K:PySem.W.Frag} {px:Pos} {t:Tok} {ty:String} (hty:ty = "str_ascii_iterator" \/ ty = "str_iterator") :
  Turn P w K (.Name x px) (Itf z.cps.size (dF z)) [it] it (λi h=>h.IsStrIter it ty z t i):=by
 rcases hty with e|e
 ·subst e
  exact gQ (λA hA=>Walks.strAscii hA it z t) (λi v h=>ia h) (λi h st=>let ⟨o,e,_,d⟩:=st;⟨o,e,λv q=>by rw[d]at q;cases q⟩)
   (λi h h' st k=>let ⟨o,e,r⟩:=st;⟨o,k o e,r⟩) λA i s Q E st q=>wpAny_pyIter_striter_ascii st q
 subst e
 exact gQ (λA hA=>Walks.strWide hA it z t) (λi v h=>ia h) (λi h st=>let ⟨o,e,_,d⟩:=st;⟨o,e,λv q=>by rw[d]at q;cases q⟩)
  (λi h h' st k=>let ⟨o,e,r⟩:=st;⟨o,k o e,r⟩) λA i s Q E st q=>wpAny_pyIter_striter_wide st q
section
variable {X:Cx} {x:Str} {px:Pos}
def vQ (tl:TE):TI:=λσ H R=>tl σ H λv H1=>∃z:Str,v=.str z/\R (Itf z.cps.size (dF z)) H1
theorem pP {l:Expr} {tl:TE} (hl:PE X l tl):PI X (.Name x px) l (vQ tl):=by
 intro pins s σ H R I h;refine thn (hl pins s σ H _ I h) λv s1 ⟨y,H1,I1,r1,q1⟩=>?_;obtain⟨z,e,q⟩:=q1;subst e;obtain⟨t,e⟩:=r1;subst e
 have fin:∀ty:String,(ty = "str_ascii_iterator" \/ ty = "str_iterator")->PIE X pins σ (.Name x px) R (.ref s1.heap.objs.size) { s1 with heap:=s1.heap.push { cls:=.type ty,data:=.fields #[.str z t,.int 0 0] } }:=λty hty=>by
  refine⟨s1.heap.objs.size,[s1.heap.objs.size],_,_,H1,rfl,I1.kept (t':=s1.toks) λb o e=>Qb _ e,pc (t:=t) hty,⟨_,Ql _ rfl,rfl,rfl⟩,λb hb=>?_,q⟩;have e:b=s1.heap.objs.size:=by simpa using hb
  subst e;exact I1.fpOk (Qi _) (I1.hok.fresh (Qi _))
 cases ha:z.cps.all (·<128) with
 | false=>exact wpAny_pyIter_wide ha (fin _ (.inr rfl))
 | true=>exact wpAny_pyIter_ascii ha (fin _ (.inl rfl))
end
section
variable {X:Cx}
def uX:V->Option Int->Option Int->Hp->VK->Prop:=λx lo hi H Q=>∃z:Str,x=.str z/\z.length<=sizeLine/\Q (.str (Txt.slice z lo hi)) H
theorem jU:SlR X uX:=by
 intro pins s σ H x v vl vu lo hi sl Q I rx hs pl pu h;obtain⟨z,e,hz,q⟩:=h;subst e;obtain⟨t,e⟩:=rx;subst e;refine⟨"str", _,F.slot_str_getitem.lookup,typeIs_str _ _ _,?_⟩;have fin:∀(t':Tok) (k:Nat),EP X pins σ Q (.str (Txt.slice z lo hi) t') { s with toks:=k }:=λt' k=>⟨.str _,H,I.tok k,⟨t',rfl⟩,q⟩
 cases pl with
 | none =>
  cases pu with
  | none=>exact wpAny_getItem_str_slice (l:=none) (u:=none) (st:=none) hs rfl (post_val_or_str ⟨QK (Txt.slice_le z _ _) hz,fin⟩)
  | int j uj=>exact wpAny_getItem_str_slice (l:=none) (u:=some (j,uj)) (st:=none) hs rfl (post_val_or_str ⟨QK (Txt.slice_le z _ _) hz,fin⟩)
 | int i ui =>
 cases pu with
 | none=>exact wpAny_getItem_str_slice (l:=some (i,ui)) (u:=none) (st:=none) hs rfl (post_val_or_str ⟨QK (Txt.slice_le z _ _) hz,fin⟩)
 | int j uj=>exact wpAny_getItem_str_slice (l:=some (i,ui)) (u:=some (j,uj)) (st:=none) hs rfl (post_val_or_str ⟨QK (Txt.slice_le z _ _) hz,fin⟩)
theorem ff:∀{ys:List Str} {us:List Value},aW (ys.map V.str) us->StrsAre us ys
 | [],_,r=>by
  rw[List.map_nil]at r;cases r;exact .nil
 | y::ys,_,r=>by
  rw[Qs]at r
  cases r with
  | cons r1 r2 =>
  obtain⟨t,e⟩:=r1;subst e;exact .cons y t (ff r2)
def uZ (K:PySem.W.Frag):V->List V->Hp->VK->Prop:=λx vs H Q=>∃(z:Str) (l:Addr) (ys:List Str),x=.str z/\vs=[.ref l]/\SqL K H l (ys.map V.str)/\(ys.map (·.length)).sum+ys.length*z.length<=16777216/\Q (.str (Txt.join z ys)) H
theorem j6:MtR X "str.join" (uZ X.K):=by
 intro pins s σ H x vs v us Q I rx rv h;obtain⟨z,l,ys,e1,e2,hl,hz,q⟩:=h;subst e1 e2;obtain⟨t,e⟩:=rx;subst e;obtain⟨u,e,ru⟩:=rv.one;subst e;cases ru;obtain⟨its,r,pl,_⟩:=I.list hl;exact join_list pl.isList (by simpa using ff r) hz λt' k=>⟨.str _,H,I.tok k,⟨t',rfl⟩,q⟩
theorem jx (ys:List Str):(Txt.join Str.empty ys).cps.toList=(ys.map (·.cps.toList)).flatten:=by
 unfold Txt.join;rw[PySem.StrLaws.glued_eq_join]
 induction ys with
 | nil=>rfl
 | cons y r ih =>
 cases r with
 | nil=>simp[Str.join]
 | cons y2 r2 =>
 show (y++Str.empty++Str.join Str.empty (y2::r2)).cps.toList=_;rw[Qs,List.flatten_cons,<-ih];show (y.cps++Str.empty.cps++(Str.join Str.empty (y2::r2)).cps).toList=_;simp[Str.empty]
end
inductive EqD (K:PySem.W.Frag) (H:Hp):Nat->V->V->Bool->Prop
 | flat {n:Nat} {x y:V}:cq x=true->cq y=true->EqD K H n x y (eqV x y)
 | same {n:Nat} {a:Addr}:EqD K H n (.ref a) (.ref a) true
 | lists {n:Nat} {a b:Addr} {xs ys:List V} {e:Nat->Bool}:SqL K H a xs->SqL K H b ys->xs.length=ys.length->(∀(j:Nat) x y,xs[j]?=some x->ys[j]?=some y->EqD K H n x y (e j))->a≠b ->
   EqD K H (n+1) (.ref a) (.ref b) ((List.range xs.length).all e)
 | tups {n:Nat} {a b:Addr} {xs ys:List V} {e:Nat->Bool}:SqT K H a xs->SqT K H b ys->(∀(j:Nat) x y,xs[j]?=some x->ys[j]?=some y->EqD K H n x y (e j))->a≠b ->
   EqD K H (n+1) (.ref a) (.ref b) ((List.range (min xs.length ys.length)).all e&&xs.length==ys.length)
theorem EqD.at {X:Cx} {pins:List (Addr × Obj)} {σ:St} {H:Hp} {s:Shared} (I:Inv X pins σ H s) {n:Nat} {x y:V} {b:Bool} (h:EqD X.K H n x y b) :
  ∀{A:Around} {u v:Value},A.units+n<cLine->aO x u->aO y v->SeqAt.EqAt A s u v b:=by
 induction h with
 | flat fx fy=>intro A u v _ rx ry;exact qW rx ry fx fy
 | same =>
  intro A u v _ rx ry;cases rx;cases ry;exact SeqAt.EqAt.same _
 | @lists n a c xs ys e ha hb hl hi hne ih =>
  intro A u v hu rx ry;cases rx;cases ry;obtain⟨its,r1,p1,_⟩:=I.list ha;obtain⟨its2,r2,p2,_⟩:=I.list hb;have l1:=r1.length;have l2:=r2.length;refine SeqAt.EqAt.of_refs hne ?_
  have q:=SeqAt.RcAt.lists (A:=A) (e:=e) p1.isList p2.isList (by rw[Qf,Qf];exact om7 hl l1 l2) (by exact om8 hu) λj h1 h2=>by
   rw[Qf]at h1 h2;have e1:xs[j]?=some xs[j]:=Qe (by exact om9 hl l1 l2 h1);have e2:ys[j]?=some ys[j]:=Qe (by exact v4 hl l1 l2 h1);obtain⟨w1,g1,rr1⟩:=r1.get e1;obtain⟨w2,g2,rr2⟩:=r2.get e2
   have g1':its.toArray[j]=w1:=by
    have:=(Qc.mp g1).2;simpa using this
   have g2':its2.toArray[j]=w2:=by
    have:=(Qc.mp g2).2;simpa using this
   rw[g1',g2'];exact ih j _ _ e1 e2 (by show A.units+1+n<cLine;exact vC hu) rr1 rr2
  rw[Qf,<-l1]at q;exact q
 | @tups n a c xs ys e ha hb hi hne ih =>
 intro A u v hu rx ry;cases rx;cases ry;obtain⟨its,r1,p1,_⟩:=I.tuple ha;obtain⟨its2,r2,p2,_⟩:=I.tuple hb;have l1:=r1.length;have l2:=r2.length;refine SeqAt.EqAt.of_refs hne ?_
 have q:=SeqAt.RcAt.tuples (A:=A) (e:=e) (show s.heap.IsTuple a its.toArray from p1) (show s.heap.IsTuple c its2.toArray from p2) (by exact om8 hu) λj h1 h2=>by
  rw[Qf]at h1 h2;have e1:xs[j]?=some xs[j]:=Qe (by exact qa l1 h1);have e2:ys[j]?=some ys[j]:=Qe (by exact qa l2 h2);obtain⟨w1,g1,rr1⟩:=r1.get e1;obtain⟨w2,g2,rr2⟩:=r2.get e2
  have g1':its.toArray[j]=w1:=by
   have:=(Qc.mp g1).2;simpa using this
  have g2':its2.toArray[j]=w2:=by
   have:=(Qc.mp g2).2;simpa using this
  rw[g1',g2'];exact ih j _ _ e1 e2 (by show A.units+1+n<cLine;exact vC hu) rr1 rr2
 rw[Qf,Qf,<-l1,<-l2]at q;exact q
section
variable {X:Cx}
theorem EqD.items {pins:List (Addr × Obj)} {σ:St} {H:Hp} {s:Shared} (I:Inv X pins σ H s) {n:Nat} {A:Around} (hu:A.units+1+n<cLine) {xs ys:List V} {its its2:List Value} (r1:aW xs its) (r2:aW ys its2) {e:Nat->Bool}
  (h:∀(j:Nat) x y,xs[j]?=some x->ys[j]?=some y->EqD X.K H n x y (e j)) (j:Nat) (h1:j<its.toArray.size) (h2:j<its2.toArray.size):SeqAt.EqAt A.in1 s its.toArray[j] its2.toArray[j] (e j):=by
 have l1:=r1.length;have l2:=r2.length;rw[Qf]at h1 h2;have e1:xs[j]?=some xs[j]:=Qe (by exact vB h1 l1);have e2:ys[j]?=some ys[j]:=Qe (by exact vB h2 l2);obtain⟨w1,g1,rr1⟩:=r1.get e1;obtain⟨w2,g2,rr2⟩:=r2.get e2
 have g1':its.toArray[j]=w1:=by
  have:=(Qc.mp g1).2;simpa using this
 have g2':its2.toArray[j]=w2:=by
  have:=(Qc.mp g2).2;simpa using this
 rw[g1',g2'];exact EqD.at I (h j _ _ e1 e2) (by show A.units+1+n<cLine;exact hu) rr1 rr2
def pI (K:PySem.W.Frag) (neg:Bool):R2:=λx y H Q=>∃a b xs ys e,x=.ref a/\y=.ref b/\SqL K H a xs/\SqL K H b ys/\(∀(j:Nat) x y,xs[j]?=some x->ys[j]?=some y->EqD K H 8 x y (e j)) /\
 Q (.bl (if neg then !(xs.length==ys.length&&(List.range xs.length).all e) else (xs.length==ys.length&&(List.range xs.length).all e))) H
def ua (K:PySem.W.Frag) (neg:Bool):R2:=λx y H Q=>∃a b xs ys e,x=.ref a/\y=.ref b/\SqT K H a xs/\SqT K H b ys/\(∀(j:Nat) x y,xs[j]?=some x->ys[j]?=some y->EqD K H 8 x y (e j)) /\
 Q (.bl (if neg then !((List.range (min xs.length ys.length)).all e&&xs.length==ys.length) else ((List.range (min xs.length ys.length)).all e&&xs.length==ys.length))) H
theorem mm (hu:X.A.units+64<cLine):OpR X (compareOp .Eq) (pI X.K false):=by
 intro pins s σ H x y v u Q I rx ry h;obtain⟨a,b,xs,ys,e,e1,e2,ha,hb,hi,q⟩:=h;subst e1 e2;cases rx;cases ry;obtain⟨its,r1,p1,_⟩:=I.list ha;obtain⟨its2,r2,p2,_⟩:=I.list hb;have l1:=r1.length;have l2:=r2.length;by_cases hl:xs.length=ys.length
 ·refine SeqAt.eq_listAt (e:=e) p1.isList p2.isList (by rw[Qf,Qf];exact vA l1 l2 hl) (by exact oo hu) (EqD.items I (by exact rY hu) r1 r2 hi) ⟨.bl _,H,I,rfl,?_⟩;rw[Qf,<-l1];have:(xs.length==ys.length)=true:=by simpa using hl
  rw[this]at q;exact q
 refine SeqAt.eq_list_lengthsAt p1.isList p2.isList (by rw[Qf,Qf,<-l1,<-l2];simpa using hl) (by exact oo hu) ⟨.bl _,H,I,rfl,?_⟩;have:(xs.length==ys.length)=false:=by simpa using hl
 rw[this]at q;exact q
theorem pY (hu:X.A.units+64<cLine):OpR X (compareOp .NotEq) (pI X.K true):=by
 intro pins s σ H x y v u Q I rx ry h;obtain⟨a,b,xs,ys,e,e1,e2,ha,hb,hi,q⟩:=h;subst e1 e2;cases rx;cases ry;obtain⟨its,r1,p1,_⟩:=I.list ha;obtain⟨its2,r2,p2,_⟩:=I.list hb;have l1:=r1.length;have l2:=r2.length;by_cases hl:xs.length=ys.length
 ·refine SeqAt.RcNeAt.lists (e:=e) p1.isList p2.isList (by rw[Qf,Qf];exact vA l1 l2 hl) (by exact oo hu) (EqD.items I (by exact rY hu) r1 r2 hi) _ _ _ _ ⟨.bl _,H,I,rfl,?_⟩;rw[Qf,<-l1];have:(xs.length==ys.length)=true:=by simpa using hl
  rw[this]at q;exact q
 refine SeqAt.RcNeAt.lists_lengths p1.isList p2.isList (by rw[Qf,Qf,<-l1,<-l2];simpa using hl) (by exact oo hu) _ _ _ _ ⟨.bl _,H,I,rfl,?_⟩;have:(xs.length==ys.length)=false:=by simpa using hl
 rw[this]at q;exact q
theorem p_ (hu:X.A.units+64<cLine):OpR X (compareOp .Eq) (ua X.K false):=by
 intro pins s σ H x y v u Q I rx ry h;obtain⟨a,b,xs,ys,e,e1,e2,ha,hb,hi,q⟩:=h;subst e1 e2;cases rx;cases ry;obtain⟨its,r1,p1,_⟩:=I.tuple ha;obtain⟨its2,r2,p2,_⟩:=I.tuple hb;have l1:=r1.length;have l2:=r2.length;refine SeqAt.eq_tupleAt (e:=e) (show s.heap.IsTuple a its.toArray from p1) (show s.heap.IsTuple b its2.toArray from p2) (by exact oo hu) (EqD.items I (by exact rY hu) r1 r2 hi) ⟨.bl _,H,I,rfl,?_⟩;rw[Qf,Qf,<-l1,<-l2];exact q
theorem ul (hu:X.A.units+64<cLine):OpR X (compareOp .NotEq) (ua X.K true):=by
 intro pins s σ H x y v u Q I rx ry h;obtain⟨a,b,xs,ys,e,e1,e2,ha,hb,hi,q⟩:=h;subst e1 e2;cases rx;cases ry;obtain⟨its,r1,p1,_⟩:=I.tuple ha;obtain⟨its2,r2,p2,_⟩:=I.tuple hb;have l1:=r1.length;have l2:=r2.length;refine SeqAt.RcNeAt.tuples (e:=e) (show s.heap.IsTuple a its.toArray from p1) (show s.heap.IsTuple b its2.toArray from p2) (by exact oo hu) (EqD.items I (by exact rY hu) r1 r2 hi) _ _ _ _ ⟨.bl _,H,I,rfl,?_⟩;rw[Qf,Qf,<-l1,<-l2];exact q
end
section
variable {X:Cx}
theorem bp:fW X (.builtin "isinstance") (λxs H Q=>∃x T ty b,xs=[x,.ty T]/\TyOf X.K H x ty/\PySem.W.kitOne X.K ty (.type T)=some b/\Q (.bl b) H):=by
 intro pins s σ H xs us Q I r h;obtain⟨x,T,ty,b,e,t,k,q⟩:=h;subst e;obtain⟨u1,u2,e,r1,r2⟩:=o9 r;subst e;cases r2;exact oN I r1 t k λtk=>⟨.bl b,H,I.tok tk,rfl,q⟩
theorem bR {K:PySem.W.Frag} (T:String):PySem.W.kitOne K (.type T) (.type T)=some true:=by
 unfold PySem.W.kitOne;rw[QC (by simp)]
theorem o0 (bs:List Bool):(List.range bs.length).all (λi=>bs.getD i false)=bs.all id:=by
 rw[Bool.eq_iff_iff];simp only[QU,List.mem_range]
 constructor
 ·intro h x hx;obtain⟨i,hi,e⟩:=QV.mp hx;have q:=h i hi;rw[QW,Qe hi,Option.getD_some,e]at q;exact q
 intro h i hi;rw[QW,Qe hi,Option.getD_some];exact h _ (List.getElem_mem hi)
theorem dN (hc:X.calm=true):fW X (.builtin "all") (λxs H Q=>∃(l:Addr) (bs:List Bool),xs=[.ref l]/\SqL X.K H l (bs.map V.bl)/\Q (.bl (bs.all id)) H):=by
 intro pins s σ H xs us Q I r h;obtain⟨l,bs,e,hl,q⟩:=h;subst e;obtain⟨u,e,ru⟩:=dB r;subst e;cases ru;obtain⟨its,rv,pl,hz⟩:=I.list hl;have hlen:=rv.length;rw[Qd]at hlen
 have ne:l≠s.heap.objs.size:=by
  obtain⟨o,ho,_⟩:=pl.isList;exact Qp (Qj ho)
 refine call_all_walk (wpAny_pyIter_list pl.isList ?_);refine⟨s.heap.objs.size,_,_,_,_,_,(λi=>bs.getD i false),rfl,Walks.list (show X.A.in1.handled=none from I.ok.hd hc) s.heap.objs.size l ne its.toArray,⟨⟨_,Ql _ rfl,rfl,rfl⟩,pl.isList.push _⟩,?_,λh' tk hk=>?_⟩
 ·intro i v s' Q' E' hP hQ;have hP':its[i]?=some v:=by simpa using hP
  have hi:i<bs.length:=by
   have:=(Qc.mp hP').1;exact qa hlen this
  have e1:(bs.map V.bl)[i]?=some (.bl (bs.getD i false)):=by
   rw[Qk,Qe hi,QW,Qe hi];rfl
  obtain⟨u,hu,ru⟩:=rv.get e1;rw[hP']at hu;cases hu;cases ru;exact Q3 hQ
 have hs:its.toArray.size=bs.length:=by rw[Qf];exact hlen.symm
 rw[hs,o0]
 exact⟨.bl _,H,I.kept λb o e=>hk b o (by
  have:=Qj e;simp only[QJ]
  exact Qp this) (Qb _ e),rfl,q⟩
abbrev gR (K:PySem.W.Frag) (T:Addr) (D:List (Str × KTD.Dat)):Prop:=KTD.tabLook (KTD.datLooks λa=>K.lookup a) (λa=>K.lookup a) T D=true
theorem oi {T:Addr} {D:List (Str × KTD.Dat)} (hT:gR X.K T D):OpR X (compareOp .In) (λx y H Q=>∃z,x=.str z/\y=.ref T/\Q (.bl (KTD.inKeys z D)) H):=by
 intro pins s σ H x y v u Q I rx ry h;obtain⟨z,e1,e2,q⟩:=h;subst e1 e2;obtain⟨t,e⟩:=rx;subst e;cases ry;exact KTD.in_text (h₀:=X.base) ⟨KTD.text_of_look (get:=λa=>X.K.lookup a) (λa o e=>I.mod.kin a o e) hT,I.bk⟩ ⟨.bl _,H,I.tok _,rfl,q⟩
theorem e_:fW X (.type "int") (λxs H Q=>∃z n,xs=[.str z]/\PySem.intText? z=some n/\z.length<=640/\Q (.int n) H):=by
 intro pins s σ H xs us Q I r h;obtain⟨z,n,e,h1,h2,q⟩:=h;subst e;obtain⟨u,e,ru⟩:=dB r;subst e;obtain⟨t,e⟩:=ru;subst e;exact PySem.W.KIN.call_text h1 h2 ⟨.int n,H,I.tok _,⟨_,rfl⟩,q⟩
def vR (K:PySem.W.Frag) (n:Nat) (t:TGs):TG:=λv σ H Q=>∃a xs,v=.ref a/\SqL K H a xs/\xs.length=n/\t xs σ H Q
theorem rS {es:List Expr} {k:Nat} {t:TGs} {n:Nat} {pos:Pos} (hc:X.calm=true) (h:PGs X es t)
  (hn:(assignEach es X.env).length=n:=by rfl) (hst:(assignEach es X.env).findIdx? (·.1)=none:=by rfl):PG X (.Tuple es k pos) (vR X.K n t):=by
 intro pins s σ H v u Q I r hw;obtain⟨a,xs,e1,hq,hl,hw⟩:=hw;subst e1;cases r;obtain⟨its,rv,ht,hz⟩:=I.list hq;rw[assign_Tuple];refine Qa (wpAny_standAt ?_);unfold unpack;have hsz:(assignEach es X.env).length=its.toArray.size:=by rw[hn,Qf,<-rv.length,hl]
 rw[hsz,hst];refine Qa (QQ (PySem.W.kun_itemsOf (I.ok.hd hc) ht.isList λh' hx=>?_));have I1:Inv X pins σ H { s with heap:=h' }:=I.kept (t':=s.toks) λb o e=>hx b o (Qp (Qj e)) e;exact h pins _ σ H xs _ Q I1 (by simpa using rv) hw
end
theorem Inv.turned2 {X:Cx} {pins:List (Addr × Obj)} {σ:St} {H:Hp} {s:Shared} {h':Heap} {t':Nat} {o:HO} (I:Inv X pins σ H s) (k:∀b o,b≠e->b≠it->s.heap.get? b=some o->h'.get? b=some o)
  (f1:fu X pins H e) (f2:fu X pins H it) (hT:s.heap.objs.size<=T) (new:bc X.prog X.w (upd H T o) h' T o):Inv X pins σ (upd H T o) { s with heap:=h',toks:=t' }:=by
 have hn:H T=none:=I.hok.fresh hT;have nT:∀b u,s.heap.get? b=some u->b≠T:=λb u q=>Qp (Qr (Qj q) hT);have n1:∀b u,H b=some u->b≠e:=λb u q z=>by rw[z,f1.1]at q;cases q
 have n2:∀b u,H b=some u->b≠it:=λb u q z=>by rw[z,f2.1]at q;cases q
 have kk:∀b u,b∉[e,it]->s.heap.get? b=some u->h'.get? b=some u:=λb u hc q=>k b u (λz=>hc (by simp[z])) (λz=>hc (by simp[z])) q
 refine I.step (g':=s.gens) (d':=s.drawn) (ch:=[e,it]) (λb hb=>?_) (λb u _ _ hc q _=>kk b u hc q) (λb u _ _ hc q _=>⟨u.slots,kk b u hc q⟩) (λb u _ q n=>by rw[ao (nT b u q)];exact n)
  (λb u hc q=>⟨u,kk b u hc q⟩) (λb xs q=>by rw[ao (ay q hn)];exact q) (λb u xs q=>by rw[ao (ay q hn)];exact q) (λb ps q=>⟨#[],by rw[ao (ay q hn),q];simp⟩) (λm hm=>?_) (λb u q=>?_) I.bare
 ·have z:b=e\/b=it:=by simpa using hb
  rcases z with z|z
  ·subst z;obtain⟨_,a2,_,a4,a5,a6⟩:=f1;exact⟨a4,a2,a5,a6⟩
  subst z;obtain⟨_,a2,_,a4,a5,a6⟩:=f2;exact⟨a4,a2,a5,a6⟩
 ·obtain⟨ob,es,ep,ho,r⟩:=hm;exact⟨ob,es,ep,k _ ob (Ne.symm f1.2.1) (Ne.symm f2.2.1) ho,r⟩
 by_cases hb:b=T
 ·subst hb;rw[ai]at q;cases q;exact new
 rw[ao hb]at q;refine(I.hok b u q).stay (λc v hc z=>k c v ?_ ?_ z) (λc z=>by rw[ao (ay z hn)];exact z) λc xs z=>by rw[ao (ay z hn)];exact z
 ·rcases hc with z|z
  ·rw[z];exact n1 b u q
  exact n1 c _ z
 rcases hc with z|z
 ·rw[z];exact n2 b u q
 exact n2 c _ z
section
variable {X:Cx} {elts:List Expr} {k:Nat} {tpos:Pos}
end
structure Fn (P:Program) (w:World) (K:PySem.W.Frag) (mg:Str->Option Value) (base:Heap) (x:Str) (ps:List Str) (k:Nat) (sp:Sp):Prop where
 ex:∃f fd,FnOk P w K mg base CX0 k f fd ps sp/\mg x=some (.ref f)/\PySem.W.keepIn K (.ref f)=true/\fb K fd ps []
section
variable {X:Cx}
theorem tf {x:Str} {ps:List Str} {k:Nat} {sp:Sp} {e:Expr} {es:List Expr} {t:TA} {p pos:Pos} (F:Fn X.prog X.w X.K X.mg X.base x ps k sp) (hr:Room k X.A) (hg:Gl X x) (ha:PA X (e::es) t)
  (hdb:(x==("__debug__" : Str))=false:=by decide) (he:starEach (e::es) X.env=(false,eval e X.env)::starEach es X.env:=by rfl) (hpl:(backTo pos (starEach es X.env)).any (·.1)=false:=by rfl) :
  PE X (.Call (.Name x p) (e::es) [] pos) (jk sp [] E0 t):=by
 obtain⟨f,fd,G,hm,hk,hb⟩:=F.ex;exact rW G hr hg hm hk hb .nil tj ha hdb he hpl
theorem au {x:Str} {ps:List Str} {k j:Nat} {sp:Sp} {e:Expr} {es:List Expr} {t:TA} {p pos:Pos} (F:Fn X.prog X.w X.K X.mg X.base x ps k sp) (hr:Room j X.A) (ha:PA X (e::es) t) (hk:k<=j:=by first|decide|omega) (hg:Gl X x:=by rfl) (hdb:(x==("__debug__" : Str))=false:=by decide) (he:starEach (e::es) X.env=(false,eval e X.env)::starEach es X.env:=by rfl) (hpl:(backTo pos (starEach es X.env)).any (·.1)=false:=by rfl):PE X (.Call (.Name x p) (e::es) [] pos) (jk sp [] E0 t):=tf F (hr.mono hk) hg ha hdb he hpl
end
section
variable {σ:St} {H:Hp} {Q:VK} {K:PySem.W.Frag}
variable {v x y:V}
theorem ae {i:Nat} (h:σ[i]?=some (some v)) (q:Q v H):dE i σ H Q:=⟨v,h,q⟩
theorem i_c (q:Q v H):tC v σ H Q:=q
variable {ta tb te to ti tl:TE}
theorem aC {r:R2} (q:ta σ H λx H1=>tb σ H1 λy H2=>r x y H2 Q):tOp r ta tb σ H Q:=q
variable {i j:Int}
theorem i_rI0 {g:Int->Int->V} (q:Q (g i j) H):rI0 g (.int i) (.int j) H Q:=⟨i,j,rfl,rfl,q⟩
theorem i_rI {C:Int->Int->Prop} {g:Int->Int->V} (c:C i j) (q:Q (g i j) H):rI C g (.int i) (.int j) H Q:=⟨i,j,rfl,rfl,c,q⟩
theorem i_eq (h:rG x y=true) (q:Q (.bl (decide (x=y))) H):rEq x y H Q:=⟨h,q⟩
theorem i_ne (h:rG x y=true) (q:Q (.bl (!decide (x=y))) H):rNe x y H Q:=⟨h,q⟩
variable {R:Bool->Hp->Prop}
theorem i_test {t:TE} (q:t σ H λx H'=>∃k,x=.bl k/\R k H'):mT t σ H R:=q
theorem i_tB {t:TE} (q:t σ H λx H'=>∃k,x=.bl k/\R k H'):tB t σ H R:=q
theorem i_and {t u:TT} (q:t σ H λc H1=>if c=true then u σ H1 R else R false H1):uU t u σ H R:=q
theorem i_or {t u:TT} (q:t σ H λc H1=>if c=true then R true H1 else u σ H1 R):tOr t u σ H R:=q
theorem i_not {t:TT} (q:t σ H λc H1=>R (!c) H1):uN t σ H R:=q
theorem i_andV (q:ta σ H λx H1=>∃c,x=.bl c/\if c=true then tb σ H1 Q else Q (.bl false) H1):pk ta tb σ H Q:=q
theorem i_orV (q:ta σ H λx H1=>∃c,x=.bl c/\if c=true then Q (.bl true) H1 else tb σ H1 Q):tV ta tb σ H Q:=q
theorem i_notV (q:ta σ H λx H1=>∃c,x=.bl c/\Q (.bl (!c)) H1):sO ta σ H Q:=q
theorem i_ifE {t:TT} (q:t σ H λc H1=>if c=true then ta σ H1 Q else tb σ H1 Q):tIf t ta tb σ H Q:=q
theorem av {R:List V->Hp->Prop} (q:R [] H):gz σ H R:=q
variable {tr t:TA}
theorem af {R:List V->Hp->Prop} (q:te σ H λx H1=>tr σ H1 λxs H2=>R (x::xs) H2):bP te tr σ H R:=q
theorem aH {sp:Sp} {E:XK} (q:t σ H λvs H1=>sp vs H1 Q E):jk sp [] E t σ H Q:=by
 show t σ H λvs H1=>sp (vs++[]) H1 Q E;simpa only[List.append_nil] using q
theorem i_cb {r:List V->Hp->VK->Prop} (q:t σ H λvs H1=>r vs H1 Q):tCB r t σ H Q:=q
theorem i_tup (q:t σ H λxs H1=>xs.length<=sizeLine/\∀p,H1 p=none->Q (.ref p) (upd H1 p (.tup xs))):uL t σ H Q:=q
theorem i_lst (q:t σ H λxs H1=>xs.length<=sizeLine/\∀p,H1 p=none->Q (.ref p) (upd H1 p (.lst xs))):kq t σ H Q:=q
theorem i_bm {T:String} {r:V->List V->Hp->VK->Prop} (q:to σ H λx H1=>tyV K T x H1/\t σ H1 λxs H2=>r x xs H2 Q):tBM K T r to t σ H Q:=q
theorem i_sl {r:V->Option Int->Option Int->Hp->VK->Prop} {tl th:TO} (q:te σ H λx H1=>tl σ H1 λl H2=>th σ H2 λu H3=>r x l u H3 Q):tSl r te tl th σ H Q:=q
theorem i_nopart {R:Option Int->Hp->Prop} (q:R none H):jI σ H R:=q
theorem i_part {t:TE} {R:Option Int->Hp->Prop} (q:t σ H λx H1=>∃i,x=.int i/\R (some i) H1):sN t σ H R:=q
variable {xs:List V}
theorem i_ixL {p:Addr} {v:V} (h:SqL K H p xs) (e:atI xs i=some v) (q:Q v H):t9 K (.ref p) (.int i) H Q:=⟨p,xs,i,v,rfl,rfl,h,e,q⟩
theorem ba {p:Addr} (h:H p=some (.tup xs)) (e:atI xs i=some v) (q:Q v H):mh K (.ref p) (.int i) H Q:=⟨p,xs,i,v,rfl,rfl,SqT.of h,e,q⟩
theorem gq {z:Str} {c:Nat} (hz:z.length<=sizeLine) (e:atI z.cps.toList i=some c) (q:Q (.str ⟨#[c]⟩) H):u0 (.str z) (.int i) H Q:=⟨z,i,c,rfl,rfl,hz,e,q⟩
variable {D:Ends}
theorem s_seq {t u:TS} (q:t { D with nx:=u D } σ H):rC t u D σ H:=q
theorem aU {g:TG} (q:te σ H λx H1=>g x σ H1 D.nx):pj te g D σ H:=q
theorem ap {i:Nat} {R:St->Hp->Prop} (q:R (σ.set i (some v)) H):ee i v σ H R:=q
theorem s_drop (q:te σ H λ_ H1=>D.nx σ H1):sR te D σ H:=q
theorem s_ret {te:TE} (q:te σ H D.rt):uM te D σ H:=q
theorem s_next (q:D.nx σ H):sP D σ H:=q
theorem s_if {c:TT} {t u:TS} (q:c σ H λb H1=>if b=true then t D σ H1 else u D σ H1):uP c t u D σ H:=q
theorem s_sub {t:vV} {R:St->Hp->Prop} (q:to σ H λo H1=>ti σ H1 λi H2=>t o i v H2 λH3=>R σ H3):v7 to ti t v σ H R:=q
theorem s_setL {p:Addr} {k:Int} {j:Nat} {R:Hp->Prop} (h:H p=some (.lst xs)) (e:ixN xs.length k=some j) (q:R (upd H p (.lst (xs.set j v)))):uY (.ref p) (.int k) v H R:=⟨p,xs,k,j,rfl,rfl,h,e,q⟩
theorem s_for {wi:TI} {g:TG} {tb:TS} (q:wi σ H λJ H1=>∃W:Nat->Nat->St->Hp->Prop,(∃m,W 0 m σ H1)/\∀i m σ H,W i m σ H ->
 (J.stop i H/\D.nx σ H)\/(J.go i H/\∃N:St->Hp->Prop,(∀σ' H',N σ' H'->∃m',m'<m/\W (i+1) m' σ' H')/\∀x H',J.yld i H x H'->g x σ H' λσ2 H2=>tb { D with nx:=N,ct:=N,bk:=D.nx } σ2 H2)):uR wi g tb D σ H:=q
theorem s_rng1 {ta:TA} {R:It->Hp->Prop} (q:ta σ H λvs H1=>∃j:Int,vs=[.int j]/\-(2 ^ 62)<=j/\j<2 ^ 62/\R (Itr 0 j.toNat) H1):tH ta σ H R:=q
theorem s_list {R:It->Hp->Prop} (q:tl σ H λx H1=>∃a,x=.ref a/\(∃xs,SqL K H1 a xs)/\R (Itl K a) H1):lx K tl σ H R:=q
theorem s_str {R:It->Hp->Prop} (q:tl σ H λv H1=>∃z:Str,v=.str z/\R (Itf z.cps.size (dF z)) H1):vQ tl σ H R:=q
theorem i_comp {wi:TI} {g:TG} {tt:TT} {f:St->St} (q:wi σ H λJ H1=>∀D,H1 D=none->∃W:Nat->Nat->Hp->List V->Prop,(∃m,W 0 m (upd H1 D (.lst [])) []) /\
 ∀i m H ys,W i m H ys->H D=some (.lst ys)/\((J.stop i H/\Q (.ref D) H)\/(J.go i H/\∀x H',J.yld i H x H'->g x (f σ) H' λσ2 H2=>wk (f σ) σ2/\tt σ2 H2 λb H3 =>
  if b=true then te σ2 H3 λv H4=>H4 D=some (.lst ys)/\ys.length<sizeLine/\∃m',m'<m/\W (i+1) m' (upd H4 D (.lst (ys++[v]))) (ys++[v])
  else ∃m',m'<m/\W (i+1) m' H3 ys))):jj wi g tt te f σ H Q:=q
end
def bS (Pv:Nat->Hp->List V->Prop) (n:Nat) (D:Addr) (i:Nat) (ys:List V):VK:=λv H4=>H4 D=some (.lst ys)/\ys.length<sizeLine/\∃m',m'<n-i/\(m'=n-(i+1)/\i+1<=n/\Pv (i+1) (upd H4 D (.lst (ys++[v]))) (ys++[v]))
theorem bS.mk {Pv:Nat->Hp->List V->Prop} {ys:List V} {v:V} {H4:Hp} (hd:H4 D=some (.lst ys)) (hi:i<n) (hl:ys.length<sizeLine) (p:Pv (i+1) (upd H4 D (.lst (ys++[v]))) (ys++[v])):bS Pv n D i ys v H4 :=
 ⟨hd,hl,n-(i+1),by exact om6 hi,rfl,hi,p⟩
section
variable {K:PySem.W.Frag} {g:TG} {te:TE} {σ0:St} {QD:Hp->Prop} {H1:Hp} {D:Addr}
theorem mI {lo:Int} {n:Nat} (Pv:Nat->Hp->List V->Prop) (h0:Pv 0 (upd H1 D (.lst [])) []) (hD:∀i H ys,Pv i H ys->H D=some (.lst ys))
  (hs:∀i H ys,i<n->Pv i H ys->g (.int (lo+i)) σ0 H λσ2 H2=>wk σ0 σ2/\fz σ2 H2 λb H3=>if b=true then te σ2 H3 (bS Pv n D i ys) else ∃m',m'<n-i/\(m'=n-(i+1)/\i+1<=n/\Pv (i+1) H3 ys)) (hd:∀H ys,Pv n H ys->QD H) :
  ∃W:Nat->Nat->Hp->List V->Prop,(∃m,W 0 m (upd H1 D (.lst [])) [])/\∀i m H ys,W i m H ys->H D=some (.lst ys)/\(((Itr lo n).stop i H/\QD H)\/((Itr lo n).go i H/\∀x H',(Itr lo n).yld i H x H'->g x σ0 H' λσ2 H2=>wk σ0 σ2/\fz σ2 H2 λb H3 =>
   if b=true then te σ2 H3 λv H4=>H4 D=some (.lst ys)/\ys.length<sizeLine/\∃m',m'<m/\W (i+1) m' (upd H4 D (.lst (ys++[v]))) (ys++[v]) else ∃m',m'<m/\W (i+1) m' H3 ys)):=by
 refine⟨λi m H ys=>m=n-i/\i<=n/\Pv i H ys,⟨n,by simp,QN _,h0⟩,?_⟩;rintro i m H ys ⟨rfl,hi,p⟩;refine⟨hD i H ys p,?_⟩;by_cases hlt:i<n
 ·refine .inr ⟨hlt,λx H' y=>?_⟩;obtain⟨e,y⟩:=y;subst e y;exact hs i _ ys hlt p
 have e:i=n:=by exact om0 hi hlt
 subst e;exact .inl ⟨Qi _,hd H ys p⟩
theorem cB {a:Addr} {xs:List V} (Pv:Nat->Hp->List V->Prop) (h0:Pv 0 (upd H1 D (.lst [])) []) (hD:∀i H ys,Pv i H ys->H D=some (.lst ys)/\SqL K H a xs)
  (hs:∀i x H ys,xs[i]?=some x->Pv i H ys->g x σ0 H λσ2 H2=>wk σ0 σ2/\fz σ2 H2 λb H3=>if b=true then te σ2 H3 (bS Pv xs.length D i ys) else ∃m',m'<xs.length-i/\(m'=xs.length-(i+1)/\i+1<=xs.length/\Pv (i+1) H3 ys)) (hd:∀H ys,Pv xs.length H ys->QD H) :
  ∃W:Nat->Nat->Hp->List V->Prop,(∃m,W 0 m (upd H1 D (.lst [])) [])/\∀i m H ys,W i m H ys->H D=some (.lst ys)/\(((Itl K a).stop i H/\QD H)\/((Itl K a).go i H/\∀x H',(Itl K a).yld i H x H'->g x σ0 H' λσ2 H2=>wk σ0 σ2/\fz σ2 H2 λb H3 =>
   if b=true then te σ2 H3 λv H4=>H4 D=some (.lst ys)/\ys.length<sizeLine/\∃m',m'<m/\W (i+1) m' (upd H4 D (.lst (ys++[v]))) (ys++[v]) else ∃m',m'<m/\W (i+1) m' H3 ys)):=by
 refine⟨λi m H ys=>m=xs.length-i/\i<=xs.length/\Pv i H ys,⟨xs.length,by simp,QN _,h0⟩,?_⟩;rintro i m H ys ⟨rfl,hi,p⟩;obtain⟨d1,d2⟩:=hD i H ys p;refine⟨d1,?_⟩;by_cases hlt:i<xs.length
 ·refine .inr ⟨⟨xs,xs[i],d2,by simp[hlt]⟩,λx H' y=>?_⟩;obtain⟨e,y⟩:=y;subst e;exact hs i x _ ys (y xs d2) p
 have e:i=xs.length:=by exact om0 hi hlt
 subst e;exact .inl ⟨⟨xs,d2,Qi _⟩,hd H ys p⟩
theorem lL {n:Nat} {f:Nat->V} (Pv:Nat->Hp->List V->Prop) (h0:Pv 0 (upd H1 D (.lst [])) []) (hD:∀i H ys,Pv i H ys->H D=some (.lst ys))
  (hs:∀i H ys,i<n->Pv i H ys->g (f i) σ0 H λσ2 H2=>wk σ0 σ2/\fz σ2 H2 λb H3=>if b=true then te σ2 H3 (bS Pv n D i ys) else ∃m',m'<n-i/\(m'=n-(i+1)/\i+1<=n/\Pv (i+1) H3 ys)) (hd:∀H ys,Pv n H ys->QD H) :
  ∃W:Nat->Nat->Hp->List V->Prop,(∃m,W 0 m (upd H1 D (.lst [])) [])/\∀i m H ys,W i m H ys->H D=some (.lst ys)/\(((Itf n f).stop i H/\QD H)\/((Itf n f).go i H/\∀x H',(Itf n f).yld i H x H'->g x σ0 H' λσ2 H2=>wk σ0 σ2/\fz σ2 H2 λb H3 =>
   if b=true then te σ2 H3 λv H4=>H4 D=some (.lst ys)/\ys.length<sizeLine/\∃m',m'<m/\W (i+1) m' (upd H4 D (.lst (ys++[v]))) (ys++[v]) else ∃m',m'<m/\W (i+1) m' H3 ys)):=by
 refine⟨λi m H ys=>m=n-i/\i<=n/\Pv i H ys,⟨n,by simp,QN _,h0⟩,?_⟩;rintro i m H ys ⟨rfl,hi,p⟩;refine⟨hD i H ys p,?_⟩;by_cases hlt:i<n
 ·refine .inr ⟨hlt,λx H' y=>?_⟩;obtain⟨e,y⟩:=y;subst e y;exact hs i _ ys hlt p
 have e:i=n:=by exact om0 hi hlt
 subst e;exact .inl ⟨rfl,hd H ys p⟩
end
section
variable {H:Hp} {Q:VK} {K:PySem.W.Frag}
theorem tE {z:Str} {lo hi:Option Int} (h:z.length<=sizeLine) (q:Q (.str (Txt.slice z lo hi)) H):uX (.str z) lo hi H Q:=⟨z,rfl,h,q⟩
variable {xs zs:List V} {a p l b:Addr}
theorem vL {lo hi:Option Int} (h:SqL K H a xs) (q:∀p,H p=none->Q (.ref p) (upd H p (.lst (ja xs lo hi)))):t8 K (.ref a) lo hi H Q:=⟨a,xs,rfl,h,q⟩
theorem vO {x:V} (h:SqL K H p xs) (fx:cq x=true) (fs:xs.all cq=true) (q:Q (.bl (inV x xs)) H):rIn K false x (.ref p) H Q:=⟨p,xs,rfl,.inl h,fx,fs,q⟩
theorem eL (h1:H l=some (.lst xs)) (h2:H b=some (.lst zs)) (hz:xs.length+zs.length<=sizeLine) (q:∀p,H p=none->Q (.ref p) (upd H p (.lst (xs++zs)))):u3 (.ref l) (.ref b) H Q:=⟨l,b,xs,zs,rfl,rfl,h1,h2,hz,q⟩
theorem jv {y:V} (h:H l=some (.lst xs)) (hz:xs.length<sizeLine) (q:Q .non (upd H l (.lst (xs++[y])))):nj (.ref l) [y] H Q:=⟨l,xs,y,rfl,rfl,h,hz,q⟩
theorem i_tyL (h:H p=some (.lst xs)):tyV K "list" (.ref p) H:=.inl ⟨rfl,xs,SqL.of h⟩
theorem qK {z:Str}:tyV K "str" (.str z) H:=rfl
end
theorem al {H:Hp} {o:HO} (hp:H p=none):ar H (upd H p o):=λb u e=>by rw[ao (ay e hp)];exact e
end L2
namespace L2
open PySem
section
variable {σ:St} {H:Hp} {D:Ends}
theorem s_seqT {t u:TS} (q:let D':Ends:={ D with nx:=u D };t D' σ H):rC t u D σ H:=q
theorem s_nameT {i:Nat} {v:V} {R:St->Hp->Prop} (q:let σ':St:=σ.set i (some v);R σ' H):ee i v σ H R:=q
end
variable {H:Hp}
theorem i_yes {σ:St} {R:Bool->Hp->Prop} (q:R true H):fz σ H R:=q
theorem i_dget {td ty:TE} {σ:St} {Q:VK} (q:td σ H λx H1=>ty σ H1 λy H2=>∃a v,x=.ref a/\cL H2 a y (some v)/\Q v H2):pf td ty σ H Q:=q
theorem i_un {r:V->Hp->VK->Prop} {ta:TE} {σ:St} {Q:VK} (q:ta σ H λx H1=>r x H1 Q):tUn r ta σ H Q:=q
theorem i_rU {g:Int->V} {i:Int} {Q:VK} (q:Q (g i) H):rU g (.int i) H Q:=⟨i,rfl,q⟩
end L2
namespace XE
open PySem
open Sem (wp)
structure XN (fs:List Addr) (e T:Addr) (oe:Obj) (h h':Heap):Prop where
 keep:∀b o,b≠e->b∉fs->h.get? b=some o->h'.get? b=some o
 slot:∀b o,b≠e->h.get? b=some o->∃sl,h'.get? b=some { o with slots:=sl }
 at_:h'.get? e=some (oe.mapFields (·.setIfInBounds 1 (.ref T)))
 new:h.get? T=none
section
variable {M:Model} {A:Around} {E:Value->Shared->Prop} {s:Shared}
structure Tr (e T:Addr) (h:Heap):Prop where
 ex:∃oe vs oT ts,h.get? e=some oe/\oe.data=.fields vs/\vs[1]?=some (.ref T)/\h.get? T=some oT/\oT.data=.fields ts/\ts[3]?=some .none
 ne:T≠e
structure XL (fs:List Addr) (e:Addr) (Ts:List Addr) (h h':Heap):Prop where
 keep:∀b o,b≠e->b∉Ts->b∉fs->h.get? b=some o->h'.get? b=some o
 slot:∀b o,b≠e->b∉Ts->h.get? b=some o->∃sl,h'.get? b=some { o with slots:=sl }
 at_:∀oe,h.get? e=some oe->∃oe',h'.get? e=some oe'/\oe'.cls=oe.cls/\oe'.dict=oe.dict
end
end XE
namespace XE
open PySem
structure XC (g:Heap) (C:Addr) (B new:String) (up top:List Value):Prop where
 obj:∃nm q N bs hd sn sub ab col dd a0 a1 a2 a3 a5,g.get? C=some (excClassObj nm q C N bs up hd sn sub ab col dd a0 a1 a2 a3 a5 new)
 tail:OwnTail g top up
theorem XC.keeps {g g':Heap} {C:Addr} {B new:String} {up top:List Value} (x:XC g C B new up top) (k:∀b o,g.get? b=some o->g'.get? b=some o):XC g' C B new up top:=by
 obtain⟨a1,a2,a3,a4,a5,a6,a7,a8,a9,a10,a11,a12,a13,a14,a15,e⟩:=x.obj;exact⟨⟨a1,a2,a3,a4,a5,a6,a7,a8,a9,a10,a11,a12,a13,a14,a15,k _ _ e⟩,x.tail.keeps k⟩
section
variable {P:Program} {w:World} {A:Around} {E:Value->Shared->Prop} {g:Heap} {gs:Array GenState} {dr:Drawn} {tk:Nat} {os:OsState} {C:Addr} {B new init:String} {up top:List Value}
end
end XE
set_option maxHeartbeats 1000000
namespace XE
open PySem PySem.W PySem.Calls PyProof.Rows Builtin Builtin.ObjectAttr
abbrev tP:List Value:=[.type "ValueError", .type "Exception", .type "BaseException", .type "object"]
structure XKl (K:Frag) (C NE:Addr):Prop where
 mr:((clsIn K C).any λcd=>cd.mro==.ref C::.ref NE::tP)=true
 ga:findIn K (.ref C) "__getattribute__" = some (some (.builtin "BaseException.__getattribute__"))
 gh:findIn K (.ref C) "__getattr__" = some none
 sb:subIn K (.ref C) (.type "BaseException")=some true
 hd:hasDictIn K C=true
 cl:findIn K (.ref C) "__class__" = some (some (.builtin "object.__class__"))
 cg:specialIn K (.builtin "object.__class__") "__get__" = some (some (.builtin "getset_descriptor.__get__"))
 ct:takesIn K (.builtin "object.__class__")=some true
 ob:mroIn K C (.type "object")=some true
 sa:findIn K (.ref C) "__setattr__" = some (some (.builtin "object.__setattr__"))
section
variable {P:Program} {w:World} {A:Around} {E:Value->Shared->Prop} {R:Result->Shared->Prop} {s:Shared} {K:Frag} {x C NE:Addr} {ox:Obj} {od:Option Obj} {name:Str}
end
end XE
namespace L2
open PySem PySem.Spec PyProof.Rows PySem.Calls
def XOk (e C:Addr) (d:Option Addr) (fresh:Bool) (h:Heap):Prop:=∃o vs,h.get? e=some o/\o.cls=.ref C/\o.dict=d/\o.data=.fields vs/\(fresh=true->∃t,vs=#[.ref t,.none,.none,.none,.bool false,.none])
abbrev XO (e C:Addr) (d:Option Addr) (fresh:Bool):HO:=.ext (XOk e C d fresh)
section
variable {P:Program} {w:World} {H H1 H2:Hp} {h h1 h2:Heap} {a e C L:Addr} {d:Option Addr} {b:Bool} {o u:HO} {fs Ts:List Addr}
theorem bc.there (x:bc P w H h a o):∃u,h.get? a=some u:=by
 induction o with
 | lst xs=>obtain⟨_,_,_,_,e⟩:=x;exact⟨_,e⟩
 | tup xs=>obtain⟨_,_,_,_,e,_⟩:=x;exact⟨_,e⟩
 | dK kvs=>obtain⟨_,_,_,_,o,_,_,e,_⟩:=x;exact⟨_,e⟩
 | dT kvs=>obtain⟨_,_,_,_,o,_,_,e,_⟩:=x;exact⟨_,e⟩
 | set S n=>obtain⟨o,_,_,_,e,_⟩:=x;exact⟨_,e⟩
 | ins C dx fs=>obtain⟨_,_,_,e,_⟩:=x;exact⟨_,e⟩
 | own y=>obtain⟨_,e⟩:=x;exact⟨_,e⟩
 | xd fs=>obtain⟨_,⟨_,_,_,e,_⟩,_⟩:=x;exact⟨_,e⟩
 | rng lo hi=>obtain⟨_,_,_,e⟩:=x;exact⟨_,e⟩
 | frz ob u ih=>obtain⟨e,_⟩:=x;exact⟨_,e⟩
 | tbl ps=>exact⟨_,(show h.get? a=some _ from x)⟩
 | met f y=>exact⟨_,(show h.get? a=some _ from x)⟩
 | ext φ=>obtain⟨_,e,_⟩:=x;exact e
end
noncomputable def CX1 (P:Program) (w:World):CXT:=λouter H s E ev s'=>∃(e C T:Addr) (d:Option Addr) (H':Hp),ev=.ref e/\s'.os=s.os/\AllBare s'.gens/\Un (frs outer) [] H H' s.heap s'.heap/\HOk P w H' s'.heap /\
 H' e=some (XO e C d false)/\s.heap.get? T=none/\H' T=none/\XE.Tr e T s'.heap/\E (.ref C) (some e) H'
section
variable {P:Program} {w:World} {K:PySem.W.Frag} {mg:Str->Option Value} {base:Heap} {N:List Str} {qual:Str} {scope:Scope} {f:Addr} {cd:Value} {A:Around} {outer:List Env} {s s1:Shared} {H H1:Hp} {E:XK} {pins:List (Addr × Obj)} {σ:St} {e C:Addr} {d:Option Addr}
end
section
variable {X:Cx} {pins:List (Addr × Obj)} {σ:St} {H:Hp} {s:Shared}
end
section
variable {X:Cx}
structure XMk (K:PySem.W.Frag) (C NE:Addr):Prop where
 xc:∀h:Heap,K.In h->XE.XC h C "ValueError" "ValueError.__new__" (.ref NE::XE.tP) XE.tP
 kp:PySem.W.keepIn K (.ref C)=true
 kl:XE.XKl K C NE
end
section
variable {X:Cx}
end
end L2
namespace XE
open PySem PySem.W PySem.Calls PyProof.Rows
section
variable {P:Program} {w:World} {A:Around} {E:Value->Shared->Prop} {g:Heap} {gs:Array GenState} {dr:Drawn} {tk:Nat} {os:OsState} {C:Addr} {B new init:String} {up top:List Value}
end
section
variable {P:Program} {w:World} {A:Around} {E:Value->Shared->Prop} {s:Shared} {K:Frag} {x C NE:Addr} {ox:Obj} {od:Option Obj}
end
end XE
namespace L2
open PySem PySem.Spec PyProof.Rows PySem.Calls
section
variable {X:Cx}
end
section
variable {P:Program} {w:World} {K:PySem.W.Frag} {mg:Str->Option Value} {base:Heap} {N:List Str} {qual:Str} {scope:Scope} {f:Addr} {cd:Value} {A:Around} {outer:List Env} {s:Shared} {H:Hp} {E:XK}
end
section
variable {X:Cx}
def XP (X:Cx) (pins:List (Addr × Obj)) (σ:St) (E:XK) (ev:Value) (s':Shared):Prop:=∃H1 s1,Inv X pins σ H1 s1/\CX1 X.prog X.w X.stack H1 s1 E ev s'
end
end L2
set_option maxHeartbeats 4000000
namespace L2
open PySem PySem.Spec PyProof.Rows
section
variable {X:Cx}
end
def cP (H:Hp) (c:Addr):Hp:=λb=>if b=c then none else H b
variable {c b f cell fa a T:Addr} {H:Hp}
theorem cA:cP H c c=none:=QC rfl
theorem bi (h:b≠c):cP H c b=H b:=Qz h
theorem oU {o:HO} (h:cP H c b=some o):b≠c/\H b=some o:=by
 by_cases e:b=c
 ·subst e;rw[cA]at h;cases h
 rw[bi e]at h;exact⟨e,h⟩
def dA (o:Obj):HO:=.frz o (.ext λ_=>True)
section
variable {P:Program} {w:World} {H H1:Hp} {h h1:Heap} {c:Addr} {o:Obj} {fs ex:List Addr}
theorem sH {H:Hp} (e:h.get? c=some o):bc P w H h c (dA o):=⟨e,trivial,⟨o,e⟩,λ_ _ _ _=>trivial⟩
theorem HOk.drop (x:HOk P w H h) (hc:H c=some (dA o)):HOk P w (cP H c) h:=λb u e=>by
 obtain⟨_,e⟩:=oU e;refine(x b u e).stay (λ_ _ _ q=>q) (λd q=>?_) λd xs q=>?_
 ·rw[bi];exact q;intro z;subst z;rw[hc]at q;cases q
 rw[bi];exact q;intro z;subst z;rw[hc]at q;cases q
theorem HOk.take (x:HOk P w H h) (hc:H c=none) (e:h.get? c=some o):HOk P w (upd H c (dA o)) h:=λb u q=>by
 by_cases hb:b=c
 ·subst hb;rw[ai]at q;cases q;exact sH e
 rw[ao hb]at q;refine(x b u q).stay (λ_ _ _ r=>r) (λd r=>?_) λd xs r=>?_
 ·rw[ao (ay r hc)];exact r
 rw[ao (ay r hc)];exact r
theorem Un.back (u:Un fs ex (cP H c) H1 h h1) (hc:H c=some (dA o)) (e:h.get? c=some o) (nf:c∉fs) (nx:c∉ex):Un fs ex H (upd H1 c (dA o)) h h1/\H1 c=none/\h1.get? c=some o:=by
 have h1c:=u.free c o e cA nx;have e1:=u.keep c o e cA nf nx;have ne:∀{b v},H b=some v->v≠dA o->b≠c:=λq n z=>by subst z;rw[hc]at q;cases q;exact n rfl
 have nn:∀{b},H b=none->b≠c:=λq z=>by subst z;rw[hc]at q;cases q
 refine⟨⟨λb ob q n hb hx=>?_,λb ob q n hb hx=>?_,λb ob q n hx=>?_,λb ob q hx=>u.there b ob q hx,λb xs q=>?_,λb ob v q=>?_,λb ps q=>?_⟩,h1c,e1⟩
 ·exact u.keep b ob q (by rw[bi (nn n)];exact n) hb hx
 ·exact u.slot b ob q (by rw[bi (nn n)];exact n) hb hx
 ·rw[ao (nn n)];exact u.free b ob q (by rw[bi (nn n)];exact n) hx
 ·have nb:=ne q (λz=>by cases z);rw[ao nb];exact u.tups b xs (by rw[bi nb];exact q)
 ·by_cases nb:b=c
  ·subst nb;rw[hc]at q;cases q;exact ai
  rw[ao nb];exact u.frzs b ob v (by rw[bi nb];exact q)
 have nb:=ne q (λz=>by cases z);rw[ao nb];exact u.tbls b ps (by rw[bi nb];exact q)
theorem Un.out (u:Un fs ex (upd H c (dA o)) H1 h h1) (k1:HOk P w H1 h1) (hc:H c=none) (e:h.get? c=some o) (nf:c∉fs):Un fs ex H (cP H1 c) h h1/\HOk P w (cP H1 c) h1/\H1 c=some (dA o):=by
 have h1c:=u.frzs c o _ ai;have e1:=(k1 c _ h1c).1;refine⟨⟨λb ob q n hb hx=>?_,λb ob q n hb hx=>?_,λb ob q n hx=>?_,λb ob q hx=>u.there b ob q hx,λb xs q=>?_,λb ob v q=>?_,λb ps q=>?_⟩,k1.drop h1c,h1c⟩
 ·by_cases nb:b=c
  ·subst nb;rw[e]at q;cases q;exact e1
  exact u.keep b ob q (by rw[ao nb];exact n) hb hx
 ·have nb:b≠c:=λz=>by subst z;exact nf hb
  exact u.slot b ob q (by rw[ao nb];exact n) hb hx
 ·by_cases nb:b=c
  ·subst nb;exact cA
  rw[bi nb];exact u.free b ob q (by rw[ao nb];exact n) hx
 ·have nb:=ay q hc;rw[bi nb];exact u.tups b xs (by rw[ao nb];exact q)
 ·have nb:=ay q hc;rw[bi nb];exact u.frzs b ob v (by rw[ao nb];exact q)
 have nb:=ay q hc;rw[bi nb];exact u.tbls b ps (by rw[ao nb];exact q)
end
structure Lm where
 qual:Str
 params:Arguments
 body:Expr
 scope:Scope
 pos:Pos
def gy (c:Addr) (qual:Str):HO:=.ext λh=>h.CodeRec (.ref c) qual
def gi (f:Addr) (l:Lm) (cl:List (Str × Addr)) (c:Addr):HO:=.ext λh=>∃pm ctv,h.get? f=some (PySem.W.kla_obj "<lambda>" l.qual l.params l.body l.scope cl pm c ctv)
variable {qual y z x n:Str} {h h1 base:Heap} {w:World} {P p q:Program}
theorem rb (r:h.CodeRec (.ref c) qual):bc P w H h c (gy c qual):=by
 obtain⟨d,oc,vs,t,e1,e2,r2⟩:=id r;cases e1;refine⟨r,⟨oc,e2⟩,λh1 h2 p k=>?_⟩;obtain⟨d,oc,vs,t,e1,e2,r2⟩:=p;cases e1;exact⟨_,oc,vs,t,rfl,k _ e2,r2⟩
variable {pm ctv u uy:Value} {cl:List (Str × Addr)}
theorem nu {l:Lm} (e:h.get? f=some (PySem.W.kla_obj "<lambda>" l.qual l.params l.body l.scope cl pm c ctv)):bc P w H h f (gi f l cl c) :=
 ⟨⟨pm,ctv,e⟩,⟨_,e⟩,λ_ _ ⟨pm,ctv,q⟩ k=>⟨pm,ctv,k _ q⟩⟩
def dM (l:Lm) (c:Addr):Array Value:=#[rawInt l.pos.line,rawInt l.pos.col,.ref c]
def eV (T:Addr) (l:Lm) (H:Hp):Prop:=H T=some (.tbl #[])\/∃c,H T=some (.tbl (dM l c))/\H c=some (gy c l.qual)
structure Made (T:Addr) (l:Lm) (cl:List (Str × Addr)) (H:Hp) (f c:Addr) (H':Hp):Prop where
 new:H f=none
 fn:H' f=some (gi f l cl c)
 code:H' c=some (gy c l.qual)
 tab:H' T=some (.tbl (dM l c))
 old:∀b o,H b=some o->b≠T->H' b=some o
def fc (base:Heap) (mg:Str->Option Value):Prop:=∃bm ob,mg "__builtins__" = some (.ref bm)/\bm≠builtinsNs/\bm≠mainGlobals/\base.get? bm=some ob/\ob.cls=.type "module" /\ ob.dict=some builtinsNs/\ob.data=.plain
def uO (T:Addr) (l:Lm) (cl:List (Str × Addr)):TE:=λ_ H Q=>eV T l H/\∀f c H',Made T l cl H f c H'->Q (.ref f) H'
section
variable {X:Cx}
theorem uh {params:Arguments} {body:Expr} {scope:Scope} {pos:Pos} {cc T:Addr} {cl:List (Str × Addr)} (hcode:X.env.code=.ref cc) (C:PySem.W.CodeHd X.base cc T) (B:fc X.base X.mg) (hcl:closureFor scope X.env=pure cl) (hdef:defaultsOf params X.env=([],[]):=by rfl) :
  PE X (.Lambda params body scope pos) (uO T ⟨X.env.qual ++ "<lambda>", params,body,scope,pos⟩ cl):=by
 intro pins s σ H Q I h;obtain⟨tb,q⟩:=h;refine PySem.W.kla_eval hdef ?_;have hg:s.heap.Ns mainGlobals X.mg:=I.mod.glob.keeps I.bk;have hT:∃ps,H T=some (.tbl ps):=by rcases tb with e|⟨c,e,_⟩ <;> exact⟨_,e⟩
 obtain⟨ps0,hps0⟩:=hT
 have bne:∀{b ob},X.base.get? b=some ob->b≠T:=λe z=>by
  subst z;rw[(I.bs _ _ e).2]at hps0;cases hps0
 have hgP:mainGlobals≠T:=by
  obtain⟨o,es,ep,e,_⟩:=I.mod.glob;exact bne e
 obtain⟨bm,ob,b1,b2,b3,b4,b5,b6,b7⟩:=B;have hB:s.heap.BuiltinsAt X.mg T:=⟨bm,ob,b1,b2,b3,bne b4,I.bk _ _ b4,b5,b6,b7⟩;have CH:=C.keeps I.bk;rcases tb with e|⟨c,e,hc⟩
 ·have hP:s.heap.get? T=some (PySem.W.tabObj #[]):=I.hok T _ e;refine PySem.W.kla_makeFunction (mg:=X.mg) hcl I.ok.glob hg hcode CH hP trivial rfl hgP hB λc' ctv h' tk hx hge hlt hrec htb=>?_;have hsz:s.heap.objs.size<=h'.objs.size:=Nat.le_of_lt (Nat.lt_of_le_of_lt hge hlt);have nT:T<s.heap.objs.size:=Qj hP;let f:Addr:=h'.objs.size;have Hf:H f=none:=I.hok.fresh hsz;have Hc:H c'=none:=I.hok.fresh hge;have nfc:c'≠f:=Qp hlt;have nTf:T≠f:=Qp (Qr nT hsz);have nTc:T≠c':=Qp (Qr nT hge);let H':Hp:=upd (upd (upd H T (.tbl (dM ⟨X.env.qual ++ "<lambda>", params,body,scope,pos⟩ c'))) c' (gy c' (X.env.qual ++ "<lambda>"))) f (gi f ⟨X.env.qual ++ "<lambda>", params,body,scope,pos⟩ cl c')
  have hH:∀b o,H b=some o->b≠T->H' b=some o:=λb o e n=>by
   show upd (upd (upd H T _) c' _) f _ b=_;rw[ao (ay e Hf),ao (ay e Hc),ao n];exact e
  have hHT:H' T=some (.tbl (dM ⟨X.env.qual ++ "<lambda>", params,body,scope,pos⟩ c')):=by
   show upd (upd (upd H T _) c' _) f _ T=_;rw[ao nTf,ao nTc,ai]
  have hHc:H' c'=some (gy c' (X.env.qual ++ "<lambda>")):=by
   show upd (upd (upd H T _) c' _) f _ c'=_;rw[ao nfc,ai]
  have kx:∀b o,b≠T->s.heap.get? b=some o->(h'.push (PySem.W.kla_obj "<lambda>" (X.env.qual ++ "<lambda>") params body scope cl ((X.mg "__name__").getD .none) c' ctv)).get? b=some o:=λb o n e=>Qb _ (hx b o n e);have htb':h'.get? T=some (PySem.W.tabObj (dM ⟨X.env.qual ++ "<lambda>", params,body,scope,pos⟩ c')):=by simpa[dM] using htb
  have ntb:∀{b u},H b=some u->(∀ps,u≠.tbl ps)->b≠T:=λr n z=>by
   subst z;rw[e]at r;cases r;exact n _ rfl
  have un:Un X.fs [] H H' s.heap (h'.push (PySem.W.kla_obj "<lambda>" (X.env.qual ++ "<lambda>") params body scope cl ((X.mg "__name__").getD .none) c' ctv)):=by
   have nn:∀{b},H b=none->b≠T:=λn z=>by subst z;rw[e]at n;cases n
   refine⟨λb o r n _ _=>kx b o (nn n) r,λb o r n _ _=>⟨o.slots,kx b o (nn n) r⟩,λb o r n _=>?_,λb o r _=>?_,λb xs r=>hH b _ r (ntb r λ_ z=>nomatch z),λb o v r=>hH b _ r (ntb r λ_ z=>nomatch z),λb ps r=>?_⟩
   ·have lb:b<s.heap.objs.size:=Qj r;show upd (upd (upd H T _) c' _) f _ b=none;rw[ao (Qp (Qr lb hsz)),ao (Qp (Qr lb hge)),ao (nn n)];exact n
   ·by_cases z:b=T
    ·subst z;exact⟨_,Qb _ htb'⟩
    exact⟨o,kx b o z r⟩
   by_cases z:b=T
   ·subst z;rw[e]at r;cases r;exact⟨dM ⟨X.env.qual ++ "<lambda>", params,body,scope,pos⟩ c',by rw[hHT,Array.empty_append]⟩
   exact⟨#[],by rw[hH b _ r z];simp⟩
  have hok:HOk X.prog X.w H' (h'.push (PySem.W.kla_obj "<lambda>" (X.env.qual ++ "<lambda>") params body scope cl ((X.mg "__name__").getD .none) c' ctv)):=λb u qb=>by
   have qb:upd (upd (upd H T (.tbl (dM ⟨X.env.qual ++ "<lambda>", params,body,scope,pos⟩ c'))) c' (gy c' (X.env.qual ++ "<lambda>"))) f (gi f ⟨X.env.qual ++ "<lambda>", params,body,scope,pos⟩ cl c') b=some u:=qb;by_cases z1:b=f
   ·subst z1;rw[ai]at qb;cases qb;exact nu (Ql _ rfl)
   rw[ao z1]at qb;by_cases z2:b=c'
   ·subst z2;rw[ai]at qb;cases qb;obtain⟨d,oc,vs,t,e1,e2,r2⟩:=hrec;exact rb ⟨d,oc,vs,t,e1,Qb _ e2,r2⟩
   rw[ao z2]at qb;by_cases z3:b=T
   ·subst z3;rw[ai]at qb;cases qb;exact Qb _ htb'
   rw[ao z3]at qb;refine(I.hok b u qb).stay (λd v hd r=>kx d v ?_ r) (λd r=>hH d _ r (ntb r λ_ z=>nomatch z)) λd xs r=>hH d _ r (ntb r λ_ z=>nomatch z);rcases hd with z|z
   ·rw[z];exact z3
   intro y;subst y;rw[e]at z;cases z
  refine⟨.ref f,H',I.un (t':=tk) un hok,rfl,q f c' H' ⟨Hf,ai,hHc,hHT,hH⟩⟩
 have hP:s.heap.get? T=some (PySem.W.tabObj (dM ⟨X.env.qual ++ "<lambda>", params,body,scope,pos⟩ c)):=I.hok T _ e;refine PySem.W.kla_makeFunctionHit (mg:=X.mg) (cv:=.ref c) hcl I.ok.glob hg hcode CH hP trivial (by simp[dM,codeAmong,rawInt]) hB λctv h' tk hk hsz=>?_;let f:Addr:=h'.objs.size;have Hf:H f=none:=I.hok.fresh hsz;refine⟨.ref f,_,I.laid (t':=tk) (a:=f) (o:=gi f ⟨X.env.qual ++ "<lambda>", params,body,scope,pos⟩ cl c) (λb o e=>Qb _ (hk b o e)) hsz (nu (Ql _ rfl)),rfl,q f c _ ⟨Hf,ai,?_,?_,λb o e _=>?_⟩⟩
 ·rw[ao (ay hc Hf)];exact hc
 ·rw[ao (ay e Hf)];exact e
 rw[ao (ay e Hf)];exact e
end
structure LmScope (x y:Str) (sc:Scope):Prop where
 kind:sc.kind=.function
 co:sc.isCoroutine=false
 gen:sc.isGenerator=false
 par:sc.names.lookup x=some .local
 fre:sc.names.lookup y=some .free
 ne:x≠y
 nocell:∀z∈sc.names,z.2≠.cell
 only:∀z,sc.names.lookup z=some .free->z=y
noncomputable def nH (P:Program) (w:World) (K:PySem.W.Frag) (mg:Str->Option Value) (base:Heap) (x y:Str) (l:Lm) (f c cell:Addr) (A:Around) (outer:List Env) (s:Shared) (H:Hp) (E:XK):Cx where
 prog:=P
 w:=w
 K:=K
 mg:=mg
 base:=base
 A:=A.deeper (PySem.W.envX l.qual l.scope s.heap.objs.size f (.ref c) [(y,cell)])
 N:=[x,y]
 s₀:=s
 H₀:=H
 env:=PySem.W.envX l.qual l.scope s.heap.objs.size f (.ref c) [(y,cell)]
 outer:=outer
 stack:=PySem.W.envX l.qual l.scope s.heap.objs.size f (.ref c) [(y,cell)]::outer
 ex:=[]
 calm:=true
 fn:=λ_=>false
 pn:=[]
 xe:=λe s'=>wpAny (model P w) (A.deeper (PySem.W.envX l.qual l.scope s.heap.objs.size f (.ref c) [(y,cell)])) (leaving (PySem.W.envX l.qual l.scope s.heap.objs.size f (.ref c) [(y,cell)]) e) (λ_ s''=>CX0 outer H s E e s'') (λe' s''=>CX0 outer H s E e' s'') s'
theorem lk1 (h:[(y,cell)].lookup z=some c):z=y/\c=cell:=by
 rw[QI]at h;by_cases e:(z==y)=true
 ·rw[e]at h;cases h;exact⟨eq_of_beq e,rfl⟩
 have e:(z==y)=false:=by simpa using e
 rw[e]at h;cases h
theorem ld:[(y,cell)].lookup y=some cell:=by
 rw[QI,beq_self_eq_true]
variable {s s₁:Shared} {mg mb:Str->Option Value} {K:PySem.W.Frag}
theorem su {l:Lm} {f c:Addr} {A:Around} {outer:List Env} {E:XK} {vx vy:V} {tk:Nat}
  (S:LmScope x y l.scope) (hd:A.handled=none) (e0:Env0 P w K mg base A outer s H) (rx:aO vx u) (ry:aO vy uy) (hc:s.heap.IsCell cell (some uy)) (hH:H cell=none)
  (hns:h1.Ns s.heap.objs.size (λz=>[(x,u)].reverse.lookup z)) (hk:∀b o,s.heap.get? b=some o->h1.get? b=some o) :
  Inv (nH P w K mg base x y l f c cell A outer s H E) [] [some vx,some vy] H { s with heap:=h1,toks:=tk }:=by
 have noA:∀b:Addr,b∉(nH P w K mg base x y l f c cell A outer s H E).ex:=λb z=>absurd (show b∈([]:List Addr) from z) (by simp);have hc1:h1.IsCell cell (some uy):=by obtain⟨o,e1,e2⟩:=hc;exact⟨o,hk _ _ e1,e2⟩
 refine⟨⟨e0.mod,S.kind,rfl,rfl,Qi _,λy' z c h1 h2=>(lk1 h1).1.trans (lk1 h2).1.symm,λz hz=>?_,(λy c h _=>nomatch h),λ_=>hd,Around.frames_deeper e0.frames,.inr ⟨rfl,rfl⟩,λb z=>absurd z (noA b),e0.bs,e0.bsz,λb _ _=>noA b,λb z=>absurd z (noA b),e0.funs,e0.frf⟩,
  rfl,e0.bare,Un.kept hk,⟨_,hns,λi z v h1 h2 h3=>?_⟩,λz c h=>?_,e0.hok.fresh (Qi _),λz c h=>?_,λp hp=>absurd (show p∈([]:List (Addr × Obj)) from hp) (by simp),e0.hok.kept hk,rfl⟩
 ·have hz:l.scope.names.lookup z=some .cell\/l.scope.names.lookup z=some .free:=hz;rcases hz with hz|hz
  ·exact absurd rfl (S.nocell _ (PySem.mem_of_lookup hz))
  rw[S.only z hz];exact⟨cell,ld⟩
 ·match i with
  | 0 =>
   cases h1;cases h2;refine⟨u,rx,.inl ⟨S.par,?_⟩⟩;show [(x,u)].reverse.lookup x=some u;simp[List.lookup]
  | 1 =>
   cases h1;cases h2;exact⟨uy,ry,.inr ⟨.inr S.fre,cell,ld,hc1⟩⟩
  | i+2 =>
   exact absurd h1 (by show ([x,y]:List Str)[i+2]?≠some z;simp)
 ·rw[(lk1 h).2];exact⟨_,hc1⟩
 rw[(lk1 h).2];exact hH
theorem sm {l:Lm} {A:Around} {outer:List Env} {Q:VK} {E:XK} {vx vy:V} {k:Nat} {t:TE} {args:Args}
  (S:LmScope x y l.scope) (hr:Room (k+1) A) (e0:Env0 P w K mg base A outer s H) (rx:aO vx u) (ry:aO vy uy) (hc:s.heap.IsCell cell (some uy)) (hH:H cell=none)
  (hf:s.heap.get? f=some (PySem.W.kla_obj "<lambda>" l.qual l.params l.body l.scope [(y,cell)] pm c ctv)) (hcd:s.heap.CodeRec (.ref c) l.qual) (hb:bindArgs (PySem.W.kla_fn "<lambda>" l.qual l.params l.body l.scope [(y,cell)] pm (.ref c) ctv) args=pure [(x,u)])
  (body:Room k (A.deeper (PySem.W.envX l.qual l.scope s.heap.objs.size f (.ref c) [(y,cell)]))->PE (nH P w K mg base x y l f c cell A outer s H E) l.body t) (q:t [some vx,some vy] H Q):codeAny (model P w) A (.call (.ref f) args) (CR CX0 outer P w H s Q E) s:=by
 have lim:s.heap.NoLimit:=e0.mod.nolimit.keeps λb o e=>(e0.bs b o e).1;refine PySem.W.kla_callFunE hr.depth hf rfl S.co S.gen rfl hcd ?_;rw[hb];refine Qg (wpAny_newFunctionEnv S.nocell (λz hz=>by rw[QJ.mp hz];exact S.par) (λh1 hns hsb=>?_) S.kind);have hk1:∀b o,s.heap.get? b=some o->h1.get? b=some o:=λb o e=>hsb.extBut b o (Qp (Qj e)) (Qb _ e);refine⟨lim.keeps hk1,?_⟩;show codeAny _ _ (.expr l.body (PySem.W.envX l.qual l.scope s.heap.objs.size f (.ref c) [(y,cell)])) _ _;have I:=su (f:=f) (c:=c) (E:=E) (tk:=s.toks+[(x,u)].length) S hr.hd e0 rx ry hc hH hns hk1;refine PySem.W.kla_codeExpr (Q4 (body (hr.deeper _) [] _ _ H Q I q) (λv s' hs=>?_) λe s' hs=>hs);obtain⟨v',H',J,rv,qv⟩:=hs;exact⟨v',H',J.os,J.bare,J.base,J.hok,rv,qv⟩
def Calls (P:Program) (w:World) (K:PySem.W.Frag) (mg:Str->Option Value) (base:Heap) (k:Nat) (f:Addr) (r:V->Hp->VK->Prop):Prop :=
 ∀(X:Cx),X.prog=P->X.w=w->X.K=K->X.mg=mg->X.base=base->iX CX0 X E0->Room k X.A->∀pins s σ H vx u (Q:VK),Inv X pins σ H s->aO vx u->r vx H Q->wpAny (model X.prog X.w) X.A (call (.ref f) [u]) (EP X pins σ Q) X.xe s
def pi (P:Program) (w:World) (K:PySem.W.Frag) (mg:Str->Option Value) (base:Heap) (k i:Nat) (te:TE):TE:=λσ H Q=>∃f l cl c r,σ[i]?=some (some (.ref f))/\Calls P w K mg base k f r/\H f=some (gi f l cl c)/\te σ H λv H1=>H1 f=some (gi f l cl c)/\r v H1 Q
variable {pins:List (Addr × Obj)} {X:Cx}
theorem lB {σ:St} {l:Lm} (I:Inv X pins σ H s) (h:H f=some (gi f l cl c)):PySem.W.FnAt f s.heap:=by
 obtain⟨pm,ctv,e⟩:=(I.hok f _ h).1;exact⟨_,_,_,_,e⟩
theorem pW {k i:Nat} {e:Expr} {te:TE} {p pos:Pos} (hr:Room k X.A) (hx:iX CX0 X E0) (hn:PE X (.Name n p) (dE i)) (he:PE X e te) (hs:starEach [e] X.env=[(false,eval e X.env)]:=by rfl) (hs0:starEach ([]:List Expr) X.env=[]:=by rfl) (hpl:(backTo pos (starEach [] X.env)).any (·.1)=false:=by rfl) :
  PE X (.Call (.Name n p) [e] [] pos) (pi X.prog X.w X.K X.mg X.base k i te):=by
 intro pins s σ H Q I h;obtain⟨f,l,cl,c,r,hi,C,hf,h⟩:=h;refine wpAny_Call_Name_kw (thn (hn pins s σ H (λv H1=>v=.ref f/\H1=H) I ⟨_,hi,rfl,rfl⟩) λu s1 ⟨v,H1,I1,ru,ev,eh⟩=>?_);subst ev eh;obtain rfl:u=Value.ref f:=ru;refine PySem.W.callWith_F (lB I1 hf) ?_ (by rw[hs,hs0]) hpl;rw[hs];refine xh (thn (he pins s1 σ H1 _ I1 h) λiv s2 ⟨v,H2,I2,rv,hf2,q⟩=>?_);refine Calls.spliced_nil ⟨lB I2 hf2,?_⟩;exact C X rfl rfl rfl rfl rfl hx hr pins s2 σ H2 v iv Q I2 rv q
theorem Inv.cellAt {σ:St} {i:Nat} {vy:V} (I:Inv X pins σ H s) (hN:X.N[i]?=some y) (hi:σ[i]?=some (some vy)) (hk:X.env.kindOf y=some .cell) (hv:Vis X.env.scope y) (hl:X.env.cells.lookup y=some cell) :
  ∃o uy,s.heap.get? cell=some o/\o.data=.cell (some uy)/\aO vy uy/\H cell=none:=by
 obtain⟨m,_,loc⟩:=I.loc;obtain⟨u,ru,lk⟩:=loc i y vy hN hi hv;rcases lk with⟨k,_⟩|⟨_,c,e,o,e1,e2⟩
 ·rw[hk]at k;cases k
 rw[hl]at e;cases e;exact⟨o,u,e1,e2,ru,I.freeC y cell hl⟩
theorem Inv.cellOut {σ:St} (I:Inv X pins σ H s) (hf:X.fn y=true) (hl:X.env.cells.lookup y=some cell):cell∉frs X.stack:=λz=>by
 have ab:=I.ok.cab y cell hf hl
 have no:cell∉frs X.outer:=λz=>by
  obtain⟨_,o,ho,_⟩:=I.ok.funs.mem z;exact absurd (Qj ho) (Nat.not_lt.mpr ab)
 rcases I.ok.stk with e|⟨e,fr⟩
 ·rw[e]at z;exact no z
 rw[e]at z;unfold frs at z;rw[Q7,fr]at z;rcases QE.mp z with z|z
 ·exact I.cne y cell hl z
 exact no z
def tY (sp:Sp) (i:Nat) (cell:Addr) (t:TA):TE:=λσ H Q=>t σ H λvs H1=>∃vy,σ[i]?=some (some vy)/\∀o uy,o.data=.cell (some uy)->aO vy uy->H1 cell=none->sp vs (upd H1 cell (dA o)) (λv H2=>Q v (cP H2 cell)) E0
variable {ps loose:List Str}
theorem uk {k i:Nat} {sp:Sp} {e:Expr} {es:List Expr} {t:TA} {p pos:Pos} (F:Fn X.prog X.w X.K X.mg X.base x ps k sp) (hr:Room k X.A) (hg:Gl X x) (ha:PA X (e::es) t)
  (hN:X.N[i]?=some y) (hky:X.env.kindOf y=some .cell) (hv:Vis X.env.scope y) (hl:X.env.cells.lookup y=some cell) (hfn:X.fn y=true)
  (hdb:(x==("__debug__" : Str))=false:=by decide) (he:starEach (e::es) X.env=(false,eval e X.env)::starEach es X.env:=by rfl) (hpl:(backTo pos (starEach es X.env)).any (·.1)=false:=by rfl) :
  PE X (.Call (.Name x p) (e::es) [] pos) (tY sp i cell t):=by
 obtain⟨f,fd,G,hm,hk,hb⟩:=F.ex;intro pins s σ H Q I h;refine wpAny_Call_Name_kw (j9 I hg hm ?_ hdb);refine PySem.W.callWith_K (h₀:=X.base) I.ok.mod.kin hk (thn (ha pos pins s σ H _ I h) λus s1 ⟨vs,H1,I1,r,q⟩=>⟨I1.kIn,?_⟩) he hpl;obtain⟨vy,hi,q⟩:=q;obtain⟨o,uy,e1,e2,ry,hn⟩:=I1.cellAt hN hi hky hv hl;have nf:=I1.cellOut hfn hl;have ab:=I1.ok.cab y cell hfn hl;have e0:=I1.env0
 have e0':Env0 X.prog X.w X.K X.mg X.base X.A X.stack s1 (upd H1 cell (dA o)):=⟨e0.frames,e0.mod,λb ob e=>⟨(e0.bs b ob e).1,by
  rw[ao]
  ·exact(e0.bs b ob e).2
  ·intro z;have:=Qj (I1.ok.bs b ob e).1;rw[z]at this
   exact absurd this (Nat.not_lt.mpr ab)⟩,e0.bsz,e0.funs,λb hb=>by
  rw[ao]
  ·exact e0.frf b hb
  intro z;rw[z]at hb;exact nf hb,e0.hok.take hn e1,e0.bare⟩
 have hl2:us.length=ps.length:=by rw[<-r.length];exact G.len _ _ _ _ (q o uy e2 ry hn)
 refine wpAny_call (codeAny_mono (G.run X.A X.stack s1 _ ⟨us,[]⟩ us vs _ E0 hr e0' (by have:=hb s1 us I1.kIn (by rw[List.append_nil];exact hl2);rwa [List.append_nil]at this) r (q o uy e2 ry hn)) λrr s' hq=>?_)
 cases rr with
 | error e=>exact False.elim hq
 | ok fl =>
 cases fl with
 | ret u =>
  obtain⟨v,H',os,bare,un,hok,rv,qv⟩:=hq;obtain⟨un',hok',_⟩:=un.out hok hn e1 nf;exact I1.after ⟨v,_,os,bare,un',hok',rv,qv⟩
 | next=>exact False.elim hq
 | brk=>exact False.elim hq
 | cont=>exact False.elim hq
structure FunC (K:PySem.W.Frag) (x qual:Str) (st:Stmt) (f:Addr) (fd:FuncData) (c:Addr):Prop where
 ex:∃oc od kV doc pm an ct osl,fd=PySem.W.fnOf x qual (cS st) (bT st) (am st) .none kV doc pm an (.ref c) ct/\K.lookup f=some ⟨oc,od,.func (PySem.W.fnOf x qual (cS st) (bT st) (am st) .none kV doc pm an (.ref c) ct),osl⟩/\PySem.W.codeIn K (.ref c) qual=true
section
variable {P:Program} {w:World} {K:PySem.W.Frag} {mg:Str->Option Value} {base:Heap}
theorem FunC.ok {x qual:Str} {st:Stmt} {f c:Addr} {fd:FuncData} {N ps:List Str} {k:Nat} {sp:Sp} (F:FunC K x qual st f fd c) (S:FnScope N ps (am st)) (len:∀vs H Q E,sp vs H Q E->vs.length=ps.length)
  (hbody:∀(A:Around) (outer:List Env) (s:Shared) (H:Hp) (vs:List V) (Q:VK) (E:XK),Room k (A.deeper (envOfC qual (am st) s.heap.objs.size f (.ref c)))->sp vs H Q E ->
   ∃t,PSs (cxOf CX0 P w K mg base N qual (am st) f (.ref c) A outer s H E).nox (bT st) t/\t { nx:=λ_ H'=>Q .non H',rt:=Q } (start N vs) H):FnOk P w K mg base CX0 (k+1) f fd ps sp:=by
 obtain⟨oc,od,kV,doc,pm,an,ct,osl,rfl,lk,hcd⟩:=F.ex;refine tI lk hcd S len λA outer s H vs Q E hr hsp=>?_;obtain⟨t,h,q⟩:=hbody A outer s H vs Q E hr hsp;exact⟨t,h.nox,q⟩
end
structure OnlyT (tabs:List (Addr × Addr)) (H:Hp):Prop where
 tab:∀q∈tabs,H q.2=some (.tbl #[])
 other:∀b,b∉tabs.map (·.2)->H b=none\/∃o xs,H b=some (.frz o (.lst xs))
theorem oG {CX:CXT} {k:Nat} {fd:FuncData} {sp:Sp} {vs:List Value} {ns:List Int} {tabs:List (Addr × Addr)}
  (KX:K.In s₁.heap) (hns:s₁.heap.Ns mainGlobals mg) (hb:s₁.heap.Ns builtinsNs mb) (hbb:∀x:Str,x ≠ "__name__" -> mb x=bootBuiltins x) (hlim:s₁.heap.NoLimit) (hg:s₁.gens=#[])
  (hbm:fc s₁.heap mg) (hT:PySem.W.TabsAt tabs s₁.heap) (hTK:∀q∈tabs,K.lookup q.2=none)
  (ha:s₁.heap.get? a=some { cls:=.type "list", data:=.seq vs.toArray }) (hi:IntsAre vs ns) (hl:ns.length<=sizeLine) (hr:Room k callerA)
  (F:∀base:Heap,K.In base->base.Ns mainGlobals mg->fc base mg->FnOk P w K mg base CX k fa fd [x] sp) (hbind:∀(s:Shared) (u:Value),BindsTo s fd ⟨[u],[]⟩ [(x,u)])
  (hsp:∀H:Hp,OnlyT tabs H->SqL K H a (ns.map V.int)->sp [.ref a] H (λv _=>v=.bl true) λ_ _ _=>False)
  (hCX:∀H e s',CX [] H s₁ (λ_ _ _=>False) e s'->False) :
  codeAny (model P w) callerA (.call (.ref fa) ⟨[.ref a],[]⟩) (λr s'=>r=.ok (.ret (.bool true))/\OldK s₁.heap s'.heap/\s'.os=s₁.os/\AllBare s'.gens) s₁:=by
 have rv:=jf hi;have lenV:=hi.length
 have naT:a∉tabs.map (·.2):=λq=>by
  obtain⟨r,hr,e⟩:=Qu.mp q;have e2:=(hT r hr).2;rw[e,ha]at e2;cases e2
 have core:∀H:Hp,OnlyT tabs H->SqL K H a (ns.map V.int)->HOk P w H s₁.heap->(∀b,H b≠none->b=a\/b∈tabs.map (·.2))->(H a≠none->K.lookup a=none) ->
   codeAny (model P w) callerA (.call (.ref fa) ⟨[.ref a],[]⟩) (λr s'=>r=.ok (.ret (.bool true))/\OldK s₁.heap s'.heap/\s'.os=s₁.os/\AllBare s'.gens) s₁:=by
  intro H hO hS hok hA hK;have base_of:∀{b:Addr} {o:Obj},s₁.heap.get? b=some o->H b=none->(i_ s₁.heap H).get? b=some o:=λe n=>qO e n
  have noA:∀{b:Addr} {o:Obj},s₁.heap.get? b=some o->(∀ps n,o.data≠.seq ps n)->(∀ps,o.data≠.fields ps)->H b=none:=λ{b o} e d1 d2=>by
   cases q:H b with
   | none=>rfl
   | some u =>
   rcases hA b (by rw[q];simp) with e'|e'
   ·subst e';rw[ha]at e;cases e;exact absurd rfl (d1 _ _)
   obtain⟨r,hr,er⟩:=Qu.mp e';have e2:=(hT r hr).2;rw[er,e]at e2;cases e2;exact absurd rfl (d2 _)
  have nsK:∀{b:Addr} {m:Str->Option Value},s₁.heap.Ns b m->(i_ s₁.heap H).Ns b m:=λ{b m} ⟨o,es,ep,e,d,r⟩=>⟨o,es,ep,base_of e (noA e (λ_ _ z=>by rw[d]at z;cases z) (λ_ z=>by rw[d]at z;cases z)),d,r⟩
  have hKb:K.In (i_ s₁.heap H):=λb o e=>base_of (KX b o e) (by
   cases q:H b with
   | none=>rfl
   | some u =>
   rcases hA b (by rw[q];simp) with e'|e'
   ·subst e';rw[hK (by rw[q];simp)]at e;cases e
   obtain⟨r,hr,er⟩:=Qu.mp e';have e2:=hTK r hr;rw[er,e]at e2
   cases e2)
  have hM:Mod K mg (i_ s₁.heap H):=⟨hKb,nsK hns,⟨mb,nsK hb,hbb⟩,let ⟨mc,h1,h2⟩:=hlim;⟨mc,nsK h1,h2⟩⟩
  have hB:fc (i_ s₁.heap H) mg:=by
   obtain⟨bm,ob,b1,b2,b3,b4,b5,b6,b7⟩:=hbm;exact⟨bm,ob,b1,b2,b3,base_of b4 (noA b4 (λ_ _ z=>by rw[b7]at z;cases z) (λ_ z=>by rw[b7]at z;cases z)),b5,b6,b7⟩
  have e0:Env0 P w K mg (i_ s₁.heap H) callerA [] s₁ H:=⟨rfl,hM,λb o e=>sk e,Nat.le_of_eq (oP _ _),trivial,λb hb=>absurd (show b∈([]:List Addr) from hb) (by simp),hok,.of_eq hg⟩;refine codeAny_mono ((F _ hKb (nsK hns) hB).run callerA [] s₁ H ⟨[.ref a],[]⟩ [.ref a] [.ref a] _ _ hr e0 (hbind s₁ (.ref a)) (.cons rfl .nil) (hsp H hO hS)) λr s' h=>?_
  cases r with
  | error e=>exact(hCX H e s' h).elim
  | ok fl =>
  cases fl with
  | next=>exact False.elim h
  | brk=>exact False.elim h
  | cont=>exact False.elim h
  | ret u =>
  obtain⟨v,H',os,bare,un,hok',r',q⟩:=h;have q':v=.bl true:=q;subst q';obtain rfl:u=Value.bool true:=r';refine⟨rfl,⟨λb o e=>?_,λb o e=>un.there b o e (by simp)⟩,os,bare⟩
  cases q:H b with
  | none=>exact .inl (un.keep b o e q (by intro z;exact absurd (show b∈([]:List Addr) from z) (by simp)) (by simp))
  | some u =>
  by_cases hb:b∈tabs.map (·.2)
  ·obtain⟨r,hr,er⟩:=Qu.mp hb;have t1:=hO.tab r hr;have e2:=(hT r hr).2;have ict:=((hT r hr).1.tab (hT r hr).2).isCodeTable;rw[er]at t1 e2 ict;rw[e]at e2;cases e2;obtain⟨more,t2⟩:=un.tbls b _ t1;have t3:s'.heap.get? b=some { cls:=.none,data:=.fields (#[]++more) }:=hok' b _ t2;exact .inr (.inl ⟨ict,rfl,#[],more,rfl,t3⟩)
  rcases hO.other b hb with z|⟨ob,xs,z⟩
  ·rw[q]at z;cases z
  have z2:=un.frzs b ob _ z;obtain⟨e1,_⟩:=hok b _ z;obtain⟨e2,_⟩:=hok' b _ z2;rw[e]at e1;cases e1;exact .inl e2
 let HT:Hp:=λb=>if b∈tabs.map (·.2) then some (.tbl #[]) else none
 have htab:∀b,b∈tabs.map (·.2)->s₁.heap.get? b=some (PySem.W.tabObj #[]):=λb hb=>by
  obtain⟨r,hr,er⟩:=Qu.mp hb;rw[<-er];exact(hT r hr).2
 cases hk:K.lookup a with
 | some o =>
  have e:=KX a o hk;rw[ha]at e;cases e;refine core HT ⟨λq hq=>QC (Qu.mpr ⟨q,hq,rfl⟩),λb hb=>.inl (Qz hb)⟩ (.inr ⟨_,vs.toArray,_,hk,rfl,rfl,rfl,by rw[Qf,lenV];exact hl,by simpa using rv⟩) (λb u z=>?_) (λb z=>?_) λz=>absurd (Qz naT) z
  ·by_cases hb:b∈tabs.map (·.2)
   ·have z':=(QC hb).symm.trans z;cases z';exact htab b hb
   have z':=(Qz hb).symm.trans z;cases z'
  by_cases hb:b∈tabs.map (·.2)
  ·exact .inr hb
  exact absurd (Qz hb) z
 | none =>
 let HA:Hp:=λb=>if b=a then some (.frz { cls:=.type "list", data:=.seq vs.toArray } (.lst (ns.map V.int))) else HT b;have hA1:HA a=some (.frz { cls:=.type "list", data:=.seq vs.toArray } (.lst (ns.map V.int))):=QC rfl;have hA2:∀b,b≠a->HA b=HT b:=λb h=>Qz h;refine core HA ⟨λq hq=>?_,λb hb=>?_⟩ (.inl (.inr ⟨{ cls:=.type "list", data:=.seq vs.toArray },hA1⟩)) (λb u z=>?_) (λb z=>?_) λ_=>hk
 ·rw[hA2 _ λz=>naT (Qu.mpr ⟨q,hq,z⟩)];exact QC (Qu.mpr ⟨q,hq,rfl⟩)
 ·by_cases hba:b=a
  ·subst hba;exact .inr ⟨_,_,hA1⟩
  rw[hA2 b hba];exact .inl (Qz hb)
 ·by_cases hba:b=a
  ·subst hba;rw[hA1]at z;cases z;exact⟨ha,by rw[Qd];exact hl,vs,_,rv,ha⟩
  rw[hA2 b hba]at z;by_cases hb:b∈tabs.map (·.2)
  ·have z':=(QC hb).symm.trans z;cases z';exact htab b hb
  have z':=(Qz hb).symm.trans z;cases z'
 by_cases hba:b=a
 ·exact .inl hba
 rw[hA2 b hba]at z;by_cases hb:b∈tabs.map (·.2)
 ·exact .inr hb
 exact absurd (Qz hb) z
theorem rg {mean:ExcName->Option Value} (T:Top p loose mean mg mb h):fc h mg:=by
 obtain⟨bm,ob,b1,b2,b3,b4,b5,b6⟩:=T.bmain;refine⟨bm,ob,b1,b2,λq=>?_,b3,b4,b5,b6⟩;obtain⟨o,es,ep,e,hd,_⟩:=T.g;rw[q,e]at b3;cases b3;rw[hd]at b6;cases b6
variable {l:PySem.W.OpenLaw}
theorem o7 {n k:Nat} {XP:(Str->Option Value)->Heap->Prop} {YP:World->Heap->Prop} {d:DefRec} {K:Params->PySem.W.Frag} {CX:World->CXT} {sp:World->Sp} (tabs:World->List (Addr × Addr))
  (hn:l.most=some n) (hn2:n<=sizeLine) (hdf:d.params.defaults=[]) (hr:Room k callerA)
  (hY:∀(w:World) (h:Heap),YP w h->(K w.params).In h) (hY2:∀(w:World) (h:Heap),YP w h->PySem.W.TabsAt (tabs w) h) (hTK:∀(w:World),∀q∈tabs w,(K w.params).lookup q.2=none)
  (F:∀(w:World) (mg:Str->Option Value) (fa:Addr) (h:Heap),(K w.params).In h->h.Ns mainGlobals mg->mg d.name=some (.ref fa) ->
   ∃fd:FuncData,(∀(s:Shared) (u:Value),BindsTo s fd ⟨[u],[]⟩ [(x,u)]) /\
    ∀base:Heap,(K w.params).In base->base.Ns mainGlobals mg->fc base mg->FnOk l.prog w (K w.params) mg base (CX w) k fa fd [x] (sp w))
  (hsp:∀(w:World) (H:Hp) (a:Addr) (ns:List Int),ns.length<=n->OnlyT (tabs w) H->SqL (K w.params) H a (ns.map V.int)->sp w [.ref a] H (λv _=>v=.bl true) λ_ _ _=>False)
  (hCX:∀(w:World) (H:Hp) (s:Shared) (e:Value) (s':Shared),CX w [] H s (λ_ _ _=>False) e s'->False) :
  PySem.W.WalkO q loose XP YP l.row.toRowW d [] (λf vs=>PySem.call f vs):=by
 refine Att.lO hn hdf λw s₀ s₁ mg mb fa o pm cd doc a vs ns G Y ho hd hcd hmg hobj hints hlen hg=>?_;have KX:=hY w _ Y;obtain⟨fd,hb,hF⟩:=F w mg fa _ KX G.T.g hmg;exact oG KX G.T.g G.T.b G.T.builtins G.T.nolimit hg (rg G.T) (hY2 w _ Y) (hTK w) hobj hints (QK hlen hn2) hr hF hb (λH hO hS=>hsp w H a ns hlen hO hS) λH e s'=>hCX w H s₁ e s'
def mz (K:PySem.W.Frag) (ts:List Addr):List (Addr × Addr):=ts.flatMap λT=>(K.filter λp=>PySem.W.codeHdIn K p.1 T).map λp=>(p.1,T)
def fL (K:PySem.W.Frag) (ts:List Addr):Bool:=ts.all λT=>(K.any λp=>PySem.W.codeHdIn K p.1 T)&&(K.lookup T).isNone
variable {ts as:List Addr}
theorem iD {q:Addr × Addr} (h:q∈mz K ts):q.2∈ts/\PySem.W.codeHdIn K q.1 q.2=true:=by
 obtain⟨T,hT,h⟩:=List.mem_flatMap.mp h;obtain⟨p,hp,rfl⟩:=Qu.mp h;exact⟨hT,(List.mem_filter.mp hp).2⟩
theorem my (ok:fL K ts=true) (hT:T∈ts):∃c,(c,T)∈mz K ts:=by
 have h:=QU.mp ok T hT;rw[xj]at h;obtain⟨p,hp,e⟩:=List.any_eq_true.mp h.1;exact⟨p.1,List.mem_flatMap.mpr ⟨T,hT,Qu.mpr ⟨p,List.mem_filter.mpr ⟨hp,e⟩,rfl⟩⟩⟩
theorem mx (ok:fL K ts=true) (hT:T∈ts):K.lookup T=none:=by
 have h:=QU.mp ok T hT;rw[xj]at h;exact Option.isNone_iff_eq_none.mp h.2
theorem o8 {n k:Nat} {XP:(Str->Option Value)->Heap->Prop} {d:DefRec} {K:Params->PySem.W.Frag} {e:∀P,as=(K P).map (·.1)} {CX:World->CXT} {sp:World->Sp}
  (hn:l.most=some n) (hn2:n<=sizeLine) (hdf:d.params.defaults=[]) (hr:Room k callerA) (ok:∀w:World,fL (K w.params) ts=true)
  (F:∀(w:World) (mg:Str->Option Value) (fa:Addr) (h:Heap),(K w.params).In h->h.Ns mainGlobals mg->mg d.name=some (.ref fa) ->
   ∃fd:FuncData,(∀(s:Shared) (u:Value),BindsTo s fd ⟨[u],[]⟩ [(x,u)]) /\
    ∀base:Heap,(K w.params).In base->base.Ns mainGlobals mg->fc base mg->FnOk l.prog w (K w.params) mg base (CX w) k fa fd [x] (sp w))
  (hsp:∀(w:World) (H:Hp) (a:Addr) (ns:List Int),ns.length<=n->(∀T∈ts,H T=some (.tbl #[]))->SqL (K w.params) H a (ns.map V.int)->sp w [.ref a] H (λv _=>v=.bl true) λ_ _ _=>False)
  (hCX:∀(w:World) (H:Hp) (s:Shared) (e:Value) (s':Shared),CX w [] H s (λ_ _ _=>False) e s'->False) :
  PySem.W.WalkO q loose XP (PySem.W.kmHook K as e ts).says l.row.toRowW d [] (λf vs=>PySem.call f vs):=by
 refine o7 (λw=>mz (K w.params) ts) hn hn2 hdf hr (λw h Y=>PySem.W.km_in_of Y) (λw h Y q hq=>?_) (λw q hq=>mx (ok w) (iD hq).1) F (λw H a ns h1 hO hS=>hsp w H a ns h1 (λT hT=>?_) hS) hCX
 ·obtain⟨h1,h2⟩:=iD hq;exact⟨PySem.W.codeHd_of_K (PySem.W.km_in_of Y) h2,PySem.W.km_tabs_of Y _ h1⟩
 obtain⟨c,hc⟩:=my (ok w) hT;exact hO.tab _ hc
def s0 (f:Addr) (l:Lm) (y:Str) (cell c:Addr) (t:TE):V->Hp->VK->Prop:=λvx H Q=>∃(o:Obj) (uy:Value) (vy:V),H f=some (gi f l [(y,cell)] c)/\H c=some (gy c l.qual)/\H cell=some (dA o)/\o.data=.cell (some uy)/\aO vy uy /\
 t [some vx,some vy] (cP H cell) λv H'=>H' cell=none->Q v (upd H' cell (dA o))
theorem mK {l:Lm} {k:Nat} {t:TE} (S:LmScope x y l.scope)
  (hb:∀(pm ctv u:Value),bindArgs (PySem.W.kla_fn "<lambda>" l.qual l.params l.body l.scope [(y,cell)] pm (.ref c) ctv) ⟨[u],[]⟩=pure [(x,u)])
  (body:∀(A:Around) (outer:List Env) (s:Shared) (H:Hp),Room k (A.deeper (PySem.W.envX l.qual l.scope s.heap.objs.size f (.ref c) [(y,cell)]))->PE (nH P w K mg base x y l f c cell A outer s H E0) l.body t) :
  Calls P w K mg base (k+1) f (s0 f l y cell c t):=by
 intro X e1 e2 e3 e4 e5 hx hr pins s σ H vx u Q I rx h;subst e1 e2 e3 e4 e5;obtain⟨o,uy,vy,hf,hc,hcell,hd,ry,q⟩:=h;obtain⟨pm,ctv,ef⟩:=(I.hok f _ hf).1;have ec:s.heap.CodeRec (.ref c) l.qual:=(I.hok c _ hc).1;have eo:s.heap.get? cell=some o:=(I.hok cell _ hcell).1;have e0:=I.env0
 have nf:cell∉frs X.stack:=λz=>by
  have:=e0.frf cell z;rw[hcell]at this;cases this
 have e0':Env0 X.prog X.w X.K X.mg X.base X.A X.stack s (cP H cell):=⟨e0.frames,e0.mod,λb ob e=>⟨(e0.bs b ob e).1,by
  by_cases z:b=cell
  ·rw[z];exact cA
  ·rw[bi z];exact(e0.bs b ob e).2⟩,e0.bsz,e0.funs,λb hb=>by
  by_cases z:b=cell
  ·rw[z];exact cA
  rw[bi z];exact e0.frf b hb,e0.hok.drop hcell,e0.bare⟩
 refine wpAny_call (codeAny_mono (sm (E:=E0) S hr e0' rx ry ⟨o,eo,hd⟩ cA ef ec (hb pm ctv u) (body X.A X.stack s (cP H cell)) q) λr s' hq=>?_)
 cases r with
 | error e=>exact False.elim hq
 | ok fl =>
 cases fl with
 | ret u =>
  obtain⟨v,H',os,bare,un,hok,rv,qv⟩:=hq;obtain⟨un',n',e'⟩:=un.back hcell eo nf (by simp);exact I.after ⟨v,_,os,bare,un',hok.take n' e',rv,qv n'⟩
 | next=>exact False.elim hq
 | brk=>exact False.elim hq
 | cont=>exact False.elim hq
end L2
namespace LZ
open PySem
section
variable {prog:Program} {w:World} {A:Around} {E:Value->Shared->Prop} {s:Shared}
abbrev IsZ (h:Heap) (z TI TO:Addr) (f0:Value) (f1:Bool):Prop :=
 h.get? z=some { cls:=.type "zip", dict:=none,data:=.fields #[f0,.bool f1,.bool false,.ref TI,.ref TO],slots:=#[] }
structure Apart5 (z TI TO i1 i2 l:Addr):Prop where
 TIz:TI≠z
 TOz:TO≠z
 i1z:i1≠z
 i2z:i2≠z
 TITO:TI≠TO
 TIi1:TI≠i1
 TIi2:TI≠i2
 TOi1:TO≠i1
 TOi2:TO≠i2
 i12:i1≠i2
 lz:l≠z
 lTO:l≠TO
 li1:l≠i1
 li2:l≠i2
variable {t:Tok} {x:Str} {it z i1 i2 l a:Addr} {ty:String}
theorem f8 (hty:ty = "str_ascii_iterator" \/ ty = "str_iterator") {i c:Nat} {Q:Value->Shared->Prop} (hit:s.heap.IsStrIter it ty x t i) (hx:x.cps[i]?=some c)
  (hQ:∀h',h'.IsStrIter it ty x t (i+1)->Heap.SameBut it s.heap h'->Q (.str ⟨#[c]⟩ s.toks) { s with heap:=h',toks:=s.toks+1 }) :
  wpAny (model prog w) A (Builtin.SmallTypes.nextOf (.ref it)) Q E s:=by
 rcases hty with e|e
 ·subst e;exact wpAny_nextOf_ascii_item hit hx hQ
 subst e;exact wpAny_nextOf_wide_item hit hx hQ
variable {Q:Option Value->Shared->Prop} {xs:Array Value}
theorem mw (hty:ty = "str_ascii_iterator" \/ ty = "str_iterator") {TI TO:Addr} {k c:Nat} {v a b:Value} (D:Apart5 z TI TO i1 i2 l)
  (hz:IsZ s.heap z TI TO .none false) (hTI:IsPair s.heap TI (.ref i1) (.ref i2)) (hTO:IsPair s.heap TO a b) (h1:s.heap.IsListIter i1 l k) (h2:s.heap.IsStrIter i2 ty x t k) (hl:s.heap.IsList l xs) (hv:xs[k]?=some v) (hc:x.cps[k]?=some c)
  (hQ:∀h',IsZ h' z TI TO (rawInt s.heap.objs.size) false->(∃a b,IsPair h' TO a b)->h'.IsListIter i1 l (k+1)->h'.IsStrIter i2 ty x t (k+1)->IsPair h' s.heap.objs.size v (.str ⟨#[c]⟩ s.toks)->h'.objs.size=s.heap.objs.size+1 ->
   (∀c o,c≠z->c≠TO->c≠i1->c≠i2->s.heap.get? c=some o->h'.get? c=some o)->Q (some (.ref s.heap.objs.size)) { s with heap:=h',toks:=s.toks+1 }) :
  wpAny (model prog w) A (pyNext (.ref z)) Q E s:=by
 have hT:s.TypeIs (.ref z) "zip" := ⟨_,hz,rfl⟩;unfold pyNext
 refine Qa (wpAny_attempt (xi (name:=Str.ofString "__next__") hT F.slot_zip_next
  (wpAny_call_entry F.slot_zip_next hT F.entry_zip_next ?_ (F.args_zip_next_1 _))))
 show wpAny _ _ (field (.ref z) 2 >>= _) _ _ _;refine Qa (QP hz rfl (x:=.bool false) rfl ?_);show wpAny _ _ (field (.ref z) 3 >>= _) _ _ _;refine Qa (QP hz rfl (x:=.ref TI) rfl ?_);refine Qa (wpAny_seqItems hTI rfl ?_);show wpAny _ _ (Builtin.SmallTypes.ownedTupleIsFree (.ref z) >>= _) _ _ _;refine Qa ?_;unfold Builtin.SmallTypes.ownedTupleIsFree;refine Qa (QP hz rfl (x:=.none) rfl (Qg ?_));simp only[if_true];refine Qa (wpAny_rule ?_);refine Qa (QP hz rfl (x:=.ref TO) rfl ?_);refine Qa (QT hz (by simp) λh₁ hz₁ hs₁=>?_)
 replace hz₁:IsZ h₁ z TI TO .ellipsis false:=hz₁
 refine Qa ?_;simp only[List.zipIdx_cons,List.zipIdx_nil,List.forIn_cons,List.forIn_nil];refine Qa (Qa (wpAny_onRaise ?_));show wpAny _ _ (Builtin.SmallTypes.nextOf (.ref i1) >>= _) _ _ _;refine Qa (wpAny_nextOf_list_item (h1.extBut hs₁.extBut D.i1z) (hl.extBut hs₁.extBut D.lz) hv λh₂ h1₂ hs₂=>Qg ?_);have hTO₂:IsPair h₂ TO a b:=hs₂.extBut _ _ D.TOi1 (hs₁.extBut _ _ D.TOz hTO);refine Qa (wpAny_seqItems hTO₂ rfl ?_);refine Qa (wpAny_updateSeq_pair hTO₂ λh₃ hTO₃ hs₃=>?_)
 replace hTO₃:IsPair h₃ TO v b:=hTO₃
 refine Qa (wpAny_letGo (Qg ?_));refine Qa (Qa (wpAny_onRaise ?_));show wpAny _ _ (Builtin.SmallTypes.nextOf (.ref i2) >>= _) _ _ _;have h2₃:h₃.IsStrIter i2 ty x t k:=((h2.extBut hs₁.extBut D.i2z).extBut hs₂.extBut D.i12.symm).extBut hs₃.extBut D.TOi2.symm;refine Qa (f8 hty h2₃ hc λh₄ h2₄ hs₄=>Qg ?_);have hTO₄:IsPair h₄ TO v b:=hs₄.extBut _ _ D.TOi2 hTO₃;refine Qa (wpAny_seqItems hTO₄ rfl ?_);refine Qa (wpAny_updateSeq_pair hTO₄ λh₅ hTO₅ hs₅=>?_)
 replace hTO₅:IsPair h₅ TO v (.str ⟨#[c]⟩ s.toks):=hTO₅
 refine Qa (wpAny_letGo (Qg (Qg ?_)));refine Qa (wpAny_seqItems hTO₅ rfl ?_);refine Qa (wpAny_newTuple ?_);have hsz:h₅.objs.size=s.heap.objs.size:=by rw[hs₅.1,hs₄.1,hs₃.1,hs₂.1,hs₁.1]
 have hz₅:IsZ h₅ z TI TO .ellipsis false:=hs₅.extBut _ _ D.TOz.symm (hs₄.extBut _ _ D.i2z.symm (hs₃.extBut _ _ D.TOz.symm (hs₂.extBut _ _ D.i1z.symm hz₁)))
 have hk₅:∀c o,c≠z->c≠TO->c≠i1->c≠i2->s.heap.get? c=some o->h₅.get? c=some o:=λc o c1 c2 c3 c4 e =>
  hs₅.extBut _ _ c2 (hs₄.extBut _ _ c4 (hs₃.extBut _ _ c2 (hs₂.extBut _ _ c3 (hs₁.extBut _ _ c1 e))))
 have h1₅:h₅.IsListIter i1 l (k+1):=((h1₂.extBut hs₃.extBut D.TOi1.symm).extBut hs₄.extBut D.i12).extBut hs₅.extBut D.TOi1.symm;have h2₅:h₅.IsStrIter i2 ty x t (k+1):=h2₄.extBut hs₅.extBut D.TOi2.symm;have hzlt:z<h₅.objs.size:=Qj hz₅;show wpAny _ _ (Builtin.SmallTypes.ownedTupleHandOut (.ref z) (.ref h₅.objs.size) >>= _) _ _ _;refine Qa ?_;unfold Builtin.SmallTypes.ownedTupleHandOut;have hz₆:IsZ (h₅.push { cls:=.type "tuple", data:=.seq #[v,.str ⟨#[c]⟩ s.toks] }) z TI TO .ellipsis false:=Qb _ hz₅;refine Qa (QT hz₆ (by simp) λh₇ hz₇ hs₇=>?_)
 replace hz₇:IsZ h₇ z TI TO (rawInt h₅.objs.size) false:=hz₇
 refine QT hz₇ (by simp) λh₈ hz₈ hs₈=>?_
 replace hz₈:IsZ h₈ z TI TO (rawInt h₅.objs.size) false:=hz₈
 have up:∀c o,c≠z->h₅.get? c=some o->h₈.get? c=some o:=λc o c1 e=>hs₈.extBut _ _ c1 (hs₇.extBut _ _ c1 (Qb _ e));have hT₈:IsPair h₈ h₅.objs.size v (.str ⟨#[c]⟩ s.toks):=hs₈.extBut _ _ (Nat.ne_of_gt hzlt) (hs₇.extBut _ _ (Nat.ne_of_gt hzlt) (Ql _ rfl));have hz8:h₈.objs.size=h₅.objs.size+1:=by rw[hs₈.1,hs₇.1,Q0]
 rw[hsz]at hz₈ hT₈ hz8;refine Qg ⟨_,rfl,Qg ?_⟩;show Q (some (.ref h₅.objs.size)) _;rw[hsz];exact hQ h₈ hz₈ ⟨_,_,up _ _ D.TOz hTO₅⟩ (h1₅.at λo e=>up _ o D.i1z e) (let ⟨o,e,r⟩:=h2₅;⟨o,up _ o D.i2z e,r⟩) hT₈ hz8 λc o c1 c2 c3 c4 e=>up c o c1 (hk₅ c o c1 c2 c3 c4 e)
theorem tK {o:Obj} {Q:Option Obj->Shared->Prop} (ho:s.heap.get? a=some o) (h:Q (some o) s):wpAny (model prog w) A (loadIfAlive a) Q E s:=by
 have h':Q (s.heap.get? a) s:=by rw[ho];exact h
 exact λ_ _ _=>h'
theorem mt (hty:ty = "str_ascii_iterator" \/ ty = "str_iterator") {TI TO T:Addr} {f1:Bool} {oT:Obj} {k c:Nat} {v:Value} (D:Apart5 z TI TO i1 i2 l)
  (hz:IsZ s.heap z TI TO (rawInt T) f1) (hT:s.heap.get? T=some oT) (hTI:IsPair s.heap TI (.ref i1) (.ref i2)) (h1:s.heap.IsListIter i1 l k) (h2:s.heap.IsStrIter i2 ty x t k) (hl:s.heap.IsList l xs) (hv:xs[k]?=some v) (hc:x.cps[k]?=some c)
  (hQ:∀h',IsZ h' z TI TO (rawInt T) true->h'.IsListIter i1 l (k+1)->h'.IsStrIter i2 ty x t (k+1)->IsPair h' s.heap.objs.size v (.str ⟨#[c]⟩ s.toks)->h'.objs.size=s.heap.objs.size+1 ->
   (∀c o,c≠z->c≠i1->c≠i2->s.heap.get? c=some o->h'.get? c=some o)->Q (some (.ref s.heap.objs.size)) { s with heap:=h',toks:=s.toks+1 }) :
  wpAny (model prog w) A (pyNext (.ref z)) Q E s:=by
 have hTy:s.TypeIs (.ref z) "zip" := ⟨_,hz,rfl⟩;unfold pyNext
 refine Qa (wpAny_attempt (xi (name:=Str.ofString "__next__") hTy F.slot_zip_next
  (wpAny_call_entry F.slot_zip_next hTy F.entry_zip_next ?_ (F.args_zip_next_1 _))))
 show wpAny _ _ (field (.ref z) 2 >>= _) _ _ _;refine Qa (QP hz rfl (x:=.bool false) rfl ?_);show wpAny _ _ (field (.ref z) 3 >>= _) _ _ _;refine Qa (QP hz rfl (x:=.ref TI) rfl ?_);refine Qa (wpAny_seqItems hTI rfl ?_);show wpAny _ _ (Builtin.SmallTypes.ownedTupleIsFree (.ref z) >>= _) _ _ _;refine Qa ?_;unfold Builtin.SmallTypes.ownedTupleIsFree;refine Qa (QP hz rfl (x:=rawInt T) rfl ?_);show wpAny _ _ (loadIfAlive ((T:Int).toNat) >>= _) _ _ _;rw[Int.toNat_natCast];refine Qa (tK hT ?_);simp only[Option.isNone_some,Qx,xa];refine Qa (QP hz rfl (x:=.bool f1) rfl ?_)
 cases f1 with
 | false =>
  simp only[show (Value.bool false != Value.bool true)=true from rfl,if_true];refine Qa (QT hz (by simp) λh₁ hz₁ hs₁=>Qg ?_)
  replace hz₁:IsZ h₁ z TI TO (rawInt T) true:=hz₁
  simp only[Qx,xa,List.forIn_toArray,List.forIn_cons,List.forIn_nil];refine Qa (Qa (Qa (QQ ?_)));show wpAny _ _ (Builtin.SmallTypes.nextOf (.ref i1) >>= _) _ _ _;refine Qa (wpAny_nextOf_list_item (h1.extBut hs₁.extBut D.i1z) (hl.extBut hs₁.extBut D.lz) hv λh₂ h1₂ hs₂=>Qg ?_);refine Qg ?_;dsimp only;refine Qa (Qa (QQ ?_));show wpAny _ _ (Builtin.SmallTypes.nextOf (.ref i2) >>= _) _ _ _;have h2₂:h₂.IsStrIter i2 ty x t k:=(h2.extBut hs₁.extBut D.i2z).extBut hs₂.extBut D.i12.symm;refine Qa (f8 hty h2₂ hc λh₄ h2₄ hs₄=>Qg ?_);refine Qg (Qg ?_);dsimp only;show wpAny _ _ (newTuple [v,.str ⟨#[c]⟩ s.toks] >>= _) _ _ _;refine Qa (wpAny_newTuple ?_);have hsz:h₄.objs.size=s.heap.objs.size:=by rw[hs₄.1,hs₂.1,hs₁.1]
  have hz₄:IsZ h₄ z TI TO (rawInt T) true:=hs₄.extBut _ _ D.i2z.symm (hs₂.extBut _ _ D.i1z.symm hz₁);have hk₄:∀c o,c≠z->c≠i1->c≠i2->s.heap.get? c=some o->h₄.get? c=some o:=λc o c1 c3 c4 e=>hs₄.extBut _ _ c4 (hs₂.extBut _ _ c3 (hs₁.extBut _ _ c1 e));refine Qg ⟨_,rfl,Qg ?_⟩;show Q (some (.ref h₄.objs.size)) _;rw[hsz];exact hQ _ (Qb _ hz₄) ((h1₂.extBut hs₄.extBut D.i12).at λo e=>Qb _ e) (let ⟨o,e,r⟩:=h2₄;⟨o,Qb _ e,r⟩) (by rw[<-hsz];exact Ql _ rfl) (by rw[Q0,hsz]) λc o c1 c3 c4 e=>Qb _ (hk₄ c o c1 c3 c4 e)
 | true =>
 simp only[show (Value.bool true != Value.bool true)=false from rfl,Qx,xa];refine Qg ?_;have hz₁:IsZ s.heap z TI TO (rawInt T) true:=hz;have hs₁:Heap.SameBut z s.heap s.heap:=.refl ..;simp only[Qx,xa,List.forIn_toArray,List.forIn_cons,List.forIn_nil];refine Qa (Qa (Qa (QQ ?_)));show wpAny _ _ (Builtin.SmallTypes.nextOf (.ref i1) >>= _) _ _ _;refine Qa (wpAny_nextOf_list_item (h1.extBut hs₁.extBut D.i1z) (hl.extBut hs₁.extBut D.lz) hv λh₂ h1₂ hs₂=>Qg ?_);refine Qg ?_;dsimp only;refine Qa (Qa (QQ ?_));show wpAny _ _ (Builtin.SmallTypes.nextOf (.ref i2) >>= _) _ _ _;have h2₂:h₂.IsStrIter i2 ty x t k:=(h2.extBut hs₁.extBut D.i2z).extBut hs₂.extBut D.i12.symm;refine Qa (f8 hty h2₂ hc λh₄ h2₄ hs₄=>Qg ?_);refine Qg (Qg ?_);dsimp only;show wpAny _ _ (newTuple [v,.str ⟨#[c]⟩ s.toks] >>= _) _ _ _;refine Qa (wpAny_newTuple ?_);have hsz:h₄.objs.size=s.heap.objs.size:=by rw[hs₄.1,hs₂.1,hs₁.1]
 have hz₄:IsZ h₄ z TI TO (rawInt T) true:=hs₄.extBut _ _ D.i2z.symm (hs₂.extBut _ _ D.i1z.symm hz₁);have hk₄:∀c o,c≠z->c≠i1->c≠i2->s.heap.get? c=some o->h₄.get? c=some o:=λc o c1 c3 c4 e=>hs₄.extBut _ _ c4 (hs₂.extBut _ _ c3 (hs₁.extBut _ _ c1 e));refine Qg ⟨_,rfl,Qg ?_⟩;show Q (some (.ref h₄.objs.size)) _;rw[hsz];exact hQ _ (Qb _ hz₄) ((h1₂.extBut hs₄.extBut D.i12).at λo e=>Qb _ e) (let ⟨o,e,r⟩:=h2₄;⟨o,Qb _ e,r⟩) (by rw[<-hsz];exact Ql _ rfl) (by rw[Q0,hsz]) λc o c1 c3 c4 e=>Qb _ (hk₄ c o c1 c3 c4 e)
theorem kY {TI TO:Addr} {f0:Value} {f1:Bool} {k:Nat} {a b:Value} (hh:A.handled=none) (D:Apart5 z TI TO i1 i2 l)
  (hz:IsZ s.heap z TI TO f0 f1) (hf:(f0=.none/\f1=false/\∃a b,IsPair s.heap TO a b)\/∃(T:Addr) (oT:Obj),f0=rawInt (T:Nat)/\s.heap.get? T=some oT) (hTI:IsPair s.heap TI (.ref i1) (.ref i2)) (h1:s.heap.IsListIter i1 l k) (hl:s.heap.IsList l xs) (hv:xs[k]?=none)
  (hQ:∀h',(∀c o,c≠z->c≠i1->s.heap.get? c=some o->h'.get? c=some o)->Q none { s with heap:=h' }):wpAny (model prog w) A (pyNext (.ref z)) Q E s:=by
 have hTy:s.TypeIs (.ref z) "zip" := ⟨_,hz,rfl⟩;unfold pyNext
 refine Qa (wpAny_attempt (xi (name:=Str.ofString "__next__") hTy F.slot_zip_next
  (wpAny_call_entry F.slot_zip_next hTy F.entry_zip_next ?_ (F.args_zip_next_1 _))))
 show wpAny _ _ (field (.ref z) 2 >>= _) _ _ _;refine Qa (QP hz rfl (x:=.bool false) rfl ?_);show wpAny _ _ (field (.ref z) 3 >>= _) _ _ _;refine Qa (QP hz rfl (x:=.ref TI) rfl ?_);refine Qa (wpAny_seqItems hTI rfl ?_);show wpAny _ _ (Builtin.SmallTypes.ownedTupleIsFree (.ref z) >>= _) _ _ _;refine Qa ?_;unfold Builtin.SmallTypes.ownedTupleIsFree;refine Qa (QP hz rfl (x:=f0) rfl ?_)
 have fin:∀h' e,(∀c o,c≠z->c≠i1->s.heap.get? c=some o->h'.get? c=some o)->(∃o,h'.get? e=some o/\o.cls=.type "StopIteration") ->
   wpAny (model prog w) A (do if <-isInstance (.ref e) (.type "StopIteration") then pure none else throw (.ref e)) Q E { s with heap:=h' }:=λh' e hk ⟨o,ho,hc⟩ =>
  Qa (wpAny_isInstance (T := "StopIteration") (b:=true) ⟨o,ho,hc⟩ isSubtype_stop (Qg (hQ _ hk)))
 rcases hf with⟨e1,e2,a,b,hTO⟩|⟨T,oT,e1,hT⟩
 ·subst e1 e2;refine Qg ?_;simp only[if_true];refine Qa (wpAny_rule ?_);refine Qa (QP hz rfl (x:=.ref TO) rfl ?_);refine Qa (QT hz (by simp) λh₁ hz₁ hs₁=>?_)
  replace hz₁:IsZ h₁ z TI TO .ellipsis false:=hz₁
  refine Qa ?_;simp only[List.zipIdx_cons,List.zipIdx_nil,List.forIn_cons,List.forIn_nil];refine Qa (Qa (wpAny_onRaise ?_));show wpAny _ _ (Builtin.SmallTypes.nextOf (.ref i1) >>= _) _ _ _;refine Qa (wpAny_nextOf_list_end hh (h1.extBut hs₁.extBut D.i1z) (hl.extBut hs₁.extBut D.lz) hv λh₂ e hs₂ he=>?_);obtain⟨oe,hoe,hce⟩:=he;have hz₂:IsZ h₂ z TI TO .ellipsis false:=hs₂ _ _ D.i1z.symm hz₁;have hez:e≠z:=λx=>by subst x;rw[hz₂]at hoe;cases hoe;simp at hce
  refine QT hz₂ (by simp) λh₃ _ hs₃=>?_;exact fin h₃ e (λc o c1 c3 x=>hs₃.extBut _ _ c1 (hs₂ _ _ c3 (hs₁.extBut _ _ c1 x))) ⟨oe,hs₃.extBut _ _ hez hoe,hce⟩
 subst e1;show wpAny _ _ (loadIfAlive ((T:Int).toNat) >>= _) _ _ _;rw[Int.toNat_natCast];refine Qa (tK hT ?_);simp only[Option.isNone_some,Qx,xa];refine Qa (QP hz rfl (x:=.bool f1) rfl ?_)
 cases f1 with
 | false =>
  simp only[show (Value.bool false != Value.bool true)=true from rfl,if_true];refine Qa (QT hz (by simp) λh₁ hz₁ hs₁=>Qg ?_)
  replace hz₁:IsZ h₁ z TI TO (rawInt T) true:=hz₁
  simp only[Qx,xa,List.forIn_toArray,List.forIn_cons,List.forIn_nil];refine Qa (Qa (Qa (QQ ?_)));show wpAny _ _ (Builtin.SmallTypes.nextOf (.ref i1) >>= _) _ _ _;refine Qa (wpAny_nextOf_list_end hh (h1.extBut hs₁.extBut D.i1z) (hl.extBut hs₁.extBut D.lz) hv λh₂ e hs₂ he=>?_);exact fin h₂ e (λc o c1 c3 x=>hs₂ _ _ c3 (hs₁.extBut _ _ c1 x)) he
 | true =>
 simp only[show (Value.bool true != Value.bool true)=false from rfl,Qx,xa];refine Qg ?_;simp only[Qx,xa,List.forIn_toArray,List.forIn_cons,List.forIn_nil];refine Qa (Qa (Qa (QQ ?_)));show wpAny _ _ (Builtin.SmallTypes.nextOf (.ref i1) >>= _) _ _ _;refine Qa (wpAny_nextOf_list_end hh h1 hl hv λh₂ e hs₂ he=>?_);exact fin h₂ e (λc o c1 c3 x=>hs₂ _ _ c3 x) he
abbrev zH1 (h:Heap) (l:Addr):Heap:=h.push { cls:=.type "list_iterator", data:=.fields #[.ref l,.int 0 0] }
abbrev zH2 (h:Heap) (l:Addr) (ty:String) (x:Str) (t:Tok):Heap:=(zH1 h l).push { cls:=.type ty,data:=.fields #[.str x t,.int 0 0] }
abbrev zH3 (h:Heap) (l:Addr) (ty:String) (x:Str) (t:Tok):Heap:=(zH2 h l ty x t).push { cls:=.type "tuple", data:=.seq #[.ref h.objs.size,.ref (zH1 h l).objs.size] }
abbrev zH4 (h:Heap) (l:Addr) (ty:String) (x:Str) (t:Tok):Heap:=(zH3 h l ty x t).push { cls:=.type "tuple", data:=.seq #[.none,.none] }
abbrev zH5 (h:Heap) (l:Addr) (ty:String) (x:Str) (t:Tok):Heap:=(zH4 h l ty x t).push { cls:=.type "zip", data:=.fields #[.none,.bool false,.bool false,.ref (zH2 h l ty x t).objs.size,.ref (zH3 h l ty x t).objs.size] }
def dD (x:Str):String:=if x.cps.all (·<128)=true then "str_ascii_iterator" else "str_iterator"
theorem oM {Q:Value->Shared->Prop} (hQ:Q (.ref s.heap.objs.size) { s with heap:=s.heap.push { cls:=.type (dD x),data:=.fields #[.str x t,.int 0 0] } }):wpAny (model prog w) A (pyIter (.str x t)) Q E s:=by
 unfold dD at hQ
 cases ha:x.cps.all (·<128) with
 | true=>rw[ha,QC rfl]at hQ;exact wpAny_pyIter_ascii ha hQ
 | false=>rw[ha,Qz Qn]at hQ;exact wpAny_pyIter_wide ha hQ
theorem rq (x:Str):dD x = "str_ascii_iterator" \/ dD x = "str_iterator" := by
 unfold dD
 split
 ·exact .inl rfl
 exact .inr rfl
theorem oE (l:Addr) (xs:Array Value) (x:Str) (t:Tok) :
  Meets (Builtin.«zip.__new__» ⟨[.type "zip", .ref l,.str x t],[]⟩) (λ_ R s=>s.heap.IsList l xs/\R (.ok (.ret (.ref (zH4 s.heap l (dD x) x t).objs.size))) { s with heap:=zH5 s.heap l (dD x) x t }) :=
 .of_wp λprog w A R s h=>by
  obtain⟨hp,g,d,tk,os⟩:=s;obtain⟨hl1,h⟩:=h;have hsub:=sub_zip;have hL1:Heap.IsList (Shared.heap ⟨hp,g,d,tk,os⟩) l xs:=hl1
  wp_walk using wpAny_pyIter_list hL1,oM
  exact⟨_,rfl,h⟩
theorem rf {Q:Value->Shared->Prop} (hl1:s.heap.IsList l xs)
  (h:∀h',IsZ h' (s.heap.objs.size+4) (s.heap.objs.size+2) (s.heap.objs.size+3) .none false->IsPair h' (s.heap.objs.size+2) (.ref s.heap.objs.size) (.ref (s.heap.objs.size+1)) ->
   IsPair h' (s.heap.objs.size+3) .none .none->h'.IsListIter s.heap.objs.size l 0->h'.IsStrIter (s.heap.objs.size+1) (dD x) x t 0->h'.objs.size=s.heap.objs.size+5 ->
   (∀c o,s.heap.get? c=some o->h'.get? c=some o)->Q (.ref (s.heap.objs.size+4)) { s with heap:=h' }) :
  wpAny (model prog w) A (call (.type "zip") [.ref l,.str x t]) Q E s:=by
 refine callType_new F.called_zip (by decide) (F.typeCall_zip_2 _ _) (F.newCall_zip_2 _ _) (λobj=>F.args_object_init_3 obj _ _) F.entry_zip_new (oE l xs x t) ⟨hl1,?_⟩;have z1:(zH1 s.heap l).objs.size=s.heap.objs.size+1:=Q0 ..;have z2:(zH2 s.heap l (dD x) x t).objs.size=s.heap.objs.size+2:=by rw[Q0,z1]
 have z3:(zH3 s.heap l (dD x) x t).objs.size=s.heap.objs.size+3:=by rw[Q0,z2]
 have z4:(zH4 s.heap l (dD x) x t).objs.size=s.heap.objs.size+4:=by rw[Q0,z3]
 have z5:(zH5 s.heap l (dD x) x t).objs.size=s.heap.objs.size+5:=by rw[Q0,z4]
 have g5:(zH5 s.heap l (dD x) x t).get? (zH4 s.heap l (dD x) x t).objs.size=some _:=Ql _ rfl;have g4:(zH5 s.heap l (dD x) x t).get? (zH3 s.heap l (dD x) x t).objs.size=some _:=Qb _ (Ql _ rfl);have g3:(zH5 s.heap l (dD x) x t).get? (zH2 s.heap l (dD x) x t).objs.size=some _:=Qb _ (Qb _ (Ql _ rfl));have g2:(zH5 s.heap l (dD x) x t).get? (zH1 s.heap l).objs.size=some _:=Qb _ (Qb _ (Qb _ (Ql _ rfl)));have g1:(zH5 s.heap l (dD x) x t).get? s.heap.objs.size=some _:=Qb _ (Qb _ (Qb _ (Qb _ (Ql _ rfl))));show _/\_;rw[z2,z3,z4]at g5;rw[z1,z2]at g3;rw[z3]at g4;rw[z1]at g2;rw[z4]
 exact⟨⟨_,g5,rfl⟩,h _ g5 g3 g4 ⟨_,g1,rfl,rfl⟩ ⟨_,g2,rfl,rfl⟩ z5 λc o x =>
  Qb _ (Qb _ (Qb _ (Qb _ (Qb _ x))))⟩
theorem fX:typeLookup (.type "zip") "__getattr__" = pure none:=by rw[typeLookup_type,Q9];kernel_rfl
theorem iY:typeLookup (.type "zip") "keys" = pure none:=by rw[typeLookup_type,Q9];kernel_rfl
theorem dY:entryFor table "zip.__getattribute__" = some Builtin.«object.__getattribute__» :=
 entryFor_alias (id' := "object.__getattribute__") (by kernel_rfl) (by decide +kernel) (by decide +kernel) (by kernel_rfl)
theorem iC (a:Addr) (xs:Array Value) (sl:Array (Option Value)) (u:Tok) :
  Meets (Builtin.«object.__getattribute__» ⟨[.ref a,.str "keys" u],[]⟩) (λA R s=>s.heap.get? a=some { cls:=.type "zip", dict:=none,data:=.fields xs,slots:=sl }/\raisesAttr (.ref a) "keys" A R s) :=
 Meets.of_wp λprog w A R s hs=>by
  obtain⟨hp,g,d,tk,os⟩:=s;obtain⟨hx,hs⟩:=hs;have hT:(⟨hp,g,d,tk,os⟩:Shared).TypeIs (.ref a) "zip" := ⟨_,hx,rfl⟩;have hmiss:=iY;have hname:(["__module__", "__name__", "__qualname__", "__doc__", "__annotations__"]:List Str).contains "keys" = false:=by decide +kernel
  unfold Builtin.«object.__getattribute__»
  repeat (any_goals (first|assumption|wp_step))
  try simp only[hname,Qx,xa]
  repeat (any_goals (first|assumption|wp_step))
  exact wpAny_raiseAttrError hs.1 hs.2 (attrMsg_fits (by decide +kernel) (by decide +kernel))
theorem oH {sl:Array (Option Value)} (hx:s.heap.get? a=some { cls:=.type "zip", dict:=none,data:=.fields xs,slots:=sl }) (hA:A.handled=none)
  (h:∀h' tk,(∀c o,s.heap.get? c=some o->h'.get? c=some o)->Q none { s with heap:=h',toks:=tk }):wpAny (model prog w) A (getAttr? (.ref a) "keys") Q E s:=by
 obtain⟨hp,g,d,tk,os⟩:=s;have hT:∀tk',(⟨hp,g,d,tk',os⟩:Shared).TypeIs (.ref a) "zip" := λ_=>⟨_,hx,rfl⟩;have f1:=sub_AttributeError;have f3:=F.slot_zip_getattribute.lookup;have f4:=F.slot_zip_getattribute.bind (.ref a);have f5:=fX;unfold getAttr? getAttrBy? getAttrBy
 repeat (any_goals (first|assumption|exact hT _|((with_reducible show wpAny _ _ (call (Value.builtin "zip.__getattribute__") _ _) _ _ _);refine call_meets F.slot_zip_getattribute (hT _) dY (F.args_zip_getattribute_2 _ _) (iC a xs sl _) ⟨hx,hA,λh' tk' e hx'=>?_⟩)|wp_step))
 obtain⟨t',u',he⟩:=hx'.there;show wpAny _ _ (getattributeRaised _ _ _ _ _ _ _) _ _ _;unfold getattributeRaised
 repeat (any_goals (first|assumption|wp_step))
 all_goals exact h _ _ hx'.keeps
end
theorem iB:mroOf (.type "dict")=pure [.type "dict", .type "object"]:=by rw[mroOf_type];kernel_rfl
theorem gC:typeLookup (.type "dict") "__new__" = pure (some (.builtin "dict.__new__")):=by rw[typeLookup_type,Q9];kernel_rfl
theorem gu:TypeCalled "dict" "dict.__new__" "dict.__init__" :=
 ⟨by decide +kernel,by decide +kernel,⟨_,_,iB⟩,madeBy_type iB gC (by decide +kernel),by decide +kernel,by rw[isSubtype_type];kernel_rfl,F.slot_dict_init⟩
theorem d7 (a:Value):checkTypeCall "dict" ⟨[a],[]⟩=pure ():=by kernel_rfl
theorem iA (a:Value):checkBuiltinCall "dict.__new__" ⟨[.type "dict", a],[]⟩=pure ():=by kernel_rfl
theorem iM:entryFor table "dict.__new__" = some Builtin.«dict.__new__»:=entryFor_of_tree (by kernel_rfl)
theorem iw:plainId "dict.__new__" = true:=by decide +kernel
theorem pq:isSubtype (.type "dict") (.type "dict")=pure true:=by rw[isSubtype_type];kernel_rfl
theorem eQ:entryFor table "dict.update.loop" = some Builtin.«dict.update.loop»:=entryFor_of_tree (by kernel_rfl)
theorem bV:plainId "dict.update.loop" = true:=by decide +kernel
structure ApartD (z TI TO i1 i2 l d:Addr):Prop extends Apart5 z TI TO i1 i2 l where
 dz:d≠z
 dTI:d≠TI
 dTO:d≠TO
 di1:d≠i1
 di2:d≠i2
 dl:d≠l
structure ZS (h:Heap) (z TI TO i1 i2 l d:Addr) (ty:String) (x:Str) (t:Tok) (xs:Array Value) (k:Nat):Prop where
 zf:(IsZ h z TI TO .none false/\∃a b,IsPair h TO a b)\/∃(T:Addr) (f1:Bool) (oT:Obj),IsZ h z TI TO (rawInt (T:Nat)) f1/\h.get? T=some oT/\T≠z/\T≠i1/\T≠i2/\T≠d
 ti:IsPair h TI (.ref i1) (.ref i2)
 a1:h.IsListIter i1 l k
 a2:h.IsStrIter i2 ty x t k
 li:h.IsList l xs
section
variable {prog:Program} {w:World} {K:Type} [DecidableEq K] {knd:KeyKind prog w K} {A:Around} {R:Result->Shared->Prop}
variable {Q:Option Value->Shared->Prop} {xs:Array Value} {t:Tok} {x:Str} {z i1 i2 l d:Addr} {ty:String} {s:Shared} {E:Value->Shared->Prop}
theorem rm (hty:ty = "str_ascii_iterator" \/ ty = "str_iterator") {TI TO:Addr} {k c:Nat} {v:Value} {od:Obj} (D:ApartD z TI TO i1 i2 l d)
  (Z:ZS s.heap z TI TO i1 i2 l d ty x t xs k) (hod:s.heap.get? d=some od) (hv:xs[k]?=some v) (hc:x.cps[k]?=some c)
  (hQ:∀h' T u,ZS h' z TI TO i1 i2 l d ty x t xs (k+1)->IsPair h' T v (.str ⟨#[c]⟩ u)->T≠d->(∀c o,c≠z->c≠TO->c≠i1->c≠i2->s.heap.get? c=some o->h'.get? c=some o)->Q (some (.ref T)) { s with heap:=h',toks:=s.toks+1 }) :
  wpAny (model prog w) A (pyNext (.ref z)) Q E s:=by
 have lt:∀{c o},s.heap.get? c=some o->s.heap.objs.size≠c:=λe=>Nat.ne_of_gt (Qj e);have l1:s.heap.objs.size≠i1:=by obtain⟨_,e,_⟩:=Z.a1;exact lt e
 have l2:s.heap.objs.size≠i2:=by obtain⟨_,e,_⟩:=Z.a2;exact lt e
 rcases Z.zf with⟨hz,a,b,hTO⟩|⟨T,f1,oT,hz,hT,n1,n2,n3,n4⟩
 ·refine mw hty D.toApart5 hz Z.ti hTO Z.a1 Z.a2 Z.li hv hc λh' b1 b2 b3 b4 b5 b6 b7=>?_;exact hQ h' _ _ ⟨.inr ⟨_,_,_,b1,b5,lt hz,l1,l2,lt hod⟩,b7 _ _ D.TIz D.TITO D.TIi1 D.TIi2 Z.ti,b3,b4,Z.li.at λo e=>b7 _ o D.lz D.lTO D.li1 D.li2 e⟩ b5 (lt hod) b7
 refine mt hty D.toApart5 hz hT Z.ti Z.a1 Z.a2 Z.li hv hc λh' b1 b3 b4 b5 b6 b7=>?_;exact hQ h' _ _ ⟨.inr ⟨T,_,oT,b1,b7 _ _ n1 n2 n3 hT,n1,n2,n3,n4⟩,b7 _ _ D.TIz D.TIi1 D.TIi2 Z.ti,b3,b4,Z.li.at λo e=>b7 _ o D.lz D.li1 D.li2 e⟩ b5 (lt hod) λc o c1 _ c3 c4 e=>b7 c o c1 c3 c4 e
theorem tM {TI TO:Addr} {k:Nat} (hh:A.handled=none) (D:ApartD z TI TO i1 i2 l d)
  (Z:ZS s.heap z TI TO i1 i2 l d ty x t xs k) (hv:xs[k]?=none) (hQ:∀h',(∀c o,c≠z->c≠i1->s.heap.get? c=some o->h'.get? c=some o)->Q none { s with heap:=h' }):wpAny (model prog w) A (pyNext (.ref z)) Q E s:=by
 rcases Z.zf with⟨hz,a,b,hTO⟩|⟨T,f1,oT,hz,hT,n1,n2,n3,n4⟩
 ·exact kY (a:=a) (b:=b) hh D.toApart5 hz (.inl ⟨rfl,rfl,a,b,hTO⟩) Z.ti Z.a1 Z.li hv hQ
 exact kY (a:=.none) (b:=.none) hh D.toApart5 hz (.inr ⟨T,oT,rfl,hT⟩) Z.ti Z.a1 Z.li hv hQ
theorem ZS.dict {h h':Heap} {TI TO:Addr} {k:Nat} (D:ApartD z TI TO i1 i2 l d) (Z:ZS h z TI TO i1 i2 l d ty x t xs k) (hs:Heap.SameBut d h h'):ZS h' z TI TO i1 i2 l d ty x t xs k:=by
 refine⟨?_,hs.extBut _ _ D.dTI.symm Z.ti,Z.a1.extBut hs.extBut D.di1.symm,Z.a2.extBut hs.extBut D.di2.symm,Z.li.extBut hs.extBut D.dl.symm⟩;rcases Z.zf with⟨hz,a,b,hTO⟩|⟨T,f1,oT,hz,hT,n1,n2,n3,n4⟩
 ·exact .inl ⟨hs.extBut _ _ D.dz.symm hz,a,b,hs.extBut _ _ D.dTO.symm hTO⟩
 exact .inr ⟨T,f1,oT,hs.extBut _ _ D.dz.symm hz,hs.extBut _ _ n4 hT,n1,n2,n3,n4⟩
def cT (kvs:List (K × Value)) (ps:List (K × Value)):List (K × Value):=ps.foldl (λacc p=>stored acc p.1 p.2) kvs
theorem gU (kvs:List (K × Value)) (k:K) (v:Value):(stored kvs k v).length<=kvs.length+1:=by
 unfold stored
 split
 ·rw[Qd];exact ve
 rw[Qh];simp
theorem oV (hty:ty = "str_ascii_iterator" \/ ty = "str_iterator") {TI TO:Addr} (D:ApartD z TI TO i1 i2 l d) (hh:A.handled=none) (ks:Nat->K) (hk:∀k v,xs[k]?=some v->knd.is (ks k) v=true)
  (hlen:xs.size<=x.cps.size) (hsz:xs.size<=sizeLine):∀(m k:Nat) (i:Int) (s:Shared) (kvs:List (K × Value)),xs.size-k=m->k<=xs.size->ZS s.heap z TI TO i1 i2 l d ty x t xs k->s.heap.DictOf knd d kvs->kvs.length<=k ->
  (∀h' tk (ps:List (K × Value)),ps.length=xs.size-k->(∀(j:Nat) p,ps[j]?=some p->p.1=ks (k+j)/\∃c u,x.cps[k+j]?=some c/\p.2=.str ⟨#[c]⟩ u)->h'.DictOf knd d (cT kvs ps) ->
   (∀c o,c≠z->c≠TO->c≠i1->c≠i2->c≠d->s.heap.get? c=some o->h'.get? c=some o)->R (.ok (.ret .none)) { s with heap:=h',toks:=tk }) ->
  codeAny (model prog w) A (.builtin "dict.update.loop" ⟨[.ref d,.ref z,rawInt i,.none],[]⟩) R s:=by
 intro m
 induction m with
 | zero =>
  intro k i s kvs hm hkk Z hd hkl hR;have hin:k=xs.size:=by exact tD hm hkk
  refine codeAny_builtin eQ ?_;rw[xk bV _];show wpAny _ A.in1 (pyNext (.ref z) >>= _) _ _ s;refine Qa (tM (show A.in1.handled=none from hh) D Z (by rw[hin];simp) λh' hkeep=>?_);show wpAny _ _ (Builtin.Dict.addKeywords d [] >>= _) _ _ _;refine Qa (Qg (Qg ?_));have hdn:d≠z:=D.dz
  have hd':h'.DictOf knd d kvs:=by
   obtain⟨o,es,ep,e1,r⟩:=hd;exact⟨o,es,ep,hkeep d o D.dz D.di1 e1,r⟩
  exact hR h' s.toks [] (by simp;exact vd hm) (λj p e=>by simp at e) hd' λc o c1 _ c3 _ _ e=>hkeep c o c1 c3 e
 | succ m ih =>
 intro k i s kvs hm hkk Z hd hkl hR;have hlt:k<xs.size:=by exact tz hm hkk
 have hv:xs[k]?=some xs[k]:=by simp[hlt]
 have hltc:k<x.cps.size:=by exact vz hlen hlt
 have hc:x.cps[k]?=some x.cps[k]:=by simp[hltc]
 obtain⟨od,es0,ep0,hod,_⟩:=id hd;refine codeAny_builtin eQ ?_;rw[xk bV _];show wpAny _ A.in1 (pyNext (.ref z) >>= _) _ _ s;refine Qa (rm hty D Z hod hv hc λh1 T u Z1 hT hTd hkeep=>?_)
 have hd1:h1.DictOf knd d kvs:=by
  obtain⟨o,es,ep,e1,r⟩:=hd;exact⟨o,es,ep,hkeep d o D.dz D.dTO D.di1 D.di2 e1,r⟩
 refine Qa (QQ ?_);have hTy:(Shared.TypeIs { s with heap:=h1,toks:=s.toks+1 } (.ref T) "tuple"):=⟨_,hT,rfl⟩;refine Qa (wpAny_tryCatch ?_);unfold Builtin.Dict.pairItems;refine Qa (wpAny_typeOf hTy ?_);rw[QC (by decide)];refine Qa (wpAny_seqItems hT rfl (Qg ?_));show wpAny _ _ (holding [xs[k],_] (dictSet d xs[k] _)) _ _ _;refine QQ (wpAny_dictSet_pairs (hk k _ hv) hd1 (λh2 hd2 hs2=>?_) (by exact tq hsz hkl hlt));refine Qg ⟨plainId_quiet bV _,ih (k+1) (i+1) _ _ (by exact tp hm hlt) (by exact tm hlt) (ZS.dict D Z1 hs2) hd2 (QK (gU _ _ _) (by exact u8 hkl)) λh3 tk ps hl hp hd3 hk3=>?_⟩;refine hR h3 tk ((ks k,.str ⟨#[x.cps[k]]⟩ u)::ps) (by rw[QM,hl];exact vb hm hlt) (λj p e=>?_) hd3 λc o c1 c2 c3 c4 c5 e=>hk3 c o c1 c2 c3 c4 c5 (hs2.extBut c o c5 (hkeep c o c1 c2 c3 c4 e))
 cases j with
 | zero =>
  have e':(ks k,Value.str ⟨#[x.cps[k]]⟩ u)=p:=by simpa using e
  subst e';exact⟨rfl,x.cps[k],u,hc,rfl⟩
 | succ j =>
 have q:=hp j p (by simpa using e);rw[show k+(j+1)=k+1+j by exact u_];exact q
theorem e9 (a:Value) {Q:Value->Shared->Prop} (h:Q (.ref s.heap.objs.size) { s with heap:=s.heap.push { cls:=.type "dict", data:=.dict #[] } }) :
  codeAny (model prog w) A (.call (.builtin "dict.__new__") ⟨[.type "dict", a],[]⟩) (wants Q E) s:=by
 refine codeAny_call_builtin iw iM (wpAny_of_eq (iA a) ?_);have hsub:=pq;have hmro:=iB;obtain⟨hp,g,d,tk,os⟩:=s;unfold Builtin.«dict.__new__»
 wp_walk
 exact h
theorem oZ (hty:ty = "str_ascii_iterator" \/ ty = "str_iterator") {TI TO:Addr} {Q:Value->Shared->Prop} (D:Apart5 z TI TO i1 i2 l) (hh:A.handled=none) (ks:Nat->K)
  (hk:∀k v,xs[k]?=some v->knd.is (ks k) v=true) (hlen:xs.size<=x.cps.size) (hsz:xs.size<=sizeLine) (hz:IsZ s.heap z TI TO .none false) (hTI:IsPair s.heap TI (.ref i1) (.ref i2)) (hTO:∃a b,IsPair s.heap TO a b)
  (h1:s.heap.IsListIter i1 l 0) (h2:s.heap.IsStrIter i2 ty x t 0) (hl:s.heap.IsList l xs)
  (h:∀h' tk (ps:List (K × Value)),ps.length=xs.size->(∀(j:Nat) p,ps[j]?=some p->p.1=ks j/\∃c u,x.cps[j]?=some c/\p.2=.str ⟨#[c]⟩ u)->h'.DictOf knd s.heap.objs.size (cT [] ps) ->
   (∀c o,c≠z->c≠TO->c≠i1->c≠i2->s.heap.get? c=some o->h'.get? c=some o)->Q (.ref s.heap.objs.size) { s with heap:=h',toks:=tk }) :
  wpAny (model prog w) A (call (.type "dict") [.ref z]) Q E s:=by
 refine callType_codes (Q₁:=λobj s1=>obj=.ref s.heap.objs.size/\s1={ s with heap:=s.heap.push { cls:=.type "dict", data:=.dict #[] } }) gu (d7 _) F.entry_dict_init (e9 _ ⟨rfl,rfl⟩) ?_;rintro obj s1 ⟨rfl,rfl⟩;have up:∀c o,s.heap.get? c=some o->(s.heap.push { cls:=.type "dict", data:=.dict #[] }).get? c=some o:=λc o e=>Qb _ e;have hnew:(s.heap.push { cls:=.type "dict", data:=.dict #[] }).DictOf knd s.heap.objs.size []:=Heap.DictOf.new s.heap;have lt:∀{c o},s.heap.get? c=some o->s.heap.objs.size≠c:=λe=>Nat.ne_of_gt (Qj e);have l1:s.heap.objs.size≠i1:=by obtain⟨_,e,_⟩:=h1;exact lt e
 have l2:s.heap.objs.size≠i2:=by obtain⟨_,e,_⟩:=h2;exact lt e
 have ll:s.heap.objs.size≠l:=by obtain⟨_,e,_⟩:=hl;exact lt e
 obtain⟨a0,b0,hTO'⟩:=hTO;have DD:ApartD z TI TO i1 i2 l s.heap.objs.size:=⟨D,lt hz,lt hTI,lt hTO',l1,l2,ll⟩;refine⟨hnew.typeIs,F.args_dict_init_2 _ _,?_⟩;unfold Builtin.«dict.__init__»;refine Qa ?_;unfold Builtin.Dict.selfAndRest;refine Qa (wpAny_notOrdered_dict hnew.typeIs ?_);show wpAny _ _ (pure (s.heap.objs.size,[Value.ref z])) _ _ _;refine Qg ?_;show wpAny _ _ (Builtin.Dict.updateFrom "dict.__init__" s.heap.objs.size (.ref z) [] .none) _ _ _;unfold Builtin.Dict.updateFrom;have hzT:Shared.TypeIs { s with heap:=s.heap.push { cls:=.type "dict", data:=.dict #[] } } (.ref z) "zip" := ⟨_,up _ _ hz,rfl⟩;refine Qa (wpAny_typeOf hzT ?_);rw[QC (by decide)];refine Qa (oH (up _ _ hz) (show A.in1.in1.handled=none from hh) λh3 tk k3=>?_);simp only[Option.isNone_none,if_true];refine Qa (wpAny_rule ?_);have hz3:IsZ h3 z TI TO .none false:=k3 _ _ (up _ _ hz);refine Qa (wpAny_pyIter_zip (z:=z) (TI:=TI) (TO:=TO) (f0:=.none) hz3 ?_);refine Qg ⟨plainId_quiet bV _,?_⟩;have Z3:ZS h3 z TI TO i1 i2 l s.heap.objs.size ty x t xs 0:=⟨.inl ⟨hz3,a0,b0,k3 _ _ (up _ _ hTO')⟩,k3 _ _ (up _ _ hTI),h1.at λo e=>k3 _ o (up _ o e),(let ⟨o,e,r⟩:=h2;⟨o,k3 _ o (up _ o e),r⟩),hl.at λo e=>k3 _ o (up _ o e)⟩
 have hd3:h3.DictOf knd s.heap.objs.size []:=by
  obtain⟨o,es,ep,e1,r⟩:=hnew;exact⟨o,es,ep,k3 _ _ e1,r⟩
 refine oV hty DD (show A.in1.handled=none from hh) ks hk hlen hsz xs.size 0 0 _ [] (by simp) (QN _) Z3 hd3 (Qi _) λh4 tk4 ps hp1 hp2 hd4 hk4=>?_;refine⟨rfl,h h4 tk4 ps (by simpa using hp1) (λj p e=>by simpa using hp2 j p e) hd4 λc o c1 c2 c3 c4 e=>hk4 c o c1 c2 c3 c4 (lt e).symm (k3 _ _ (up _ _ e))⟩
end
end LZ
namespace L2
open PySem PySem.Spec PyProof.Rows
def bg (kvs:List (Key × V)):List (Key × V)->List (Key × V)
 | []=>kvs
 | p::r=>bg (bK kvs p.1 p.2) r
def bu (ns:List Str) (z:Str):List (Key × V):=(ns.zipIdx).map λp=>(Sum.inr p.1,dF z p.2)
theorem mD:∀{qs:List (Key × V)} {ps:List (Key × Value)} {kvs:List (Key × V)} {vs:List (Key × Value)},KV qs ps->KV kvs vs->KV (bg kvs qs) (LZ.cT vs ps)
 | [],_,_,_,h,r=>by cases h;exact r
 | q::qs,p::ps,kvs,vs,h,r=>by
  cases h with
  | cons h1 h2 =>
  show KV (bg (bK kvs q.1 q.2) qs) (LZ.cT (stored vs p.1 p.2) ps);rw[<-h1.1];exact mD h2 (r.put q.1 h1.2)
theorem paired_get {α β:Type} {F:α->β->Prop}:∀{xs:List α} {ys:List β},xs.length=ys.length->(∀(j:Nat) x y,xs[j]?=some x->ys[j]?=some y->F x y)->Paired F xs ys
 | [],[],_,_=>.nil
 | x::xs,y::ys,hl,h=>.cons (h 0 x y rfl rfl) (paired_get (by simpa using hl) λj a b e1 e2=>h (j+1) a b (by simpa using e1) (by simpa using e2))
theorem dw:∀(qs kvs:List (Key × V)),(bg kvs qs).length<=kvs.length+qs.length
 | [],kvs=>Qi _
 | q::qs,kvs=>by
  have h1:=dw qs (bK kvs q.1 q.2);have h2:=dq kvs q.1 q.2;show (bg (bK kvs q.1 q.2) qs).length<=_;rw[QM];exact vv h1 h2
section
variable {X:Cx} {a b:Expr} {ta:TA} {p1 p2 pos1 pos2:Pos}
def uS (K:PySem.W.Frag) (ta:TA):TE:=λσ H Q=>ta σ H λvs H1=>∃l ns z,vs=[.ref l,.str z]/\SqL K H1 l (ns.map V.str)/\ns.length<=z.cps.size/\ns.length<1000/\∀d,H1 d=none->Q (.ref d) (upd H1 d (.dK (bg [] (bu ns z))))
theorem j4 (hc:X.calm=true) (hg:Gl X "dict") (hm:X.mg "dict" = none) (hg2:Gl X "zip") (hm2:X.mg "zip" = none) (ha:PA X [a,b] ta)
  (hs:starEach [a,b] X.env=[(false,eval a X.env),(false,eval b X.env)]:=by rfl) (hs2:starEach [b] X.env=[(false,eval b X.env)]:=by rfl)
  (hs0:starEach [.Call (.Name "zip" p2) [a,b] [] pos2] X.env=[(false,eval (.Call (.Name "zip" p2) [a,b] [] pos2) X.env)]:=by rfl) :
  PE X (.Call (.Name "dict" p1) [.Call (.Name "zip" p2) [a,b] [] pos2] [] pos1) (uS X.K ta):=by
 intro pins s σ H Q I h;refine Call_ (cK I hg hm PyProof.Rows.boot_dict (QO ?_ hs0 rfl));rw[hs0];show wpAny _ _ (spliced [(false,eval (.Call (.Name "zip" p2) [a,b] [] pos2) X.env)]) _ _ s;refine xh ?_;refine Call_ (cK I hg2 hm2 PyProof.Rows.boot_zip (QO (thn (ha pos2 pins s σ H _ I h) λus s1 ⟨vs,H1,I1,r1,q1⟩=>?_) (by rw[hs,hs2]) (by rw[hs2];rfl)));obtain⟨l,ns,z,e,hl,hlen,hsm,q⟩:=q1;subst e;obtain⟨u1,u2,e,ru1,ru2⟩:=o9 r1;subst e;cases ru1;obtain⟨t,e⟩:=ru2;subst e;obtain⟨its,rv,pl,_⟩:=I1.list hl;have hits:its.length=ns.length:=by have:=rv.length;rw[Qd]at this;exact this.symm
 refine LZ.rf pl.isList λh2 b1 b2 b3 b4 b5 b6 b7=>?_;refine Calls.spliced_nil ?_;have I2:Inv X pins σ H1 { s1 with heap:=h2 }:=I1.kept (t':=s1.toks) b7;have ltl:@LT.lt Nat _ l s1.heap.objs.size:=by obtain⟨o,ho,_⟩:=pl.isList;exact Qj ho
 have big:1000<sizeLine:=by decide
 refine LZ.oZ (knd:=a_ X.prog X.w) (LZ.rq z) (i1:=s1.heap.objs.size) (i2:=s1.heap.objs.size+1) (l:=l) (xs:=its.toArray) ⟨(by show @Ne Nat _ _;exact vt),(by show @Ne Nat _ _;exact vq),(by show @Ne Nat _ _;exact vp),(by show @Ne Nat _ _;exact vo),(by show @Ne Nat _ _;exact vm),(by show @Ne Nat _ _;exact vk),(by show @Ne Nat _ _;exact vj),(by show @Ne Nat _ _;exact vi),(by show @Ne Nat _ _;exact vh),(by show @Ne Nat _ _;exact vg),(by show @Ne Nat _ _;omega),(by show @Ne Nat _ _;omega),(by show @Ne Nat _ _;omega),(by show @Ne Nat _ _;omega)⟩ (I.ok.hd hc) (λk=>Sum.inr (ns.getD k Str.empty)) (λk v hv=>?_)
  (by rw[Qf,hits];exact hlen) (by rw[Qf,hits];omega) b1 b2 ⟨_,_,b3⟩ b4 b5 (pl.isList.at λo e=>b7 _ o e) λh3 tk ps hp1 hp2 hd3 hk3=>?_
 ·have hv':its[k]?=some v:=by simpa using hv
  have hk:k<ns.length:=by have:=(Qc.mp hv').1;exact on hits this
  have e1:(ns.map V.str)[k]?=some (.str (ns.getD k Str.empty)):=by
   rw[Qk,Qe hk,QW,Qe hk];rfl
  obtain⟨u,hu,ru⟩:=rv.get e1;rw[hv']at hu;cases hu;obtain⟨t',e⟩:=ru;subst e;exact eE _ _ _ _
 have hlenz:(bu ns z).length=ns.length:=by unfold bu;simp
 have kv:KV (bu ns z) ps:=by
  refine paired_get (by rw[hlenz,hp1,Qf,hits]) λj x y e1 e2=>?_;obtain⟨f1,c,u,f2,f3⟩:=hp2 j y e2;unfold bu at e1;rw[Qk,List.getElem?_zipIdx]at e1
  cases e:ns[j]? with
  | none=>rw[e]at e1;simp at e1
  | some n =>
  rw[e]at e1;simp at e1;subst e1;refine⟨?_,?_⟩
  ·rw[f1];show (Sum.inr n:Key)=Sum.inr (ns.getD j Str.empty);rw[QW,e];rfl
  rw[f3];refine⟨u,?_⟩;show Value.str ⟨#[c]⟩ u=Value.str ⟨#[z.cps.getD j 0]⟩ u;rw[Array.getD_eq_getD_getElem?,f2];rfl
 have hnew:H1 h2.objs.size=none:=I2.hok.fresh (Qi _)
 have kept:∀c o,s1.heap.get? c=some o->h3.get? c=some o:=λc o e=>by
  have:@LT.lt Nat _ c s1.heap.objs.size:=Qj e;exact hk3 c o (by show @Ne Nat _ _;omega) (by show @Ne Nat _ _;omega) (by show @Ne Nat _ _;omega) (by show @Ne Nat _ _;omega) (b7 c o e)
 have hle:s1.heap.objs.size<=h2.objs.size:=by exact vf b6
 have I3:Inv X pins σ (upd H1 h2.objs.size (.dK (bg [] (bu ns z)))) { s1 with heap:=h3,toks:=tk }:=I1.laid kept hle ⟨by
   have:=dw (bu ns z) [];rw[hlenz]at this;simp only[Q6]at this
   omega,beq_eq_false_iff_ne.mpr (by
   have:@LT.lt Nat _ sysModules s1.heap.objs.size:=I1.big;intro e;have e':@Eq Nat h2.objs.size sysModules:=e
   omega),_,mD kv .nil,hd3⟩
 exact⟨.ref h2.objs.size,_,I3,rfl,q _ hnew⟩
end
end L2
namespace LR
open PySem
theorem mB:typeLookup (.type "list_reverseiterator") "__len__" = pure none:=by rw[typeLookup_type,Q9];kernel_rfl
theorem qE:typeLookup (.type "list_reverseiterator") "__length_hint__" = pure (some (.builtin "list_reverseiterator.__length_hint__")):=by rw[typeLookup_type,Q9];kernel_rfl
section
variable {prog:Program} {w:World} {A:Around} {E:Value->Shared->Prop} {s:Shared}
theorem gO {I:Addr} {Q:Bool->Shared->Prop} (hT:s.TypeIs (.ref I) "list_reverseiterator") (h:Q false s):wpAny (model prog w) A (Builtin.List.listLengthHint (.ref I)) Q E s:=by
 unfold Builtin.List.listLengthHint;refine Qa (wpAny_specialOf hT mB ?_);show wpAny _ A (specialOf (Value.ref I) (Str.ofString "__length_hint__") >>= _) _ _ _;refine Qa (wpAny_specialOf hT qE ?_);generalize hid:("list_reverseiterator.__length_hint__" : String)=id0
 wp_delta
 rw[show splitId id0=some ("list_reverseiterator", "__length_hint__") from by subst hid;decide +kernel];subst hid;refine Qa (wpAny_isInstance (T := "list_reverseiterator") (b:=true) hT (by rw[isSubtype_type];kernel_rfl) ?_);refine wpAny_ite_split (λhab=>absurd hab (by decide)) (λ_=>?_);refine wpAny_ite_split (λ_=>?_) (λhab=>absurd (by decide +kernel) hab);refine wpAny_ite_split (λhab=>absurd hab (by decide +kernel)) (λ_=>Qg h)
theorem call_list_rev {l:Addr} {items:Array Value} {Q:Value->Shared->Prop} (hh:A.handled=none) {I:Addr} (hit:s.heap.IsRevIter I l ((items.size:Int)-1)) (hl:s.heap.IsList l items) (hne:l≠I) (hn:items.size<=sizeLine)
  (hQ:∀h' tk acc' c',(∀b o,b≠I->s.heap.get? b=some o->h'.get? b=some o)->h'.get? s.heap.objs.size=some { cls:=.type "list", dict:=none,data:=.seq acc' c',slots:=#[] }->ItemsOf (λi v=>items[items.size-1-i]?=some v) acc' items.size->Q (.ref s.heap.objs.size) { s with heap:=h',toks:=tk }) :
  wpAny (model prog w) A (call (.type "list") [.ref I]) Q E s:=by
 have W:=(Walks.listRev (prog:=prog) (w:=w) (A:=A.in1.in1) hh I l hne items).toS;have hIlt:I<s.heap.objs.size:=by obtain⟨o,ho,_⟩:=hit;exact Qj ho
 have hllt:l<s.heap.objs.size:=by obtain⟨o,ho,_⟩:=hl;exact Qj ho
 have hst:s.heap.IsRevIter I l ((items.size:Int)-1-((0:Nat):Int)):=by simpa using hit
 have hSf:s.heap.objs.size∉[I,l]:=λhm=>by
  rcases QE.mp hm with e|hm
  ·exact absurd hIlt (by rw[<-e];exact xl _)
  exact absurd hllt (by rw[<-QJ.mp hm];exact xl _)
 have hSI:s.heap.objs.size≠I:=λe=>hSf (by rw[e];simp)
 refine callType_codes (Q₁:=λobj s₁=>obj=.ref s.heap.objs.size/\s₁={ s with heap:=s.heap.push { cls:=.type "list", data:=.seq #[] } }) F.called_list (F.typeCall_list_1 _) F.entry_list_init
  (code_list_new _ ⟨rfl,rfl⟩) λobj s₁ h₁=>?_
 obtain⟨rfl,rfl⟩:=h₁;have hS:(s.heap.push { cls:=.type "list", data:=.seq #[] }).get? s.heap.objs.size=some { cls:=.type "list", data:=.seq #[] }:=Ql _ rfl;refine⟨⟨_,hS,rfl⟩,F.args_list_init_2 _ _,?_⟩;generalize hS0:s.heap.objs.size=S at *;show wpAny _ A.in1.in1 (do let old <-Builtin.List.listItems (.ref S);Builtin.List.listUpdate (.ref S) (λ_=>#[]);letGo old.toList.reverse;Builtin.List.listExtendWith (.ref S) (.ref I) .none) _ _ _;refine Qa ?_;unfold Builtin.List.listItems;refine Qa (wpAny_seqItems hS rfl (Qg ?_));show wpAny _ _ (updateSeq S (λ_=>#[]) >>= λ_=>letGo (#[]:Array Value).toList.reverse >>= λ_=>Builtin.List.listExtendWith (.ref S) (.ref I) .none) _ _ _;refine Qa (wpAny_updateSeq hS rfl ?_);have hS₂:=Heap.get?_update_self (Obj.mapSeq (λ_=>(#[]:Array Value))) hS rfl
 have oth:∀b o,b≠S->s.heap.get? b=some o->((s.heap.push { cls:=.type "list", data:=.seq #[] }).update S (Obj.mapSeq (λ_=>(#[]:Array Value)))).get? b=some o :=
  λb o hb e=>(Heap.get?_update_other _ _ (Ne.symm hb)).trans (Qb _ e)
 refine Qa (wpAny_letGo ?_);have hit₂:((s.heap.push { cls:=.type "list", data:=.seq #[] }).update S (Obj.mapSeq (λ_=>(#[]:Array Value)))).IsRevIter I l ((items.size:Int)-1-((0:Nat):Int)):=hst.at λo e=>oth I o (Ne.symm hSI) e;have hl₂:((s.heap.push { cls:=.type "list", data:=.seq #[] }).update S (Obj.mapSeq (λ_=>(#[]:Array Value)))).IsList l items:=hl.at λo e=>oth l o (λz=>hSf (by rw[<-z];simp)) e;have hT:Shared.TypeIs { s with heap:=(s.heap.push { cls:=.type "list", data:=.seq #[] }).update S (Obj.mapSeq (λ_=>(#[]:Array Value))) } (.ref I) "list_reverseiterator" := hit₂.typeIs;unfold Builtin.List.listExtendWith;refine Qa (wpAny_typeOf hT ?_);have h1:Builtin.List.listSameRef (.ref S) (.ref I)=false:=by simp[Builtin.List.listSameRef,hSI]
 have h2:(Value.type "list_reverseiterator" == Value.type "list")=false:=by decide
 have h3:(Value.type "list_reverseiterator" == Value.type "tuple")=false:=by decide
 simp only[h1,h2,h3,Bool.or_false,Qx,xa];refine Qa (wpAny_pyIter_revIter hit₂ ?_);refine Qa (QQ (gO hT ?_));refine wpAny_ite_split (λhab=>absurd hab (by decide)) (λ_=>?_);refine Qg ⟨plainId_quiet F.plain_extend_loop _,codeAny_extend_loopS W hn S hSf .none items.size 0 _ #[] _ rfl (QN _) ⟨QN _,hit₂,hl₂⟩ hS₂ (ItemsOf.nil _) λs' acc' c' hm hS' hacc=>?_⟩;rw[Moved.eq_with hm];refine⟨rfl,hQ s'.heap s'.toks acc' c' (λb o hb e=>hm.heap b o (λhmem=>?_) (oth b o (λz=>?_) e)) hS' hacc⟩
 ·rcases QE.mp hmem with e'|hmem
  ·rw[e',<-hS0]at e;exact absurd (Qj e) (xl _)
  exact hb (QJ.mp hmem)
 rw[z,<-hS0]at e;exact absurd (Qj e) (xl _)
end
end LR
namespace L2
open PySem PySem.Spec PyProof.Rows
section
variable {X:Cx}
def sQ (K:PySem.W.Frag) (ta:TA):TE:=λσ H Q=>ta σ H λvs H1=>∃l xs,vs=[.ref l]/\SqL K H1 l xs/\∀p,H1 p=none->Q (.ref p) (upd H1 p (.lst xs.reverse))
theorem rT {a:Expr} {ta:TA} {p1 p2 pos1 pos2:Pos} (hc:X.calm=true) (hg:Gl X "list") (hm:X.mg "list" = none) (hg2:Gl X "reversed") (hm2:X.mg "reversed" = none) (ha:PA X [a] ta)
  (hs:starEach [a] X.env=[(false,eval a X.env)]:=by rfl)
  (hs0:starEach [.Call (.Name "reversed" p2) [a] [] pos2] X.env=[(false,eval (.Call (.Name "reversed" p2) [a] [] pos2) X.env)]:=by rfl) :
  PE X (.Call (.Name "list" p1) [.Call (.Name "reversed" p2) [a] [] pos2] [] pos1) (sQ X.K ta):=by
 intro pins s σ H Q I h;refine Call_ (cK I hg hm PyProof.Rows.boot_list (QO ?_ hs0 rfl));rw[hs0];show wpAny _ _ (spliced [(false,eval (.Call (.Name "reversed" p2) [a] [] pos2) X.env)]) _ _ s;refine xh ?_;refine Call_ (cK I hg2 hm2 PyProof.Rows.boot_reversed (QO (thn (ha pos2 pins s σ H _ I h) λws s1 ⟨vs,H1,I1,r1,q1⟩=>?_) hs rfl));obtain⟨l,xs,e,hq,q⟩:=q1;subst e;obtain⟨u,e,ru⟩:=dB r1;subst e;cases (show u=Value.ref l from ru);obtain⟨its,rv,pl,hz⟩:=I1.list hq;have ll:l<s1.heap.objs.size:=by obtain⟨o,ho,_⟩:=pl.isList;exact Qj ho
 refine call_reversed_list pl.isList ?_;refine Calls.spliced_nil ?_;have I2:Inv X pins σ H1 { s1 with heap:=s1.heap.push (revObj l ((its.toArray.size:Int)-1)) }:=I1.kept (t':=s1.toks) λb o e=>Qb _ e;have hit:(s1.heap.push (revObj l ((its.toArray.size:Int)-1))).IsRevIter s1.heap.objs.size l ((its.toArray.size:Int)-1):=⟨_,Ql _ rfl,rfl,rfl⟩;refine LR.call_list_rev (A:=X.A) (items:=its.toArray) (I2.ok.hd hc) hit (pl.isList.at λo e=>Qb _ e) (Qp ll) (by rw[Qf,<-rv.length];exact hz) λh' tk acc' c' hk hS' hacc=>?_
 have r:aW xs.reverse acc'.toList:=by
  refine paired_get (by rw[List.length_reverse,show acc'.toList.length=acc'.size from QA,hacc.1];exact rv.length) λj x y e1 e2=>?_;have e3:=hacc.2 j y (by simpa using e2);have hj:j<xs.length:=by have:=(Qc.mp e1).1;rwa [List.length_reverse]at this
  rw[List.getElem?_reverse hj]at e1;obtain⟨u,hu,ru⟩:=rv.get e1;rw[Qf,<-rv.length]at e3;have e3':its[xs.length-1-j]?=some y:=by simpa using e3
  rw[hu]at e3';cases e3';exact ru
 have kp:∀b o,s1.heap.get? b=some o->h'.get? b=some o:=λb o e=>hk b o (Qp (Qj e)) (Qb _ e);have hle:s1.heap.objs.size<=(s1.heap.push (revObj l ((its.toArray.size:Int)-1))).objs.size:=by rw[Q0];exact Nat.le_succ _
 exact⟨.ref _,_,I1.laid (t':=tk) kp hle (show bc X.prog X.w _ h' _ (.lst _) from⟨by rw[List.length_reverse];exact hz,acc'.toList,c',r,by simpa using hS'⟩),rfl,q _ (I1.hok.fresh hle)⟩
end
def Fz:HO->Prop
 | .dK _=>True
 | .dT _=>True
 | .lst _=>True
 | _=>False
def back (H:Hp) (a:Addr) (H':Hp):Hp:=λb=>if b=a then H a else H' b
variable {a b:Addr} {H H':Hp}
theorem eR:back H a H' a=H a:=QC rfl
theorem bw (h:b≠a):back H a H' b=H' b:=Qz h
section
variable {X:Cx} {pins:List (Addr × Obj)} {σ σ':St} {H H':Hp} {s s':Shared} {a:Addr} {u:HO} {o:Obj}
theorem gI (r:Rd H a u):∃v,H a=some v:=by
 rcases r with r|⟨o,r⟩ <;> exact⟨_,r⟩
theorem sZ (r:Rd H a u) (f:Fz u):(∀xs,H a≠some (.tup xs))/\(∀ps,H a≠some (.tbl ps))/\(∀x,H a≠some (.own x))/\∀ob v,H a=some (.frz ob v)->v=u:=by
 rcases r with r|⟨o,r⟩
 ·refine⟨λxs z=>?_,λps z=>?_,λx z=>?_,λob v z=>?_⟩ <;> (rw[r]at z;cases z;exact f.elim)
 refine⟨λxs z=>?_,λps z=>?_,λx z=>?_,λob v z=>?_⟩ <;> (rw[r]at z;cases z);rfl
theorem Inv.freeze (I:Inv X pins σ H s) (r:Rd H a u) (f:Fz u) (e:s.heap.get? a=some o):Inv X pins σ (upd H a (.frz o u)) s:=by
 obtain⟨v,hv⟩:=gI r;obtain⟨n1,n2,n3,n4⟩:=sZ r f;have ne:∀{b},H b=none->b≠a:=λh z=>by rw[z,hv]at h;cases h
 have ok:=r.ok I.hok;refine⟨I.ok,I.os,I.bare,⟨I.base.keep,I.base.slot,λb ob q n hx=>?_,I.base.there,λb xs q=>?_,λb ob w q=>?_,λb ps q=>?_⟩,I.loc,I.cell,?_,λx c h=>?_,λp hp=>?_,λb w q=>?_,I.len⟩
 ·have:=I.base.free b ob q n hx;rw[ao (ne this)];exact this
 ·have:=I.base.tups b xs q;rw[ao (λz=>n1 xs (by rw[<-z];exact this))];exact this
 ·have z:=I.base.frzs b ob w q;by_cases hb:b=a
  ·subst hb;have ew:=n4 ob w z;subst ew;obtain⟨e1,_⟩:=I.hok b _ z;rw[e]at e1;cases e1;exact ai
  rw[ao hb];exact z
 ·obtain⟨more,z⟩:=I.base.tbls b ps q;exact⟨more,by rw[ao (λy=>n2 _ (by rw[<-y];exact z))];exact z⟩
 ·rw[ao (ne I.free)];exact I.free
 ·rw[ao (ne (I.freeC x c h))];exact I.freeC x c h
 ·obtain⟨p1,p2,p3,p4,p5⟩:=I.pin p hp;exact⟨p1,by rw[ao (ne p2)];exact p2,p3,p4,p5⟩
 have st:∀{b w},bc X.prog X.w H s.heap b w->bc X.prog X.w (upd H a (.frz o u)) s.heap b w:=λh=>h.stay (λ_ _ _ q=>q) (λd q=>by rw[ao (λz=>n3 _ (by rw[<-z];exact q))];exact q) λd xs q=>by rw[ao (λz=>n1 _ (by rw[<-z];exact q))];exact q
 by_cases hb:b=a
 ·subst hb;rw[ai]at q;cases q;exact⟨e,st ok⟩
 rw[ao hb]at q;exact st (I.hok b w q)
theorem Inv.thaw (I:Inv X pins σ H s) (r:Rd H a u) (f:Fz u) (e:s.heap.get? a=some o) (J:Inv X pins σ' H' s') (h':H' a=some (.frz o u)):Inv X pins σ' (back H a H') s':=by
 obtain⟨v,hv⟩:=gI r;obtain⟨n1,n2,n3,n4⟩:=sZ r f;have ne:∀{b},H' b=none->b≠a:=λh z=>by rw[z,h']at h;cases h
 have ok:=J.hok a _ h';refine⟨J.ok,J.os,J.bare,⟨J.base.keep,J.base.slot,λb ob q n hx=>?_,J.base.there,λb xs q=>?_,λb ob w q=>?_,λb ps q=>?_⟩,J.loc,J.cell,?_,λx c h=>?_,λp hp=>?_,λb w q=>?_,J.len⟩
 ·have:=J.base.free b ob q n hx;rw[bw (ne this)];exact this
 ·have:=J.base.tups b xs q;rw[bw (λz=>by rw[z,h']at this;cases this)];exact this
 ·by_cases hb:b=a
  ·subst hb;rw[eR];exact I.base.frzs b ob w q
  rw[bw hb];exact J.base.frzs b ob w q
 ·obtain⟨more,z⟩:=J.base.tbls b ps q;exact⟨more,by rw[bw (λy=>by rw[y,h']at z;cases z)];exact z⟩
 ·rw[bw (ne J.free)];exact J.free
 ·rw[bw (ne (J.freeC x c h))];exact J.freeC x c h
 ·obtain⟨p1,p2,p3,p4,p5⟩:=J.pin p hp;exact⟨p1,by rw[bw (ne p2)];exact p2,p3,p4,p5⟩
 have st:∀{b w},bc X.prog X.w H' s'.heap b w->bc X.prog X.w (back H a H') s'.heap b w:=λh=>h.stay (λ_ _ _ q=>q) (λd q=>by rw[bw (λz=>by rw[z,h']at q;cases q)];exact q) λd xs q=>by rw[bw (λz=>by rw[z,h']at q;cases q)];exact q
 by_cases hb:b=a
 ·subst hb;rw[eR]at q;rcases r with r|⟨o2,r⟩
  ·rw[r]at q;cases q;exact st ok.2
  obtain⟨e2,_⟩:=I.hok b _ r;rw[e]at e2;cases e2;rw[r]at q;cases q;exact⟨ok.1,st ok.2⟩
 rw[bw hb]at q;exact st (J.hok b w q)
noncomputable def sM (D:Ends) (H:Hp) (a:Addr) (o:Obj) (u:HO):Ends where
 nx:=λσ' H'=>H' a=some (.frz o u)/\D.nx σ' (back H a H')
 bk:=λσ' H'=>H' a=some (.frz o u)/\D.bk σ' (back H a H')
 ct:=λσ' H'=>H' a=some (.frz o u)/\D.ct σ' (back H a H')
 rt:=λv H'=>H' a=some (.frz o u)/\D.rt v (back H a H')
def uQ (t:TS):TS:=λD σ H=>∃a u,Rd H a u/\Fz u/\∀o,t (sM D H a o u) σ (upd H a (.frz o u))
theorem pK {st:Stmt} {t:TS} (h:PS X st t):PS X st (uQ t):=by
 intro pins s σ H D I q;obtain⟨a,u,r,f,q⟩:=q;obtain⟨v,hv⟩:=gI r
 obtain⟨o,e⟩:∃o,s.heap.get? a=some o:=by
  rcases r with r|⟨o,r⟩
  ·have:=(I.hok a _ r)
   cases u with
   | lst xs=>obtain⟨_,_,_,_,e⟩:=this;exact⟨_,e⟩
   | dK kvs=>obtain⟨_,_,_,_,o,_,_,e,_⟩:=this;exact⟨_,e⟩
   | dT kvs=>obtain⟨_,_,_,_,o,_,_,e,_⟩:=this;exact⟨_,e⟩
   | _=>exact f.elim
  exact⟨o,(I.hok a _ r).1⟩
 refine Q4 (h pins s σ _ _ (I.freeze r f e) (q o)) (λfl s' z=>?_) λ_ _ z=>z
 cases fl with
 | next=>obtain⟨σ',H',J,h1,h2⟩:=z;exact⟨σ',_,I.thaw r f e J h1,h2⟩
 | brk=>obtain⟨σ',H',J,h1,h2⟩:=z;exact⟨σ',_,I.thaw r f e J h1,h2⟩
 | cont=>obtain⟨σ',H',J,h1,h2⟩:=z;exact⟨σ',_,I.thaw r f e J h1,h2⟩
 | ret w=>obtain⟨v,σ',H',J,rv,h1,h2⟩:=z;exact⟨v,σ',_,I.thaw r f e J h1,rv,h2⟩
end
def Itd (a:Addr) (o:Obj) (kvs:List (Key × V)):It :=
 ⟨λi H=>H a=some (.frz o (.dK kvs))/\i<kvs.length,λi H x H'=>H'=H/\∃k v,kvs[i]?=some (k,v)/\x=kV k,λi H=>H a=some (.frz o (.dK kvs))/\kvs.length<=i⟩
theorem vK {P:Program} {w:World} {k:Key} {u:Value} (h:(a_ P w).is k u=true):aO (kV k) u:=by
 rcases bo (show iI k u=true from h) with⟨i,t,rfl,rfl⟩|⟨x,t,rfl,rfl⟩
 ·exact⟨t,rfl⟩
 exact⟨t,rfl⟩
theorem KV.len {κ:Type} {xs:List (κ × V)} {ys:List (κ × Value)} (r:KV xs ys):xs.length=ys.length:=Paired.length r
theorem KV.get {κ:Type}:∀{xs:List (κ × V)} {ys:List (κ × Value)} {i:Nat} {k:κ} {v:V},KV xs ys->xs[i]?=some (k,v)->∃u,ys[i]?=some (k,u)/\aO v u
 | _,_,_,_,_,.nil,e=>by simp at e
 | _,(k',u)::_,0,k,v,.cons r _,e=>by
  simp at e;subst e;obtain⟨r1,r2⟩:=r;have r1:k=k':=r1;subst r1;exact⟨u,rfl,r2⟩
 | _,_,i+1,k,v,.cons _ t,e=>by
  obtain⟨u,h1,h2⟩:=KV.get (i:=i) t (by simpa using e);exact⟨u,by simpa using h1,h2⟩
variable {kvs:List (Key × V)}
theorem fk {X:Cx} {pins:List (Addr × Obj)} {σ:St} {s:Shared} {o:Obj} {es:Array DictEntry} {ep:Nat} (I:Inv X pins σ H s) (h:H a=some (.frz o (.dK kvs))) (hd:o.data=.dict es ep) :
  ∃vs,KV kvs vs/\s.heap.DictAt (a_ X.prog X.w) a vs ep/\(a==sysModules)=false:=by
 obtain⟨e1,z,y,vs,rel,ob,es',ep',e2,c,d,r⟩:=I.hok a _ h;rw[e1]at e2;cases e2;rw[hd]at d;cases d;exact⟨vs,rel,⟨o,es,e1,c,hd,r⟩,y⟩
theorem nQ {P:Program} {w:World} {K:PySem.W.Frag} {tg:Expr} (a it:Addr) (o:Obj) (kvs:List (Key × V)) (es:Array DictEntry) (ep:Nat) (hd:o.data=.dict es ep):Turn P w K tg (Itd a o kvs) [it] it (λi h=>h.IsKeyIter it a i kvs.length ep) where
 mem:=by simp
 obj:=λi h st b hb=>by
  have e:b=it:=by simpa using hb
  subst e;obtain⟨ob,e,c,d⟩:=st;exact⟨ob,e,λv z=>by rw[d]at z;cases z⟩
 keep:=λi h h' st k=>st.at λo e=>k it (by simp) o e
 item:=by
  intro X hP hw hK hc i pins s σ H E I hf st hg;subst hP hw hK;obtain⟨hz,hi⟩:=hg;obtain⟨vs,rel,da,_⟩:=fk I hz hd;obtain⟨⟨k,v⟩,hx⟩:∃p,kvs[i]?=some p:=⟨kvs[i],by simp[hi]⟩;obtain⟨u,hu,ru⟩:=rel.get hx;obtain⟨f0,f1,f2,f3,f4,f5⟩:=hf it (by simp);have st0:=st;rw[rel.len]at st;refine wpAny_pyNext_dict_item st da hu λkey h' hkey st' sb=>?_;have I1:Inv X pins σ H { s with heap:=h' }:=I.turned (t':=s.toks) (λb o hb e=>(sb.2 b hb).trans e) f0 f1 f3 f4 f5;rw[<-rel.len]at st';obtain⟨ob,e,c,d⟩:=id st';exact⟨key,rfl,nA (s:={ s with heap:=h' }) e c d (by decide) ⟨kV k,H,I1,vK hkey,⟨rfl,k,v,hx,rfl⟩,st',λb hb=>(hf b hb).1⟩⟩
 done:=by
  intro X hP hw hK hc i pins s σ H E I hf st hg;subst hP hw hK;obtain⟨hz,hi⟩:=hg;obtain⟨vs,rel,da,_⟩:=fk I hz hd;obtain⟨f0,f1,f2,f3,f4,f5⟩:=hf it (by simp);rw[rel.len]at st;exact wpAny_pyNext_dict_end (I.ok.hd hc) st da (List.getElem?_eq_none (by rw[<-rel.len];exact hi)) λh' eb=>⟨rfl,I.turned (t':=s.toks) (λb o hb e=>eb b o hb e) f0 f1 f3 f4 f5⟩
 self:=λ_ _ _ _ _ st h=>wpAny_pyIter_keyiter st h
def qN (tl:TE):TI:=λσ H R=>tl σ H λx H1=>∃a o kvs,x=.ref a/\H1 a=some (.frz o (.dK kvs))/\R (Itd a o kvs) H1
section
variable {X:Cx} {tg:Expr}
theorem kP {l:Expr} {tl:TE} (hl:PE X l tl):PI X tg l (qN tl):=by
 intro pins s σ H R I h;refine thn (hl pins s σ H _ I h) λv s1 ⟨x,H1,I1,r1,q1⟩=>?_;obtain⟨a,o,kvs,e,hz,q⟩:=q1;subst e;cases r1;obtain⟨e1,_,_,vs,rel,ob,es,ep,e2,c,d,r⟩:=I1.hok a _ hz;rw[e1]at e2;cases e2;obtain⟨vs,rel,da,hm⟩:=fk I1 hz d;refine wpAny_pyIter_dict hm da ?_;refine⟨s1.heap.objs.size,[s1.heap.objs.size],_,_,H1,rfl,I1.kept (t':=s1.toks) λb o e=>Qb _ e,nQ a _ o kvs es ep d,⟨_,Ql _ rfl,rfl,by rw[rel.len];rfl⟩,λb hb=>?_,q⟩;have e:b=s1.heap.objs.size:=by simpa using hb
 subst e;exact I1.fpOk (Qi _) (I1.hok.fresh (Qi _))
end
theorem lA {o:Obj} {g:TG} {tb:TS} {D:Ends} {σ:St} (Pv:Nat->St->Hp->Prop) (h0:Pv 0 σ H) (hl:∀i σ H,i<=kvs.length->Pv i σ H->H a=some (.frz o (.dK kvs)))
  (hs:∀i k v σ H,kvs[i]?=some (k,v)->Pv i σ H->g (kV k) σ H λσ2 H2=>tb { D with nx:=Pv (i+1),ct:=Pv (i+1),bk:=D.nx } σ2 H2) (hd:∀σ H,Pv kvs.length σ H->D.nx σ H) :
  ∃W:Nat->Nat->St->Hp->Prop,(∃m,W 0 m σ H)/\∀i m σ H,W i m σ H ->
   ((Itd a o kvs).stop i H/\D.nx σ H)\/((Itd a o kvs).go i H/\∃N:St->Hp->Prop,(∀σ' H',N σ' H'->∃m',m'<m/\W (i+1) m' σ' H')/\∀x H',(Itd a o kvs).yld i H x H'->g x σ H' λσ2 H2=>tb { D with nx:=N,ct:=N,bk:=D.nx } σ2 H2):=by
 refine⟨λi m σ H=>m=kvs.length-i/\i<=kvs.length/\Pv i σ H,⟨kvs.length,by simp,QN _,h0⟩,?_⟩;rintro i m σ H ⟨rfl,hi,p⟩;have q:=hl i σ H hi p;by_cases hlt:i<kvs.length
 ·refine .inr ⟨⟨q,hlt⟩,Pv (i+1),λσ' H' p'=>⟨kvs.length-(i+1),by exact om6 hlt,rfl,hlt,p'⟩,λx H' y=>?_⟩;obtain⟨e,k,v,hk,ex⟩:=y;subst e ex;exact hs i k v σ _ hk p
 have e:i=kvs.length:=by exact om0 hi hlt
 subst e;exact .inl ⟨⟨q,Qi _⟩,hd σ H p⟩
def pe (td ty tx:TE):TE:=λσ H Q=>td σ H λx H1=>∃a,x=.ref a/\IsD H1 a/\ty σ H1 λy H2=>tx σ H2 λz H3=>∃kvs k,H3 a=some (.dK kvs)/\y=kV k /\
 (∀v,bq kvs k=some v->Q v H3)/\(bq kvs k=none->kvs.length<sizeLine/\Q z (upd H3 a (.dK (bK kvs k z))))
section
variable {X:Cx} {o e f:Expr} {apos cpos:Pos} {td ty tx:TE}
theorem pU (ho:PE X o td) (he:PE X e ty) (hf:PE X f tx) (m:M2 X o "setdefault" apos e f cpos):PE X (.Call (.Attribute o "setdefault" apos) [e,f] [] cpos) (pe td ty tx):=by
 intro pins s σ H Q I h;refine wpAny_Call_method m.base m.few m.line PySem.F.plainAttrs_dict PySem.F.slot_dict_setdefault PySem.F.type_dict_setdefault (thn (ho pins s σ H _ I h) λu s1 ⟨x,H1,I1,rx,a,ex,d,q1⟩=>?_);subst ex;obtain rfl:u=Value.ref a:=rx;obtain⟨t1,t2,_⟩:=uA I1 d;refine⟨t1,t2,?_⟩;rw[m.trees]
 refine Calls.callWith_builtin rfl (Calls.evalArgs_plain (xh (thn (he pins s1 σ H1 _ I1 q1) λiv s2 ⟨y,H2,I2,ry,q2⟩ =>
  xh (thn (hf pins s2 σ H2 _ I2 q2) λfv s3 ⟨z,H3,I3,rz,kvs,k,ea,ey,q3,q4⟩=>Calls.spliced_nil ?_))))
 subst ey;obtain⟨zl,hd,vs,rel,dd⟩:=lH I3.hok ea
 refine call_meetsIn PySem.F.slot_dict_setdefault dd.typeIs PySem.F.entry_dict_setdefault (PySem.F.args_dict_setdefault_3 _ _ _) (kt_meets_setdefault (a_ X.prog X.w) a (jt ry) hd fv)
  ⟨vs,dd,by rw[<-rel.length];exact zl,λv' hv'=>?_,λhn h' dd' hs=>?_⟩
 ·have r:=rel.val k;rw[hv']at r
  cases l:bq kvs k with
  | none=>rw[l]at r;exact r.elim
  | some v=>rw[l]at r;exact⟨v,H3,I3.tok _,r,q3 v l⟩
 have r:=rel.val k;rw[hn]at r
 cases l:bq kvs k with
 | some v=>rw[l]at r;exact r.elim
 | none =>
 obtain⟨zl',q5⟩:=q4 l;have he:∃q,h'.get? a=some q:=let ⟨q,_,_,hq,_⟩:=dd';⟨q,hq⟩
 have hl:(bK kvs k z).length<=sizeLine:=by
  rw[eB z l,Qh];exact zl'
 exact⟨z,_,fQ I3 (by rw[ea];exact True.intro) hs he (ke hl hd (rel.put k rz) dd'),rz,q5⟩
end
section
variable {X:Cx} {elts:List Expr} {k:Nat} {tpos:Pos}
end
section
variable {X:Cx}
def rN:V->List V->Hp->VK->Prop:=λx vs H Q=>∃(d o:Addr) (kvs more:List (Key × V)),x=.ref d/\vs=[.ref o]/\d≠o/\H d=some (.dK kvs)/\H o=some (.dK more)/\kvs.length+more.length<=sizeLine/\Q .non (upd H d (.dK (eF kvs more)))
theorem oD:MtM X "dict.update" rN:=by
 intro pins s σ H x vs v us Q I rx rv h;obtain⟨d,o,kvs,more,rfl,rfl,ne,hd,ho,hz,q⟩:=h;cases rx;obtain⟨u,rfl,ru⟩:=dB rv;cases ru;obtain⟨z1,s1,vs1,rel1,dd1⟩:=lH I.hok hd;obtain⟨z2,s2,vs2,rel2,dd2⟩:=lH I.hok ho;refine call_meetsIn PySem.F.slot_dict_update dd1.typeIs PySem.F.entry_dict_update (PySem.F.args_dict_update_2 _ _) (meets_dict_update (a_ X.prog X.w) d o ne s2) ⟨vs1,vs2,dd1,dd2,by rw[<-rel1.length,<-rel2.length];exact hz,λh' dd' _ hs=>?_⟩;have he:∃q,h'.get? d=some q:=let ⟨q,_,_,hq,_⟩:=dd';⟨q,hq⟩;have lm:=dy more kvs;exact⟨.non,_,fQ (t':=s.toks) I (by rw[hd];exact True.intro) hs he (ke (QK lm hz) s1 (KV.merge rel2 rel1) dd'),rfl,q⟩
end
section
variable {X:Cx} {elts:List Expr} {k:Nat} {tpos:Pos}
end
end L2
namespace Bf
section
variable {κ:Type} [DecidableEq κ]
def aS (w:List κ):List κ->List κ
 | []=>w
 | k::ks=>aS (if k∈w then w else w++[k]) ks
def bfs (nx:κ->List κ) (s:κ):Nat->List κ
 | 0=>[s]
 | n+1=>match (bfs nx s n)[n]? with
  | some h=>aS (bfs nx s n) (nx h)
  | none=>bfs nx s n
inductive Reach (nx:κ->List κ) (s:κ):κ->Prop
 | start:Reach nx s s
 | step {a b:κ}:Reach nx s a->b∈nx a->Reach nx s b
theorem cD:∀(ks w:List κ),w <+: aS w ks
 | [],w=>List.prefix_refl w
 | k::ks,w=>by
  unfold aS;refine List.IsPrefix.trans ?_ (cD ks _)
  split
  ·exact List.prefix_refl w
  exact List.prefix_append w [k]
theorem d6:∀(ks w:List κ) (x:κ),x∈aS w ks↔x∈w\/x∈ks
 | [],w,x=>by simp[aS]
 | k::ks,w,x=>by
  unfold aS;rw[d6 ks]
  split
  ·rename_i h
   constructor
   ·rintro(q|q)
    ·exact .inl q
    exact .inr (Qv _ q)
   rintro(q|q)
   ·exact .inl q
   rcases QE.mp q with e|q
   ·subst e;exact .inl h
   exact .inr q
  rw[Qt,QJ,QE,or_assoc]
theorem d5:∀(ks w:List κ),w.Nodup->(aS w ks).Nodup
 | [],w,h=>h
 | k::ks,w,h=>by
  unfold aS;refine d5 ks _ ?_
  split
  ·exact h
  rename_i hk
  rw[List.nodup_append];refine⟨h,by simp,λa ha b hb=>?_⟩;rw[QJ]at hb;subst hb;intro e;subst e;exact hk ha
theorem jb (w ks ls:List κ):aS w (ks++ls)=aS (aS w ks) ls:=by
 induction ks generalizing w with
 | nil=>rfl
 | cons k ks ih=>exact ih _
variable {w xs ys:List κ}
theorem mR {k:κ} (h:k∈w):aS w [k]=w:=by simp[aS,h]
theorem mQ {k:κ} (h:k∉w):aS w [k]=w++[k]:=by simp[aS,h]
variable {nx:κ->List κ} {s:κ}
variable {n i:Nat}
theorem dO {h:κ} (e:(bfs nx s n)[n]?=some h):bfs nx s (n+1)=aS (bfs nx s n) (nx h):=by
 show (match (bfs nx s n)[n]? with|some h=>aS (bfs nx s n) (nx h)|none=>bfs nx s n)=_;rw[e]
theorem eM (e:(bfs nx s n)[n]?=none):bfs nx s (n+1)=bfs nx s n:=by
 show (match (bfs nx s n)[n]? with|some h=>aS (bfs nx s n) (nx h)|none=>bfs nx s n)=_;rw[e]
theorem lN (n:Nat):bfs nx s n <+: bfs nx s (n+1):=by
 cases e:(bfs nx s n)[n]? with
 | none=>rw[eM e];exact List.prefix_refl _
 | some h=>rw[dO e];exact cD _ _
theorem gM (n:Nat):∀m,bfs nx s n <+: bfs nx s (n+m)
 | 0=>List.prefix_refl _
 | m+1=>(gM n m).trans (lN (n+m))
theorem gJ (h:xs <+: ys) {x:κ} (e:xs[i]?=some x):ys[i]?=some x:=by
 obtain⟨t,rfl⟩:=h;rw[QY (Qc.mp e).1];exact e
theorem iu (h:xs <+: ys) {x:κ} (hi:i<xs.length) (e:ys[i]?=some x):xs[i]?=some x:=by
 obtain⟨t,rfl⟩:=h;rw[QY hi]at e;exact e
theorem cC:∀n,(bfs nx s n).Nodup
 | 0=>by simp[bfs]
 | n+1=>by
  cases e:(bfs nx s n)[n]? with
  | none=>rw[eM e];exact cC n
  | some h=>rw[dO e];exact d5 _ _ (cC n)
theorem cW:∀n x,x∈bfs nx s n->Reach nx s x
 | 0,x,h=>by
  have:x=s:=by simpa[bfs] using h
  subst this;exact .start
 | n+1,x,hx=>by
  cases e:(bfs nx s n)[n]? with
  | none=>rw[eM e]at hx;exact cW n x hx
  | some h =>
  rw[dO e]at hx;rcases(d6 _ _ _).mp hx with q|q
  ·exact cW n x q
  exact .step (cW n h (Qq e)) q
theorem rh (n:Nat):(bfs nx s n)[0]?=some s:=gJ (by have:=gM (nx:=nx) (s:=s) 0 n;rwa [Nat.zero_add]at this) rfl
theorem mN {n i:Nat} {h:κ} (hi:i<n) (e:(bfs nx s n)[i]?=some h):∀k∈nx h,k∈bfs nx s n:=by
 have h1:bfs nx s i <+: bfs nx s n:=by
  have:=gM (nx:=nx) (s:=s) i (n-i);rwa [Nat.add_sub_cancel' (Nat.le_of_lt hi)]at this
 have h2:bfs nx s (i+1) <+: bfs nx s n:=by
  have:=gM (nx:=nx) (s:=s) (i+1) (n-(i+1));rwa [Nat.add_sub_cancel' hi]at this
 intro k hk
 cases q:(bfs nx s i)[i]? with
 | some h' =>
  have:some h'=some h:=(gJ h1 q).symm.trans e;cases this;refine h2.subset ?_;rw[dO q];exact(d6 _ _ _).mpr (.inr hk)
 | none =>
 -- then nothing is added any more
 exfalso
 have stay:∀m,bfs nx s (i+m)=bfs nx s i:=by
  intro m
  induction m with
  | zero=>rfl
  | succ m ih =>
  have:(bfs nx s (i+m))[i+m]?=none:=by
   rw[ih];exact List.getElem?_eq_none (QK (List.getElem?_eq_none_iff.mp q) (Nat.le_add_right i m))
  exact(eM this).trans ih
 have:=stay (n-i);rw[Nat.add_sub_cancel' (Nat.le_of_lt hi)]at this;rw[this,q]at e;cases e
theorem fq:∀(ks w:List κ) (j:Nat) (x:κ),w.length<=j->(aS w ks)[j]?=some x->x∈ks
 | [],w,j,x,hj,e=>by
  have:w[j]?=some x:=e;rw[List.getElem?_eq_none hj]at this;cases this
 | k::ks,w,j,x,hj,e=>by
  unfold aS at e
  split at e
  ·exact Qv _ (fq ks w j x hj e)
  by_cases c:j=w.length
  ·subst c;have:=iu (cD ks (w++[k])) (i:=w.length) (by simp) e;rw[QS (Qi _)]at this;simp at this;exact this▸QZ
  exact Qv _ (fq ks (w++[k]) j x (by simp;omega) e)
theorem iT:∀(n j:Nat) (x:κ),0<j->(bfs nx s n)[j]?=some x->∃i h,i<j/\i<n/\(bfs nx s n)[i]?=some h/\x∈nx h
 | 0,j,x,hj,e=>by
  have:([s]:List κ)[j]?=some x:=e;rw[List.getElem?_eq_none (by simp;omega)]at this;cases this
 | n+1,j,x,hj,e=>by
  cases q:(bfs nx s n)[n]? with
  | none =>
   rw[eM q]at e ⊢;obtain⟨i,h,h1,h2,h3,h4⟩:=iT n j x hj e;exact⟨i,h,h1,by omega,h3,h4⟩
  | some h =>
  rw[dO q]at e ⊢;by_cases c:j<(bfs nx s n).length
  ·have e':=iu (cD (nx h) (bfs nx s n)) c e;obtain⟨i,h',h1,h2,h3,h4⟩:=iT n j x hj e';exact⟨i,h',h1,by omega,gJ (cD _ _) h3,h4⟩
  have hn:n<(bfs nx s n).length:=(Qc.mp q).1;exact⟨n,h,by omega,by omega,gJ (cD _ _) q,fq _ _ j x (by omega) e⟩
theorem pN:∀(xs ys:List κ),xs.Nodup->(∀x∈xs,x∈ys)->xs.length<=ys.length
 | [],_,_,_=>QN _
 | x::xs,ys,nd,h=>by
  rw[xg]at nd;have hx:x∈ys:=h x QZ;have:=pN xs (ys.erase x) nd.2 λy hy=>(List.mem_erase_of_ne (λz:y=x=>nd.1 (by rw[<-z];exact hy))).mpr (h y (Qv _ hy));rw[List.length_erase_of_mem hx]at this;have:0<ys.length:=List.length_pos_of_mem hx;simp only[QM];omega
end
end Bf
namespace L2
open PySem PySem.Spec PyProof.Rows
section
variable {X:Cx}
def t_:V->List V->Hp->VK->Prop:=λx vs H Q=>∃(l:Addr) (xs:List Str) (y:Str) (j:Nat),x=.ref l/\vs=[.str y]/\H l=some (.lst (xs.map V.str))/\xs[j]?=some y/\(∀m,m<j->xs[m]?≠some y)/\xs.length<=100000/\Q (.int j) H
theorem k9:MtR X "list.index" t_:=by
 intro pins s σ H x vs v us Q I rx rv h;obtain⟨l,xs,y,j,rfl,rfl,hH,hj,hno,hz,q⟩:=h;cases rx;obtain⟨u,rfl,t,rfl⟩:=dB rv;obtain⟨z,its,n,r,hl,e⟩:=I.lstM hH;have sa:=ff r;have hlen:its.length=xs.length:=by rw[<-hl,Qd]
 have hjl:j<xs.length:=(Qc.mp hj).1
 have at':∀m (hm:m<its.toArray.size),isStrOf y its.toArray[m]=(xs[m]'(by rw[Qf]at hm;exact on hlen hm)==y):=λm hm=>by
  rw[Qf]at hm;obtain⟨u,hu,ru⟩:=r.get (i:=m) (show (xs.map V.str)[m]?=some (.str (xs[m]'(by exact on hlen hm))) from by rw[Qk,Qe (by exact on hlen hm)];rfl);obtain⟨tu,eu⟩:=ru;subst eu
  have e2:its.toArray[m]=.str (xs[m]'(by exact on hlen hm)) tu:=by
   have:=(Qc.mp hu).2;simpa using this
  rw[e2];rfl
 refine call_meets F.slot_list_index ⟨_,e,rfl⟩ F.entry_list_index (F.args_list_index_2 _ _) (MeetsSeq.list_index l its.toArray n (.str y t) (isStrOf y) (λv hv=>eq_isStrOf y t sa v (by simpa using hv)) j (by rw[Qf];exact qa hlen hjl) (by omega) ?_ (λm hm hmj=>?_)) ⟨e,?_⟩
 ·rw[at' j (by rw[Qf];exact qa hlen hjl)];have:=(Qc.mp hj).2;rw[this];simp
 ·rw[at' m hm];rw[Qf]at hm;have h1:=hno m hmj;rw[Qe (by exact on hlen hm)]at h1;simpa using h1
 exact⟨.int j,H,I.tok _,⟨_,rfl⟩,q⟩
end
section
variable {X:Cx}
end
section
variable {X:Cx}
def nh (T:Addr):R2:=λx y H Q=>x=.ref T/\((y=.str "0" /\ Q (.str "1") H)\/(y=.str "1" /\ Q (.str "0") H))
theorem sq {T:Addr} (hT:gR X.K T [("0", .flat (.str "1")),("1", .flat (.str "0"))]):IxR X (nh T):=by
 intro value slice pins s σ H x y v u Q I rx ry h hs;obtain⟨e1,h⟩:=h;subst e1;cases rx;have here:KTD.Here X.base s.heap T [("0", .flat (.str "1")),("1", .flat (.str "0"))]:=⟨KTD.text_of_look (get:=λa=>X.K.lookup a) (λa o e=>I.mod.kin a o e) hT,I.bk⟩;rcases h with⟨e,q⟩|⟨e,q⟩
 ·subst e;obtain⟨t,e⟩:=ry;subst e;refine KTD.item_textA here (by rfl) (by decide +kernel) ?_ hs;have e:decide (("0" : Str) = "0")=true:=by decide +kernel
  simp only[KTD.EachL,e,if_true];exact λt=>⟨.str "1", H,I.tok _,⟨_,rfl⟩,q⟩
 subst e;obtain⟨t,e⟩:=ry;subst e;refine KTD.item_textA here (by rfl) (by decide +kernel) ?_ hs;have e:decide (("1" : Str) = "0")=false:=by decide +kernel
 simp only[KTD.EachL,e,Qx,xa];exact λ_ t=>⟨.str "0", H,I.tok _,⟨_,rfl⟩,q⟩
end
section
variable {X:Cx} {scope:Scope} {tgs:List Str} {cap:List (Str × Nat)}
theorem u4 {j:Nat} {x:Str} {pos' spos:Pos} {elt tg iter:Expr} {ifs:List Expr} {pos:Pos} {wi:TI} {g:TG} {tt:TT} {te:TE} (hN:X.N.Nodup) (hj:X.N[j]?=some x) (hx:Loc X.env.scope x) (hc:X.calm=true) (B:BlockOk X scope tgs cap) (hi:PI X tg iter wi)
  (hg:∀C s H fp,PG (X.block (tgs++cap.map (·.1)) scope C s H fp) tg g) (ht:∀C s H fp,sK (X.block (tgs++cap.map (·.1)) scope C s H fp) ifs tt) (he:∀C s H fp,PE (X.block (tgs++cap.map (·.1)) scope C s H fp) elt te)
  (hs:∀x,foldedSetIterable iter X.env x=pure x:=by intro _;rfl) (hsw:swapsWith (.ListComp elt [⟨tg,iter,ifs,0⟩] scope pos) (some (.Name x pos')) spos.line X.env=pure true:=by rfl)
  (hf:X.fn x=true\/X.env.scope.names.lookup x=some .local:=by walk_at "z"):PS X (.Assign [.Name x pos'] (.ListComp elt [⟨tg,iter,ifs,0⟩] scope pos) spos) (pj (jj wi g tt te (bF tgs cap)) (ee j)):=by
 intro pins s σ H D I h;rw[exec_Assign_Name_used _ _ _ _ hsw];refine Qa (wpAny_standAt (Qa ?_));show wpAny _ _ (comprehension _ _ _ _ _ _ _ _ >>= _) _ _ _;refine Qa (thn (Q:=λ_ s'=>SP X pins D .next s') ?_ λ_ s' q=>Qg (Qg q));refine wpAny_comprehension_free (use:=some (assign (.Name x pos') X.env)) rfl hs (iP (B.cellAt I.ok)) B.kind B.locs (thn (hi pins s σ H _ I h) λv s1 h1=>thn h1 λitv s2 h2=>?_);obtain⟨it,fp,tn,J,H2,e,I2,T,st2,f2,q⟩:=h2;subst e;have lt2:∀b∈fp,b<s2.heap.objs.size:=λb hb=>let ⟨o,e,_⟩:=T.obj _ _ st2 b hb;Qj e;have hD:H2 s2.heap.objs.size=none:=I2.hok.fresh (Qi _);obtain⟨W,⟨m0,w0⟩,turn⟩:=q s2.heap.objs.size hD;refine wpAny_newObj_type ?_;have I3:Inv X pins σ (upd H2 s2.heap.objs.size (.lst [])) { s2 with heap:=s2.heap.push { cls:=.type "list", dict:=none,data:=.seq ([]:List Value).toArray } }:=I2.lnew (t':=s2.toks) (ys:=[]) (its:=[]) .nil (QN _);have st3:tn 0 (s2.heap.push { cls:=.type "list", dict:=none,data:=.seq ([]:List Value).toArray }):=T.keep _ _ _ st2 λb _ o e=>Qb _ e;have nD:∀b∈fp,b≠s2.heap.objs.size:=λb hb=>Qp (lt2 b hb);have f3:∀b∈fp,fu X pins (upd H2 s2.heap.objs.size (.lst [])) b:=λb hb=>⟨by rw[ao (nD b hb)];exact(f2 b hb).1,(f2 b hb).2⟩;generalize hs3:({ s2 with heap:=s2.heap.push { cls:=.type "list", dict:=none,data:=.seq ([]:List Value).toArray } }:Shared)=s3 at I3 st3 ⊢;have st3':tn 0 s3.heap:=by rw[<-hs3];exact st3
 have lt3:∀b∈fp,b<s3.heap.objs.size:=λb hb=>let ⟨o,e,_⟩:=T.obj _ _ st3' b hb;Qj e;generalize hH3:upd H2 s2.heap.objs.size (.lst [])=H3 at I3 f3 w0;generalize s2.heap.objs.size=DD at *;refine wpAny_newFunctionEnv B.noc (by intro y hy;simp at hy) (λh1 hns hsb=>?_) B.kind;have old:∀b o,s3.heap.get? b=some o->h1.get? b=some o:=λb o e=>hsb.extBut b o (Qp (Qj e)) (Qb _ e);have I4:=Inv.enter (tk:=s3.toks+([]:List (Str × Value)).length) (h1:=h1) B I3 f3 lt3 hns old;have st4:tn 0 h1:=T.keep _ _ _ st3' λb _ o e=>old b o e
 have fpB:∀{H':Hp},(∀b∈fp,H' b=none)->∀b∈fp,fu (X.block (tgs++cap.map (·.1)) scope s3.heap.objs.size s3 H3 fp) [] H' b:=λ{H'} hn b hb =>
  ⟨hn b hb,Qp (lt3 b hb),I4.ok.exfs b hb,.inl hb,λx c e=>(I4.ok.exf b hb).2 x c e,λp hp=>absurd (show p∈([]:List (Addr × Obj)) from hp) (by simp)⟩
 have loop:codeAny (model X.prog X.w) X.A (.compLoop (.ListComp elt [⟨tg,iter,ifs,0⟩] scope pos) 0 (.ref it) (.ref DD) (compEnvC scope (cr X.env scope.names []) s3.heap.objs.size X.env))
   (compPost (model X.prog X.w) X.A X.xe (some (assign (.Name x pos') X.env)) (λ_ s'=>SP X pins D .next s') (.ref DD) s3.heap.objs.size) { s3 with heap:=h1,toks:=s3.toks+([]:List (Str × Value)).length }:=by
  refine fR (λn s'=>∃i H' ys,Inv (X.block (tgs++cap.map (·.1)) scope s3.heap.objs.size s3 H3 fp) [] (bF tgs cap σ) H' s'/\tn i s'.heap/\(∀b∈fp,H' b=none)/\W i n H' ys) ?_ m0 ⟨0,H3,[],I4,st4,λb hb=>(f3 b hb).1,w0⟩;rintro n s5 ⟨i,H5,ys,I5,st5,fr5,w5⟩;obtain⟨hl,ht5⟩:=turn i n H5 ys w5;rcases ht5 with⟨stop,qd⟩|⟨go,step⟩
  ·refine thn (T.done (X.block (tgs++cap.map (·.1)) scope s3.heap.objs.size s3 H3 fp) rfl rfl rfl hc i [] s5 _ H5 _ I5 (fpB fr5) st5 stop) λr s6 ⟨hr,I6⟩=>?_;subst hr;obtain⟨m6,n6,_⟩:=I6.loc;have IO:Inv X pins σ H5 s6:=Inv.leave (h2:=s6.heap) I3 f3 I6 ⟨rfl,λ_ _=>rfl⟩;have fC:fu X pins H5 s3.heap.objs.size:=⟨I6.free,(I3.fpOk (Qi _) (I3.hok.fresh (Qi _))).2⟩;obtain⟨f0,f1,f2',f3',f4,f5⟩:=fC;refine wpAny_assign_Name (jm IO hN hj hx (show aO (.ref DD) (.ref DD) from rfl) (λs7 I7 ⟨a,sb,ha⟩=>?_) hf)
   have na:s3.heap.objs.size≠a:=by
    rcases ha with z|z
    ·rw[z];exact f1
    exact λy=>f4 x a z y.symm
   obtain⟨o6,es6,ep6,ho6,r6⟩:=n6;refine⟨m6,⟨o6,es6,ep6,(sb.2 _ na).trans ho6,r6⟩,λh' hs'=>⟨_,H5,I7.turned (t':=s7.toks) (λb o hb q=>(hs'.2 b hb).trans q) f0 f1 f3' f4 f5,qd⟩⟩
  refine thn (T.item (X.block (tgs++cap.map (·.1)) scope s3.heap.objs.size s3 H3 fp) rfl rfl rfl hc i [] s5 _ H5 _ I5 (fpB fr5) st5 go) λr s6 ⟨u,hr,h6⟩=>?_;subst hr;refine thn h6 λ_ s7 ⟨x,H7,I7,r7,y7,st7,fr7⟩=>?_;have I7':=I7.pinned (fpB fr7) (T.obj _ _ st7)
  have again:∀{σ8:St} {H8:Hp} {s8:Shared} {ys8:List V},Inv (X.block (tgs++cap.map (·.1)) scope s3.heap.objs.size s3 H3 fp) ([]++gd fp s7.heap) σ8 H8 s8->wk (bF tgs cap σ) σ8->(∃m',m'<n/\W (i+1) m' H8 ys8) ->
    ∃m,m<n/\∃i H' ys,Inv (X.block (tgs++cap.map (·.1)) scope s3.heap.objs.size s3 H3 fp) [] (bF tgs cap σ) H' s8/\tn i s8.heap/\(∀b∈fp,H' b=none)/\W i m H' ys:=λ{σ8 H8 s8 ys8} I8 k8 ⟨m',hm,w8⟩=>by
   refine⟨m',hm,i+1,H8,ys8,I8.unpinned.weak (jG k8) (jH k8),T.keep _ _ _ st7 λb hb o e=>(I8.pin (b,o) (Qw _ (Qw _ (cw hb e)))).1,λb hb=>?_,w8⟩;obtain⟨o,e,d⟩:=T.obj _ _ st7 b hb;exact(I8.pin (b,o) (Qw _ (Qw _ (cw hb e)))).2.1
  refine thn (hg _ _ _ _ _ s7 _ H7 x u _ I7' r7 (step x H7 y7)) λ_ s8 ⟨σ8,H8,I8,k8,q8⟩=>?_;refine thn (ht _ _ _ _ _ s8 σ8 H8 _ I8 q8) λok s9 ⟨H9,I9,q9⟩=>?_
  cases ok with
  | false =>
   rw[Qz Qn]at q9 ⊢;exact again I9 k8 q9
  | true =>
  rw[QC rfl]at q9 ⊢;refine thn (he _ _ _ _ _ s9 σ8 H9 _ I9 q9) λy sA ⟨yv,HA,IA,rA,hA,zA,qA⟩=>?_;exact thn (bZ _ sA σ8 HA (.ref DD) [yv] (.ref DD) [y] (λv H'=>v=.non/\∃m',m'<n/\W (i+1) m' H' (ys++[yv])) IA rfl (.cons rA .nil) ⟨DD,ys,yv,rfl,rfl,hA,zA,rfl,qA⟩) λ_ sB ⟨_,HB,IB,_,_,qB⟩=>again IB k8 qB
 exact codeAny_compStart_list loop (T.self _ 0 _ _ _ st4 loop)
end
end L2
namespace L2
open PySem PySem.Spec PyProof.Rows
open AutoSeq1 (wpAny_loadPart')
section
variable {P:Program} {w:World} {A:Around} {E:Value->Shared->Prop} {s:Shared}
theorem oS (l:Addr) (c:Int) (tc:Tok) (hc:Builtin.SmallTypes.fitsIndex c=true) (its:Array Value) (m:Nat) (dd:Option Addr) (ss:Array (Option Value)) :
  Meets (Builtin.«enumerate.__new__» ⟨[.type "enumerate", .ref l],[("start", .int c tc)]⟩) (λ_ R t=>t.heap.get? l=some { cls:=.type "list", dict:=dd,data:=.seq its m,slots:=ss } /\
   R (.ok (.ret (.ref (t.heap.push { cls:=.type "list_iterator", data:=.fields #[.ref l,.int 0 0] }).objs.size)))
    { t with heap:=(t.heap.push { cls:=.type "list_iterator", data:=.fields #[.ref l,.int 0 0] }).push { cls:=.type "enumerate", data:=.fields #[.none,.bool false,.ref t.heap.objs.size,rawInt c,.none,.none] } }):=by
 refine .of_wp λP w A R t ht=>?_;obtain⟨hp,g,d,tk,os⟩:=t;obtain⟨hl,h⟩:=ht;have sub:=sub_enumerate;have hL:Heap.IsList (Shared.heap ⟨hp,g,d,tk,os⟩) l its:=⟨_,hl,rfl,m,rfl⟩
 wp_walk using wpAny_loadPart' hl
 refine wpAny_stack_any λst=>Qg ?_;have nf:(!Builtin.SmallTypes.fitsIndex c)=false:=by rw[hc];rfl
 split
 rotate_left
 ·(wp_walk using wpAny_loadPart' hl,wpAny_pyIter_list hL);exact⟨_,rfl,h⟩
 rename_i k _ _ _ _ _
 cases (k==Value.type "enumerate") <;> ((wp_walk using wpAny_loadPart' hl,wpAny_pyIter_list hL);exact⟨_,rfl,h⟩)
theorem nP (a b:Value):checkTypeCall "enumerate" ⟨[a],[("start", b)]⟩=pure ():=by kernel_rfl
theorem qz (a b:Value):checkBuiltinCall "enumerate.__new__" ⟨[.type "enumerate", a],[("start", b)]⟩=pure ():=by kernel_rfl
theorem vU (a b c:Value):argsOk "object.__init__" ⟨[a,b],[("start", c)]⟩:=by
 show Bind.checkArgs _ _ _=_
 kernel_rfl
theorem qw {T nid:String} {o a b:Value} (hl:typeLookup (.type T) "__init__" = pure (some (.builtin "object.__init__"))) (hm:Bind.madeBy (.type T)=pure (some nid)) (ne:(some nid != some "object.__new__")=true) :
  Meets (Builtin.«object.__init__» ⟨[o,a],[("start", b)]⟩) (λ_ R t=>t.TypeIs o T/\R (.ok (.ret .none)) t):=by
 refine .of_wp λP w A R t ⟨hT,hq⟩=>?_
 repeat (any_goals (first|assumption|wp_step))
 exact⟨_,rfl,hq⟩
end
end L2
namespace L2
open PySem PySem.Spec PyProof.Rows
variable {P:Program} {w:World} {A:Around} {E:Value->Shared->Prop} {s:Shared}
section
theorem mL {l:Addr} {c:Int} {tc:Tok} {its:Array Value} {Q:Value->Shared->Prop} (hc:Builtin.SmallTypes.fitsIndex c=true) (hL:s.heap.IsList l its)
  (h:∀h',IsEnum h' (s.heap.objs.size+1) s.heap.objs.size c .none->h'.IsListIter s.heap.objs.size l 0->(∀b o,s.heap.get? b=some o->h'.get? b=some o)->Q (.ref (s.heap.objs.size+1)) { s with heap:=h' }) :
  wpAny (model P w) A (call (.type "enumerate") [.ref l] [("start", .int c tc)]) Q E s:=by
 obtain⟨⟨k,dd,dt,ss⟩,hl,hk,m,hd⟩:=hL;have hk:k=.type "list" := hk;have hd:dt=.seq its m:=hd;subst hk hd;have ft:=F.called_enumerate;obtain⟨c0,tl,hmro⟩:=ft.mro;have hmade:=ft.made;have hsub:=ft.sub;have h1:=ft.notType;have h2:=ft.canCreate;have hct:=nP (.ref l) (.int c tc);refine wpAny_call (codeAny_of_tree ?_);show wpAny _ _ (callAny (.type "enumerate") _) _ _ _;refine Qg ⟨Code.quiet_builtin _ (by decide +kernel),codeAny_builtin F.entry_type_call ?_⟩;rw[Around.under_plain (weight_type_call_type "enumerate" [.ref l] [("start", .int c tc)]) (units_type_call_type "enumerate" [.ref l] [("start", .int c tc)])]
 repeat (any_goals (first|assumption|wp_step))
 have hcn:=qz (.ref l) (.int c tc);refine codeAny_mono (codeAny_call_builtin ft.plain F.entry_enumerate_new (wpAny_of_eq hcn ((oS l c tc hc its m dd ss) P w A.in1 (wants (λobj s₁=>s₁.TypeIs obj "enumerate" /\ Q obj s₁) E) s ⟨hl,?_⟩))) λr s₁ hr=>?_
 ·have hz:(s.heap.push { cls:=.type "list_iterator", data:=.fields #[.ref l,.int 0 0] }).objs.size=s.heap.objs.size+1:=Q0 ..;show _/\_;rw[hz];have he:=Ql (s.heap.push { cls:=.type "list_iterator", data:=.fields #[.ref l,.int 0 0] }) (o:={ cls:=.type "enumerate", data:=.fields #[.none,.bool false,.ref s.heap.objs.size,rawInt c,.none,.none] }) rfl;rw[hz]at he;exact⟨⟨_,he,rfl⟩,h _ he ⟨_,Qb _ (Ql _ rfl),rfl,rfl⟩ λb o x=>Qb _ (Qb _ x)⟩
 cases r with
 | error e=>exact hr
 | ok fl =>
 cases fl with
 | ret obj =>
  obtain⟨hT,hq⟩:=hr;have hli:=ft.init.lookup;have hbi:=ft.init.bind obj
  repeat (any_goals (first|assumption|wp_step))
  refine codeAny_mono (codeAny_call_builtin ft.init.plain F.entry_object_init (ft.init.check _ _ _ _ _ _ _ _ hT (vU obj _ _) ((qw ft.init.lookup ft.made (by decide)) P w A.in1 (wants (λr s₂=>r=.none/\Q obj s₂) E) s₁ ⟨hT,rfl,hq⟩))) λr₂ s₂ hr₂=>?_
  cases r₂ with
  | error e=>exact hr₂
  | ok fl₂ =>
  cases fl₂ with
  | ret r=>obtain⟨rfl,hq⟩:=hr₂;repeat (any_goals (first|assumption|wp_step))
  | _=>exact hr₂.elim
 | _=>exact hr.elim
end
section
variable {x old:Value} {its:Array Value} {e it l:Addr}
theorem mG {i:Nat} {c:Int} {Q:Value->Shared->Prop} (he:IsEnum s.heap e it c old) (hit:s.heap.IsListIter it l i) (hl:s.heap.IsList l its) (hx:its[i]?=some x) (hne:e≠it)
  (hQ:∀h',IsEnumOut h' e it (c+1) x s.heap.objs.size->h'.IsListIter it l (i+1)->h'.get? s.heap.objs.size=some { cls:=.type "tuple", data:=.seq #[.int c s.toks,x] } ->
   (∀b o,b≠e->b≠it->s.heap.get? b=some o->h'.get? b=some o)->Q (.ref s.heap.objs.size) { s with heap:=h',toks:=s.toks+1 }) :
  wpAny (model P w) A (Builtin.«enumerate.__next__» ⟨[.ref e],[]⟩) (λfin s'=>∃v,fin=.done (.ret v)/\Q v s') E s:=by
 obtain⟨hp,g,d,tk,os⟩:=s;show wpAny _ _ (field (.ref e) 2 >>= _) _ _ _;refine Qa (QP he rfl (x:=.ref it) rfl (Qa (wpAny_nextOf_list_item hit hl hx λk1 i1 s1=>?_)));have s1:Heap.SameBut it hp k1:=s1;have e1:IsEnum k1 e it c old:=(s1.2 e hne).trans he;show wpAny _ _ (field (.ref e) 3 >>= _) _ _ ⟨k1,g,d,tk,os⟩;refine Qa (QP e1 rfl (x:=rawInt c) rfl ?_);show wpAny _ _ (field (.ref e) 4 >>= _) _ _ ⟨k1,g,d,tk,os⟩;refine Qa (QP e1 rfl (x:=.none) rfl ?_);show wpAny _ _ (mkInt c >>= _) _ _ ⟨k1,g,d,tk,os⟩;refine Qa (wpAny_mkInt ?_);show wpAny _ _ (setField (.ref e) 3 (rawInt (c+1)) >>= _) _ _ ⟨k1,g,d,tk+1,os⟩;refine Qa (QT e1 (by simp) λk2 e2 s2=>?_);have s2:Heap.SameBut e k1 k2:=s2;have e2:IsEnum k2 e it (c+1) old:=e2;show wpAny _ _ (setField (.ref e) 4 .none >>= _) _ _ ⟨k2,g,d,tk+1,os⟩;refine Qa (QT e2 (by simp) λk3 e3 s3=>?_);have s3:Heap.SameBut e k2 k3:=s3;have e3:IsEnum k3 e it (c+1) old:=e3;show wpAny _ _ (newTuple [.int c tk,x] >>= _) _ _ ⟨k3,g,d,tk+1,os⟩;refine Qa (wpAny_newTuple ?_);have e4:IsEnum (k3.push { cls:=.type "tuple", data:=.seq #[.int c tk,x] }) e it (c+1) old:=Qb _ e3;generalize hh:k3.push { cls:=.type "tuple", data:=.seq #[.int c tk,x] }=k4 at e4;have sz:k3.objs.size=hp.objs.size:=by rw[s3.1,s2.1,s1.1]
 have el:e<hp.objs.size:=Qj he;have t4:k4.get? hp.objs.size=some { cls:=.type "tuple", data:=.seq #[.int c tk,x] }:=by rw[<-hh,<-sz];exact Ql _ rfl
 have kp:∀b o,b≠e->b≠it->hp.get? b=some o->k4.get? b=some o:=λb o n1 n2 q=>by rw[<-hh];exact Qb _ (s3.extBut b o n1 (s2.extBut b o n1 (s1.extBut b o n2 q)))
 have i4:k4.IsListIter it l (i+1):=by
  obtain⟨o,ho,r⟩:=(i1.extBut s2.extBut (Ne.symm hne)).extBut s3.extBut (Ne.symm hne);exact⟨o,by rw[<-hh];exact Qb _ ho,r⟩
 show wpAny _ _ (Builtin.SmallTypes.ownedTupleIsFree (.ref e) >>= _) _ _ ⟨k4,g,d,tk+1,os⟩;rw[sz];refine Qa ?_;unfold Builtin.SmallTypes.ownedTupleIsFree;refine Qa (QP e4 rfl (x:=.none) rfl (Qg ?_));simp only[if_true];refine Qa (wpAny_rule (Qa (QP e4 rfl (x:=old) rfl (Qa (QT e4 (by simp) λk5 e5 s5=>?_)))));have s5:Heap.SameBut e k4 k5:=s5;have e5:IsEnum k5 e it (c+1) x:=e5;show wpAny _ _ (Builtin.SmallTypes.ownedTupleHandOut (.ref e) (.ref hp.objs.size) >>= _) _ _ ⟨k5,g,d,tk+1,os⟩;refine Qa ?_;unfold Builtin.SmallTypes.ownedTupleHandOut;refine Qa (QT e5 (by simp) λk6 e6 s6=>?_);have s6:Heap.SameBut e k5 k6:=s6;have e6:IsEnumOut k6 e it (c+1) x hp.objs.size:=e6;refine QT e6 (by simp) λk7 e7 s7=>?_;have s7:Heap.SameBut e k6 k7:=s7;have e7:IsEnumOut k7 e it (c+1) x hp.objs.size:=e7;have far:∀b o,b≠e->k4.get? b=some o->k7.get? b=some o:=λb o n q=>s7.extBut b o n (s6.extBut b o n (s5.extBut b o n q));exact Qa (wpAny_letGo (Qg ⟨_,rfl,hQ k7 e7 (((i4.extBut s5.extBut (Ne.symm hne)).extBut s6.extBut (Ne.symm hne)).extBut s7.extBut (Ne.symm hne)) (far _ _ (Nat.ne_of_gt el) t4) λb o n1 n2 q=>far b o n1 (kp b o n1 n2 q)⟩))
variable {Q:Option Value->Shared->Prop}
theorem j3 {i:Nat} {c:Int} (he:IsEnum s.heap e it c old) (hit:s.heap.IsListIter it l i) (hl:s.heap.IsList l its) (hx:its[i]?=some x) (hne:e≠it)
  (hQ:∀h',IsEnumOut h' e it (c+1) x s.heap.objs.size->h'.IsListIter it l (i+1)->h'.get? s.heap.objs.size=some { cls:=.type "tuple", data:=.seq #[.int c s.toks,x] } ->
   (∀b o,b≠e->b≠it->s.heap.get? b=some o->h'.get? b=some o)->Q (some (.ref s.heap.objs.size)) { s with heap:=h',toks:=s.toks+1 }):wpAny (model P w) A (pyNext (.ref e)) Q E s:=by
 have ty:s.TypeIs (.ref e) "enumerate" := ⟨_,he,rfl⟩;unfold pyNext;refine Qa (wpAny_attempt (xi (name:=Str.ofString "__next__") ty F.slot_enumerate_next (wpAny_call_entry F.slot_enumerate_next ty F.entry_enumerate_next (mG he hit hl hx hne λh' a b c k=>?_) (F.args_enumerate_next_1 _))));exact Qg (hQ h' a b c k)
theorem gb {i:Nat} {c:Int} (hh:A.handled=none) (he:IsEnum s.heap e it c old) (hit:s.heap.IsListIter it l i) (hl:s.heap.IsList l its) (hx:its[i]?=none)
  (hQ:∀h',Heap.ExtBut it s.heap h'->Q none { s with heap:=h' }):wpAny (model P w) A (pyNext (.ref e)) Q E s:=by
 have ty:s.TypeIs (.ref e) "enumerate" := ⟨_,he,rfl⟩;unfold pyNext;refine Qa (wpAny_attempt (xi (name:=Str.ofString "__next__") ty F.slot_enumerate_next (wpAny_call_entry F.slot_enumerate_next ty F.entry_enumerate_next ?_ (F.args_enumerate_next_1 _))));show wpAny _ _ (field (.ref e) 2 >>= _) _ _ _;refine Qa (QP he rfl (x:=.ref it) rfl (Qa (wpAny_nextOf_list_end hh hit hl hx λh' y hx' ⟨o,ho,ko⟩=>?_)));exact Qa (wpAny_isInstance (T := "StopIteration") (b:=true) ⟨o,ho,ko⟩ isSubtype_stop (Qg (hQ _ hx')))
end
noncomputable def rj (K:PySem.W.Frag) (a:Addr) (n:Int):It :=
 ⟨λi H=>∃xs x,SqL K H a xs/\xs[i]?=some x,λi H x H'=>∃T v,H T=none/\x=.ref T/\H'=upd H T (.tup [.int (n+(i:Nat)),v])/\∀xs,SqL K H a xs->xs[i]?=some v,λi H=>∃xs,SqL K H a xs/\xs.length<=i⟩
variable {K:PySem.W.Frag}
theorem lW {P:Program} {w:World} {elts:List Expr} {k:Nat} {pos:Pos} (a e it:Addr) (n:Int) (hne:e≠it) :
  Turn P w K (.Tuple elts k pos) (rj K a n) [e,it] e (λi h=>(∃old,IsEnum h e it (n+(i:Nat)) old)/\h.IsListIter it a i) where
 mem:=by simp
 obj:=λi h st b hb=>by
  obtain⟨⟨old,he⟩,o,ho,hc,hd⟩:=st;have z:b=e\/b=it:=by simpa using hb
  rcases z with z|z
  ·subst z
   exact⟨_,he,λv q=>by
    have q':Data.fields _=Data.cell v:=q
    cases q'⟩
  subst z;exact⟨o,ho,λv q=>by rw[hd]at q;cases q⟩
 keep:=λi h h' st kk=>by
  obtain⟨⟨old,he⟩,hl⟩:=st;exact⟨⟨old,kk e (by simp) _ he⟩,hl.at λo q=>kk it (by simp) o q⟩
 item:=by
  intro X hP hw hK hc i pins s σ H E I hf st hg;subst hP hw hK;obtain⟨xs,x,hq,hx⟩:=hg;obtain⟨its,rv,p,hz⟩:=I.list hq;obtain⟨u,hu,ru⟩:=rv.get hx;obtain⟨⟨old,he⟩,hl⟩:=st;have f1:=hf e (by simp);have f2:=hf it (by simp);refine j3 he hl p.isList (x:=u) (by simpa using hu) hne λh1 a1 a2 a3 a5=>⟨_,rfl,?_⟩;refine wpAny_letOwnedTupleGo_enum a1 λh2 b1 b2=>?_
  have nTe:s.heap.objs.size≠e:=λz=>by
   have q:=Qj (show s.heap.get? e=some _ from he);rw[<-z]at q;exact xl _ q
  have keep2:∀b o,b≠e->b≠it->s.heap.get? b=some o->h2.get? b=some o:=λb o n1 n2 q=>b2.extBut b o n1 (a5 b o n1 n2 q);have tup2:h2.get? s.heap.objs.size=some { cls:=.type "tuple", data:=.seq #[.int (n+(i:Nat)) s.toks,u] }:=b2.extBut _ _ nTe a3
  have I2:Inv X pins σ (upd H s.heap.objs.size (.tup [.int (n+(i:Nat)),x])) { s with heap:=h2,toks:=s.toks+1 } :=
   I.turned2 keep2 f1 f2 (Qi _) ⟨(by show 2<=sizeLine;decide),[.int (n+(i:Nat)) s.toks,u],.cons ⟨_,rfl⟩ (.cons ru .nil),⟨_,tup2,rfl,_,rfl⟩⟩
  refine⟨.ref s.heap.objs.size,_,I2,rfl,⟨s.heap.objs.size,x,I.hok.fresh (Qi _),rfl,rfl,λys hy=>by rw[I.list_inj hy hq];exact hx⟩,⟨⟨u,?_⟩,(a2.extBut b2.extBut (Ne.symm hne))⟩,λb hb=>?_⟩
  ·have q:IsEnum h2 e it (n+(i:Nat)+1) u:=b1;have c:n+(((i+1:Nat):Nat):Int)=n+(i:Nat)+1:=by omega
   rw[c];exact q
  have z:b=e\/b=it:=by simpa using hb
  have nT:b≠s.heap.objs.size:=by
   rcases z with z|z
   ·rw[z];exact Ne.symm nTe
   rw[z];obtain⟨o,ho,_⟩:=hl;exact Qp (Qj ho)
  rw[ao nT];exact(hf b hb).1
 done:=by
  intro X hP hw hK hc i pins s σ H E I hf st hg;subst hP hw hK;obtain⟨xs,hq,hx⟩:=hg;obtain⟨its,rv,p,hz⟩:=I.list hq;obtain⟨⟨old,he⟩,hl⟩:=st;obtain⟨f0,f1,f2,f3,f4,f5⟩:=hf it (by simp);have hlen:=rv.length;exact gb (I.ok.hd hc) he hl p.isList (by simp;exact om4 hx hlen) λh' eb=>⟨rfl,I.turned (t':=s.toks) (λb o hb q=>eb b o hb q) f0 f1 f3 f4 f5⟩
 self:=λ_ _ _ _ _ st h=>by
  obtain⟨⟨old,he⟩,_⟩:=st;exact wpAny_pyIter_enum he h
section
variable {X:Cx} {elts:List Expr} {k:Nat} {tpos:Pos}
def uE (K:PySem.W.Frag) (ta tk:TA):TI:=λσ H R=>ta σ H λvs H1=>tk σ H1 λzs H2=>∃a n,vs=[.ref a]/\zs=[.int n]/\(0<=n/\n<1000)/\(∃xs,SqL K H2 a xs)/\R (rj K a n) H2
variable {E Q:Value->Shared->Prop}
theorem iS {M:Model} {env:Env} {pos:Pos} {T:String} {e:Expr} {kws:List Keyword} {A:Around} {s:Shared}
  (h:wpAny M A (spliced (backTo pos (starEach [e] env))) (λvs s1=>wpAny M A (evalAll ((backToKw pos (keywordEach kws env)).map (·.2))) (λzs s2=>wpAny M A (call (.type T) vs (((backToKw pos (keywordEach kws env)).filterMap (·.1)).zip zs)) Q E s2) E s1) E s)
  (he:backTo pos (starEach [e] env)=(false,eval e env)::backTo pos (starEach [] env):=by rfl) (hp:(backTo pos (starEach [e] env)).any (·.1)=false:=by rfl) (ha:(backToKw pos (keywordEach kws env)).all (·.1.isSome)=true:=by rfl) (hk:(backToKw pos (keywordEach kws env)).any (·.1.isNone)=false:=by rfl) :
  wpAny M A (callWith pos (.type T) [] (backTo pos (starEach [e] env)) (backToKw pos (keywordEach kws env))) Q E s:=by
 unfold callWith;refine Qa (QQ (Q4 (show wpAny M A (evalArgs _ true _ _) (λa s1=>wpAny M A (call (.type T) a.pos a.kw) Q E s1) E s from ?_) (λa s1 h1=>Qa (wpAny_standAt ?_)) λ_ _ x=>x))
 ·rw[he]at h ⊢;exact evalArgs_kwB ha h
 simp only[hp,hk,Bool.or_false];refine Qa (Qg ?_);exact Qa (Q4 h1 (λr s2 hr=>Qa (QQ (wpAny_point (Qg hr)))) λ_ _ x=>x)
theorem pQ {a b:Expr} {ta tk:TA} {p pos kp:Pos} (hg:Gl X "enumerate") (hm:X.mg "enumerate" = none) (ha:PA X [a] ta) (hb:PK X [⟨some "start", b,kp⟩] tk) (he:∀pos,backTo pos (starEach [a] X.env)=(false,eval a X.env)::backTo pos (starEach [] X.env):=by intro pos;rfl) :
  PI X (.Tuple elts k tpos) (.Call (.Name "enumerate" p) [a] [⟨some "start", b,kp⟩] pos) (uE X.K ta tk):=by
 intro pins s σ H R I h;refine wpAny_Call_Name_kw (cK I hg hm boot_enumerate ?_);refine iS (thn (ha pos pins s σ H _ I h) λus s1 ⟨vs,H1,I1,r1,q1⟩=>thn (hb pos pins s1 σ H1 _ I1 q1) λws s2 ⟨zs,H2,I2,rz,q2⟩=>?_) (he pos) (by rw[he pos];rfl);obtain⟨l,n,e1,e2,⟨n0,n1⟩,⟨xs,hq⟩,q⟩:=q2;subst e1 e2
 cases r1 with
 | cons r rr =>
 cases rr;cases r;obtain⟨u,e,ru⟩:=dB rz;subst e;obtain⟨tc,e⟩:=ru;subst e;obtain⟨its,rv,pl,hz⟩:=I2.list hq;refine mL (c:=n) (tc:=tc) (by unfold Builtin.SmallTypes.fitsIndex;simp;omega) pl.isList λh' b1 b2 b4=>?_;refine wpAny_pyIter_enum b1 ?_;have I3:Inv X pins σ H2 { s2 with heap:=h' }:=I2.kept (t':=s2.toks) b4;refine⟨s2.heap.objs.size+1,[s2.heap.objs.size+1,s2.heap.objs.size],_,_,H2,rfl,I3,lW l (s2.heap.objs.size+1) s2.heap.objs.size n (by show @Ne Nat _ _;exact om5),⟨⟨_,by rw[show n+((0:Nat):Int)=n from by omega];exact b1⟩,b2⟩,λb hb=>?_,q⟩;have z:b=s2.heap.objs.size+1\/b=s2.heap.objs.size:=by simpa using hb
 have hle:s2.heap.objs.size<=b:=by
  rcases z with z|z
  ·rw[z];exact Nat.le_succ _
  rw[z];exact Qi _
 exact I2.fpOk hle (I2.hok.fresh hle)
end
theorem oQ {a:Addr} {n:Int} {xs:List V} {g:TG} {tb:TS} {D:Ends} {σ:St} {H:Hp} (Pv:Nat->St->Hp->Prop) (h0:Pv 0 σ H) (hl:∀i σ H,i<=xs.length->Pv i σ H->SqL K H a xs)
  (hs:∀i x σ H T,xs[i]?=some x->Pv i σ H->H T=none->g (.ref T) σ (upd H T (.tup [.int (n+(i:Nat)),x])) λσ2 H2=>tb { D with nx:=Pv (i+1),ct:=Pv (i+1),bk:=D.nx } σ2 H2) (hd:∀σ H,Pv xs.length σ H->D.nx σ H) :
  ∃W:Nat->Nat->St->Hp->Prop,(∃m,W 0 m σ H)/\∀i m σ H,W i m σ H ->
   ((rj K a n).stop i H/\D.nx σ H)\/((rj K a n).go i H/\∃N:St->Hp->Prop,(∀σ' H',N σ' H'->∃m',m'<m/\W (i+1) m' σ' H')/\∀x H',(rj K a n).yld i H x H'->g x σ H' λσ2 H2=>tb { D with nx:=N,ct:=N,bk:=D.nx } σ2 H2):=by
 refine⟨λi m σ H=>m=xs.length-i/\i<=xs.length/\Pv i σ H,⟨xs.length,by simp,QN _,h0⟩,?_⟩;rintro i m σ H ⟨rfl,hi,p⟩;have q:=hl i σ H hi p;by_cases hlt:i<xs.length
 ·refine .inr ⟨⟨xs,xs[i],q,by simp[hlt]⟩,Pv (i+1),λσ' H' p'=>⟨xs.length-(i+1),by exact om6 hlt,rfl,hlt,p'⟩,λx H' y=>?_⟩;obtain⟨T,v,hT,ex,eH,y⟩:=y;subst ex eH;exact hs i v σ H T (y xs q) p hT
 have e:i=xs.length:=by exact om0 hi hlt
 subst e;exact .inl ⟨⟨xs,q,Qi _⟩,hd σ H p⟩
theorem fm {H1:Hp} {D:Addr} {σ0:St} {g:TG} {te:TE} {tt:TT} {QD:Hp->Prop} {a:Addr} {xs:List V} (Pv:Nat->Hp->List V->Prop) (h0:Pv 0 (upd H1 D (.lst [])) []) (hD:∀i H ys,Pv i H ys->H D=some (.lst ys)/\SqL K H a xs)
  (hs:∀i x H ys,xs[i]?=some x->Pv i H ys->g x σ0 H λσ2 H2=>wk σ0 σ2/\tt σ2 H2 λb H3=>if b=true then te σ2 H3 (bS Pv xs.length D i ys) else ∃m',m'<xs.length-i/\(m'=xs.length-(i+1)/\i+1<=xs.length/\Pv (i+1) H3 ys)) (hd:∀H ys,Pv xs.length H ys->QD H) :
  ∃W:Nat->Nat->Hp->List V->Prop,(∃m,W 0 m (upd H1 D (.lst [])) [])/\∀i m H ys,W i m H ys->H D=some (.lst ys)/\(((Itl K a).stop i H/\QD H)\/((Itl K a).go i H/\∀x H',(Itl K a).yld i H x H'->g x σ0 H' λσ2 H2=>wk σ0 σ2/\tt σ2 H2 λb H3 =>
   if b=true then te σ2 H3 λv H4=>H4 D=some (.lst ys)/\ys.length<sizeLine/\∃m',m'<m/\W (i+1) m' (upd H4 D (.lst (ys++[v]))) (ys++[v]) else ∃m',m'<m/\W (i+1) m' H3 ys)):=by
 refine⟨λi m H ys=>m=xs.length-i/\i<=xs.length/\Pv i H ys,⟨xs.length,by simp,QN _,h0⟩,?_⟩;rintro i m H ys ⟨rfl,hi,p⟩;obtain⟨d1,d2⟩:=hD i H ys p;refine⟨d1,?_⟩;by_cases hlt:i<xs.length
 ·refine .inr ⟨⟨xs,xs[i],d2,by simp[hlt]⟩,λx H' y=>?_⟩;obtain⟨e,y⟩:=y;subst e;exact hs i x _ ys (y xs d2) p
 have e:i=xs.length:=by exact om0 hi hlt
 subst e;exact .inl ⟨⟨xs,d2,Qi _⟩,hd H ys p⟩
theorem qU {x:V} (h:cq x=true):eqV x x=true:=by
 cases x <;> first|(simp[eqV];done)|(simp[cq]at h;done)|simp_all [eqV,cq]
theorem iV (n:Nat):((List.range n).all λ_=>true)=true:=QU.mpr λ_ _=>rfl
section
variable {K:PySem.W.Frag} {H:Hp} {Q:VK}
theorem iL {n:Nat} {x:V} (h:cq x=true):EqD K H n x x true:=by
 have q:=EqD.flat (K:=K) (H:=H) (n:=n) h h;rwa [qU h]at q
variable {xs ys:List V} {a b l:Addr}
theorem lD {n:Nat} (h1:SqL K H a xs) (h2:SqL K H b ys) (hl:xs.length=ys.length) (hi:∀(j:Nat) x y,xs[j]?=some x->ys[j]?=some y->EqD K H n x y true):EqD K H (n+1) (.ref a) (.ref b) true:=by
 by_cases e:a=b
 ·subst e;exact .same
 have q:=EqD.lists (e:=λ_=>true) h1 h2 hl hi e;rwa [iV]at q
theorem jz {n:Nat} (f:xs.all cq=true):∀(j:Nat) x y,xs[j]?=some x->xs[j]?=some y->EqD K H n x y true:=λj x y e1 e2=>by
 rw[e1]at e2;cases e2;exact iL (QU.mp f x (Qq e1))
theorem vN (h1:SqL K H a xs) (h2:SqL K H b ys) (hl:xs.length=ys.length) (hi:∀(j:Nat) x y,xs[j]?=some x->ys[j]?=some y->EqD K H 8 x y true) (q:Q (.bl false) H):pI K true (.ref a) (.ref b) H Q:=by
 refine⟨a,b,xs,ys,λ_=>true,rfl,rfl,h1,h2,hi,?_⟩;rw[iV,hl,beq_self_eq_true];exact q
theorem vM (h1:SqT K H a xs) (h2:SqT K H b ys) (hl:xs.length=ys.length) (hi:∀(j:Nat) x y,xs[j]?=some x->ys[j]?=some y->EqD K H 8 x y true) (q:Q (.bl false) H):ua K true (.ref a) (.ref b) H Q:=by
 refine⟨a,b,xs,ys,λ_=>true,rfl,rfl,h1,h2,hi,?_⟩;rw[iV,hl,beq_self_eq_true];exact q
theorem rM {R:Bool->Hp->Prop} {σ:St} (hl:H l=some (.lst xs)) (q:∀H',ar H H'->R (decide (xs.length=0)) H'):kq gz σ H λy H2=>pI K false (.ref l) y H2 λx H'=>∃k,x=.bl k/\R k H':=by
 refine i_lst (av ⟨by simp[sizeLine],λp hp=>?_⟩);refine⟨l,p,xs,[],λ_=>true,rfl,rfl,SqL.of (al hp _ _ hl),SqL.of ai,λj x y _ e=>by simp at e,_,rfl,?_⟩
 have e:(if false=true then !(xs.length==([]:List V).length&&(List.range xs.length).all λ_=>true) else (xs.length==([]:List V).length&&(List.range xs.length).all λ_=>true))=decide (xs.length=0):=by
  rw[Qz Qn,iV,Bool.and_true];rfl
 rw[e];exact q _ (al hp)
end
end L2
namespace LZ
open PySem
section
variable {prog:Program} {w:World} {A:Around} {E:Value->Shared->Prop} {s:Shared}
theorem fM:typeLookup (.type "list") "__getattr__" = pure none:=by rw[typeLookup_type,Q9];kernel_rfl
theorem iE:typeLookup (.type "list") "keys" = pure none:=by rw[typeLookup_type,Q9];kernel_rfl
theorem dL:entryFor table "list.__getattribute__" = some Builtin.«object.__getattribute__» :=
 entryFor_alias (id' := "object.__getattribute__") (by kernel_rfl) (by decide +kernel) (by decide +kernel) (by kernel_rfl)
theorem gB (a:Addr) (xs:Array Value) (m:Nat) (sl:Array (Option Value)) (u:Tok) :
  Meets (Builtin.«object.__getattribute__» ⟨[.ref a,.str "keys" u],[]⟩) (λA R s=>s.heap.get? a=some { cls:=.type "list", dict:=none,data:=.seq xs m,slots:=sl }/\raisesAttr (.ref a) "keys" A R s) :=
 Meets.of_wp λprog w A R s hs=>by
  obtain⟨hp,g,d,tk,os⟩:=s;obtain⟨hx,hs⟩:=hs;have hT:(⟨hp,g,d,tk,os⟩:Shared).TypeIs (.ref a) "list" := ⟨_,hx,rfl⟩;have hmiss:=iE;have hname:(["__module__", "__name__", "__qualname__", "__doc__", "__annotations__"]:List Str).contains "keys" = false:=by decide +kernel
  unfold Builtin.«object.__getattribute__»
  repeat (any_goals (first|assumption|wp_step))
  try simp only[hname,Qx,xa]
  repeat (any_goals (first|assumption|wp_step))
  exact wpAny_raiseAttrError hs.1 hs.2 (attrMsg_fits (by decide +kernel) (by decide +kernel))
theorem mE {a:Addr} {xs:Array Value} {m:Nat} {sl:Array (Option Value)} {Q:Option Value->Shared->Prop} (hx:s.heap.get? a=some { cls:=.type "list", dict:=none,data:=.seq xs m,slots:=sl }) (hA:A.handled=none)
  (h:∀h' tk,(∀c o,s.heap.get? c=some o->h'.get? c=some o)->Q none { s with heap:=h',toks:=tk }):wpAny (model prog w) A (getAttr? (.ref a) "keys") Q E s:=by
 obtain⟨hp,g,d,tk,os⟩:=s;have hT:∀tk',(⟨hp,g,d,tk',os⟩:Shared).TypeIs (.ref a) "list" := λ_=>⟨_,hx,rfl⟩;have f1:=sub_AttributeError;have f3:=F.slot_list_getattribute.lookup;have f4:=F.slot_list_getattribute.bind (.ref a);have f5:=fM;unfold getAttr? getAttrBy? getAttrBy
 repeat (any_goals (first|assumption|exact hT _|((with_reducible show wpAny _ _ (call (Value.builtin "list.__getattribute__") _ _) _ _ _);refine call_meets F.slot_list_getattribute (hT _) dL (F.args_list_getattribute_2 _ _) (gB a xs m sl _) ⟨hx,hA,λh' tk' e hx'=>?_⟩)|wp_step))
 obtain⟨t',u',he⟩:=hx'.there;show wpAny _ _ (getattributeRaised _ _ _ _ _ _ _) _ _ _;unfold getattributeRaised
 repeat (any_goals (first|assumption|wp_step))
 all_goals exact h _ _ hx'.keeps
end
section
variable {prog:Program} {w:World} {K:Type} [DecidableEq K] {knd:KeyKind prog w K} {A:Around} {R:Result->Shared->Prop}
def gN (h:Heap) (xs:Array Value) (ka va:Nat->Value) (it d:Addr):Prop:=∀k,k<xs.size->∃(T:Addr) (o:Obj) (n:Nat),xs[k]?=some (.ref T)/\h.get? T=some o/\o.cls=.type "tuple" /\ o.data=.seq #[ka k,va k] n/\T≠it/\T≠d
theorem gN.keep {h h':Heap} {xs:Array Value} {ka va:Nat->Value} {it d:Addr} (p:gN h xs ka va it d) (hk:∀c o,c≠it->c≠d->h.get? c=some o->h'.get? c=some o):gN h' xs ka va it d:=λk hlt =>
 let ⟨T,o,n,e1,e2,e3,e4,e5,e6⟩:=p k hlt;⟨T,o,n,e1,hk T o e5 e6 e2,e3,e4,e5,e6⟩
theorem mH {it l d:Addr} {xs:Array Value} {ka va:Nat->Value} (nid:d≠it) (nil:l≠it) (ndl:l≠d) (hh:A.handled=none) (ks:Nat->K) (hk:∀k,k<xs.size->knd.is (ks k) (ka k)=true) (hsz:xs.size<=sizeLine) :
  ∀(m k:Nat) (i:Int) (s:Shared) (kvs:List (K × Value)),xs.size-k=m->k<=xs.size->s.heap.IsListIter it l k->s.heap.IsList l xs->gN s.heap xs ka va it d->s.heap.DictOf knd d kvs->kvs.length<=k ->
  (∀h' tk,h'.DictOf knd d (cT kvs ((List.range (xs.size-k)).map λj=>(ks (k+j),va (k+j))))->(∀c o,c≠it->c≠d->s.heap.get? c=some o->h'.get? c=some o)->R (.ok (.ret .none)) { s with heap:=h',toks:=tk }) ->
  codeAny (model prog w) A (.builtin "dict.update.loop" ⟨[.ref d,.ref it,rawInt i,.none],[]⟩) R s:=by
 intro m
 induction m with
 | zero =>
  intro k i s kvs hm hkk hit hl hp hd hkl hR;have hin:k=xs.size:=by exact tD hm hkk
  refine codeAny_builtin eQ ?_;rw[xk bV _];show wpAny _ A.in1 (pyNext (.ref it) >>= _) _ _ s;refine Qa (wpAny_pyNext_list_end (show A.in1.handled=none from hh) hit hl (by rw[hin];simp) λh' hkeep=>?_);show wpAny _ _ (Builtin.Dict.addKeywords d [] >>= _) _ _ _;refine Qa (Qg (Qg ?_))
  have hd':h'.DictOf knd d kvs:=by
   obtain⟨o,es,ep,e1,r⟩:=hd;exact⟨o,es,ep,hkeep d o nid e1,r⟩
  refine hR h' s.toks ?_ λc o c1 _ e=>hkeep c o c1 e;rw[hm];exact hd'
 | succ m ih =>
 intro k i s kvs hm hkk hit hl hp hd hkl hR;have hlt:k<xs.size:=by exact tz hm hkk
 obtain⟨T,oT,n,hx,hT,hTc,hTd,nTi,nTd⟩:=hp k hlt;refine codeAny_builtin eQ ?_;rw[xk bV _];show wpAny _ A.in1 (pyNext (.ref it) >>= _) _ _ s;refine Qa (wpAny_pyNext_list_item hit hl hx λh1 hit1 hs1=>?_);have k1:∀c o,c≠it->s.heap.get? c=some o->h1.get? c=some o:=λc o n1 e=>hs1.extBut c o n1 e
 have hd1:h1.DictOf knd d kvs:=by
  obtain⟨o,es,ep,e1,r⟩:=hd;exact⟨o,es,ep,k1 d o nid e1,r⟩
 have hT1:=k1 T oT nTi hT;refine Qa (QQ ?_);have hTy:(Shared.TypeIs { s with heap:=h1 } (.ref T) "tuple"):=⟨_,hT1,hTc⟩;refine Qa (wpAny_tryCatch ?_);unfold Builtin.Dict.pairItems;refine Qa (wpAny_typeOf hTy ?_);rw[QC (by decide)];refine Qa (wpAny_seqItems hT1 hTd (Qg ?_));show wpAny _ _ (holding [ka k,va k] (dictSet d (ka k) (va k))) _ _ _;refine QQ (wpAny_dictSet_pairs (hk k hlt) hd1 (λh2 hd2 hs2=>?_) (by exact tq hsz hkl hlt));have k2:∀c o,c≠it->c≠d->s.heap.get? c=some o->h2.get? c=some o:=λc o n1 n2 e=>hs2.extBut c o n2 (k1 c o n1 e);refine Qg ⟨plainId_quiet bV _,ih (k+1) (i+1) _ _ (by exact tp hm hlt) (by exact tm hlt) (hit1.extBut hs2.extBut (Ne.symm nid)) (hl.at λo e=>k2 l o nil ndl e) (hp.keep k2) hd2 (QK (gU _ _ _) (by exact u8 hkl)) λh3 tk hd3 hk3=>?_⟩;refine hR h3 tk ?_ λc o c1 c2 e=>hk3 c o c1 c2 (k2 c o c1 c2 e);rw[show xs.size-k=(xs.size-(k+1))+1 from by exact u9 hm hlt,List.range_succ_eq_map,Qs,List.map_map];have e:(List.range (xs.size-(k+1))).map (λj=>(ks (k+1+j),va (k+1+j)))=(List.range (xs.size-(k+1))).map ((λj=>(ks (k+j),va (k+j)))∘Nat.succ):=List.map_congr_left λj _=>by simp[Function.comp,Nat.add_assoc,Nat.add_comm 1]
 rw[e]at hd3;exact hd3
variable {Q E:Value->Shared->Prop}
theorem mM {s:Shared} {l:Addr} {xs:Array Value} {ka va:Nat->Value} (hh:A.handled=none) (ks:Nat->K) (hk:∀k,k<xs.size->knd.is (ks k) (ka k)=true) (hsz:xs.size<=sizeLine) (hl:PlainL s.heap l xs)
  (hp:∀k,k<xs.size->∃(T:Addr) (o:Obj) (n:Nat),xs[k]?=some (.ref T)/\s.heap.get? T=some o/\o.cls=.type "tuple" /\ o.data=.seq #[ka k,va k] n)
  (h:∀h' tk,h'.DictOf knd s.heap.objs.size (cT [] ((List.range xs.size).map λj=>(ks j,va j)))->(∀c o,s.heap.get? c=some o->h'.get? c=some o)->Q (.ref s.heap.objs.size) { s with heap:=h',toks:=tk }) :
  wpAny (model prog w) A (call (.type "dict") [.ref l]) Q E s:=by
 refine callType_codes (Q₁:=λobj s1=>obj=.ref s.heap.objs.size/\s1={ s with heap:=s.heap.push { cls:=.type "dict", data:=.dict #[] } }) gu (d7 _) F.entry_dict_init (e9 _ ⟨rfl,rfl⟩) ?_;rintro obj s1 ⟨rfl,rfl⟩;have up:∀c o,s.heap.get? c=some o->(s.heap.push { cls:=.type "dict", data:=.dict #[] }).get? c=some o:=λc o e=>Qb _ e;have hnew:(s.heap.push { cls:=.type "dict", data:=.dict #[] }).DictOf knd s.heap.objs.size []:=Heap.DictOf.new s.heap;have lt:∀{c o},s.heap.get? c=some o->s.heap.objs.size≠c:=λe=>Nat.ne_of_gt (Qj e);obtain⟨⟨c0,d0,dt0,sl0⟩,n0,ho,hoc,hod,hos⟩:=hl;have hoc:c0=.type "list" := hoc;have hod:d0=none:=hod;have hos:dt0=.seq xs n0:=hos;subst hoc hod hos;refine⟨hnew.typeIs,F.args_dict_init_2 _ _,?_⟩;unfold Builtin.«dict.__init__»;refine Qa ?_;unfold Builtin.Dict.selfAndRest;refine Qa (wpAny_notOrdered_dict hnew.typeIs ?_);show wpAny _ _ (pure (s.heap.objs.size,[Value.ref l])) _ _ _;refine Qg ?_;show wpAny _ _ (Builtin.Dict.updateFrom "dict.__init__" s.heap.objs.size (.ref l) [] .none) _ _ _;unfold Builtin.Dict.updateFrom;have hzT:Shared.TypeIs { s with heap:=s.heap.push { cls:=.type "dict", data:=.dict #[] } } (.ref l) "list" := ⟨_,up _ _ ho,rfl⟩;refine Qa (wpAny_typeOf hzT ?_);rw[QC (by decide)];refine Qa (mE (up _ _ ho) (show A.in1.in1.handled=none from hh) λh3 tk k3=>?_);simp only[Option.isNone_none,if_true];refine Qa (wpAny_rule ?_);have hL3:h3.IsList l xs:=⟨_,k3 _ _ (up _ _ ho),rfl,n0,rfl⟩
 have hd3:h3.DictOf knd s.heap.objs.size []:=by
  obtain⟨o,es,ep,e1,r⟩:=hnew;exact⟨o,es,ep,k3 _ _ e1,r⟩
 obtain⟨od,es,ep,hd3',r3⟩:=id hd3;refine Qa (wpAny_pyIter_list hL3 ?_);refine Qg ⟨plainId_quiet bV _,?_⟩;have up4:∀c o,h3.get? c=some o->(h3.push { cls:=.type "list_iterator", data:=.fields #[.ref l,.int 0 0] }).get? c=some o:=λc o e=>Qb _ e;have lt3:∀{c o},h3.get? c=some o->c≠h3.objs.size:=λe=>Qp (Qj e);refine mH (it:=h3.objs.size) (l:=l) (d:=s.heap.objs.size) (ka:=ka) (va:=va) (lt3 hd3') (lt3 (k3 _ _ (up _ _ ho))) (lt ho).symm (show A.in1.handled=none from hh) ks hk hsz xs.size 0 0 _ [] (by simp) (QN _) ⟨_,Ql _ rfl,rfl,rfl⟩ (hL3.at λo e=>up4 _ o e) (λk hlt=>?_) ⟨od,es,ep,up4 _ _ hd3',r3⟩ (Qi _) λh5 tk5 hd5 hk5=>?_
 ·obtain⟨T,o,n,e1,e2,e3,e4⟩:=hp k hlt;exact⟨T,o,n,e1,up4 _ _ (k3 _ _ (up _ _ e2)),e3,e4,lt3 (k3 _ _ (up _ _ e2)),(lt e2).symm⟩
 refine⟨rfl,h h5 tk5 (by simpa using hd5) λc o e=>hk5 c o (lt3 (k3 _ _ (up _ _ e))) (lt e).symm (up4 _ _ (k3 _ _ (up _ _ e)))⟩
end
end LZ
namespace L2
open PySem PySem.Spec PyProof.Rows
def ri (H:Hp) (v:V) (p:Str × V):Prop:=∃b,v=.ref b/\H b=some (.tup [.str p.1,p.2])
def ed (ps:List (Str × V)):List (Key × V):=ps.map λp=>((Sum.inr p.1:Key),p.2)
section
variable {X:Cx} {a:Expr} {ta:TA} {p1 pos1:Pos}
def mV (K:PySem.W.Frag) (ta:TA):TE:=λσ H Q=>ta σ H λvs H1=>∃l xs ps,vs=[.ref l]/\SqL K H1 l xs/\xs.length<10000/\Paired (ri H1) xs ps/\∀d,H1 d=none->Q (.ref d) (upd H1 d (.dK (bg [] (ed ps))))
theorem s_ {H:Hp}:∀{xs:List V} {ps:List (Str × V)},Paired (ri H) xs ps->∀(j:Nat) x,xs[j]?=some x->∃y,ps[j]?=some y/\ri H x y
 | _,_,.nil=>λj x e=>by simp at e
 | _,_,.cons (a:=a) (b:=b) h t=>λj x e=>by
  cases j with
  | zero=>simp at e;subst e;exact⟨_,rfl,h⟩
  | succ j=>simp at e;obtain⟨y,e',f⟩:=s_ t j x e;exact⟨y,by simpa using e',f⟩
theorem pL {H:Hp}:∀{xs:List V} {ps:List (Str × V)},Paired (ri H) xs ps->xs.length=ps.length
 | _,_,.nil=>rfl
 | _,_,.cons h t=>by simp[pL t]
theorem oh (hc:X.calm=true) (hg:Gl X "dict") (hm:X.mg "dict" = none) (ha:PA X [a] ta) (hs:starEach [a] X.env=[(false,eval a X.env)]:=by rfl):PE X (.Call (.Name "dict" p1) [a] [] pos1) (mV X.K ta):=by
 intro pins s σ H Q I h;refine Call_ (cK I hg hm PyProof.Rows.boot_dict (QO (thn (ha pos1 pins s σ H _ I h) λus s1 ⟨vs,H1,I1,r1,q1⟩=>?_) hs rfl));obtain⟨l,xs,ps,e,hl,hsm,hpr,q⟩:=q1;subst e;obtain⟨u1,e,ru1⟩:=dB r1;subst e;cases ru1;obtain⟨its,rv,pl,_⟩:=I1.list hl;have hits:its.length=xs.length:=rv.length.symm;have hps:=pL hpr;have big:10000<sizeLine:=by decide
 have each:∀k,∃g:Value × Value × Str,k<its.length->∃(T:Addr) (o:Obj) (m:Nat) (v:V) (t:Tok),its[k]?=some (.ref T)/\s1.heap.get? T=some o/\o.cls=.type "tuple" /\ o.data=.seq #[g.1,g.2.1] m/\g.1=.str g.2.2 t/\ps[k]?=some (g.2.2,v)/\aO v g.2.1:=λk=>by
  by_cases hk:k<its.length
  ·have hx:xs[k]?=some (xs[k]'(by exact om3 hits hps hk)):=by simp
   obtain⟨y,hy,b,eb,hb⟩:=s_ hpr k _ hx;obtain⟨u,hu,ru⟩:=rv.get hx;rw[eb]at ru;cases ru;obtain⟨its2,rv2,⟨o,e1,e2,n,e3⟩,_⟩:=I1.tuple (SqT.of hb);obtain⟨w1,w2,e4,r1,r2⟩:=o9 rv2;subst e4;obtain⟨t,et⟩:=r1;subst et;exact⟨(.str y.1 t,w2,y.1),λ_=>⟨b,o,n,y.2,t,hu,e1,e2,e3,rfl,hy,r2⟩⟩
  exact⟨(.none,.none,Str.empty),λh=>absurd h hk⟩
 let g:=λk=>Classical.choose (each k);have hg':∀k,k<its.length->∃(T:Addr) (o:Obj) (m:Nat) (v:V) (t:Tok),its[k]?=some (.ref T)/\s1.heap.get? T=some o/\o.cls=.type "tuple" /\ o.data=.seq #[(g k).1,(g k).2.1] m/\(g k).1=.str (g k).2.2 t/\ps[k]?=some ((g k).2.2,v)/\aO v (g k).2.1:=λk=>Classical.choose_spec (each k);refine LZ.mM (knd:=a_ X.prog X.w) (l:=l) (xs:=its.toArray) (ka:=λk=>(g k).1) (va:=λk=>(g k).2.1) (I1.ok.hd hc) (λk=>(Sum.inr (g k).2.2:Key)) (λk hk=>?_) (by rw[Qf,hits];omega) pl (λk hk=>?_) λh3 tk hd3 kept=>?_
 ·rw[Qf]at hk;obtain⟨T,o,m,v,t,_,_,_,_,e5,_⟩:=hg' k hk;show (a_ X.prog X.w).is _ (g k).1=true;rw[e5];exact eE _ _ _ _
 ·rw[Qf]at hk;obtain⟨T,o,m,v,t,e1,e2,e3,e4,_⟩:=hg' k hk;exact⟨T,o,m,by simpa using e1,e2,e3,e4⟩
 rw[Qf]at hd3
 have kv:KV (ed ps) ((List.range its.length).map λj=>((Sum.inr (g j).2.2:Key),(g j).2.1)):=by
  unfold ed;refine paired_get (by simp[hits,hps]) λj x y e1 e2=>?_;rw[Qk]at e1 e2
  have hj:j<its.length:=by
   cases e:(List.range its.length)[j]? with
   | none=>rw[e]at e2;cases e2
   | some q=>have:=(Qc.mp e).1;simpa using this
  obtain⟨T,o,m,v,t,_,_,_,_,_,e6,e7⟩:=hg' j hj;rw[e6]at e1;rw[List.getElem?_range hj]at e2;cases e1;cases e2;exact⟨rfl,e7⟩
 have hnew:H1 s1.heap.objs.size=none:=I1.hok.fresh (Qi _)
 have I3:Inv X pins σ (upd H1 s1.heap.objs.size (.dK (bg [] (ed ps)))) { s1 with heap:=h3,toks:=tk }:=I1.laid kept (Qi _) ⟨by
   have:=dw (ed ps) [];have e:(ed ps).length=ps.length:=by unfold ed;simp
   simp only[Q6]at this
   omega,beq_eq_false_iff_ne.mpr (by
   have:@LT.lt Nat _ sysModules s1.heap.objs.size:=I1.big;intro e;have e':@Eq Nat s1.heap.objs.size sysModules:=e
   omega),_,mD kv .nil,hd3⟩
 exact⟨.ref s1.heap.objs.size,_,I3,rfl,q _ hnew⟩
end
end L2
namespace LS
open PySem PySem.Spec PyProof.Rows
def Led (w:World) (t:SetTable) (n:Nat):Prop:=w.params.followText "set-order" = true\/(t.led=true/\(n≠0->t.plain=false))
theorem nR (t:SetTable) (n:Nat):(t.orStandIn n).led=t.led/\(t.plain=false->(t.orStandIn n).plain=false):=by
 unfold SetTable.orStandIn
 split
 ·exact⟨rfl,id⟩
 exact⟨rfl,λ_=>rfl⟩
theorem mC (t:SetTable) (es:Array (Int × Value)) (h:Int) (x:Value):(layNew t es h x).2.1.led=t.led/\(t.plain=false->(layNew t es h x).2.1.plain=false):=by
 unfold layNew
 split
 ·exact nR (t.put _).1 _
 exact⟨rfl,λ_=>rfl⟩
theorem qH {m f v:Nat} {l p:Bool} {hs:Array Int} {t:SetTable} {o:Array Nat} (h:SetTable.laid m f v l p hs=some (t,o)):t.led=l/\t.plain=p:=by
 unfold SetTable.laid at h
 cases e:SetTable.layClean m hs with
 | none=>rw[e]at h;cases h
 | some ow=>rw[e]at h;cases h;exact⟨rfl,rfl⟩
theorem n_ (t:SetTable) (es:Array (Int × Value)) (n:Nat):(relayAll t es n).2.1.led=t.led/\(t.plain=false->(relayAll t es n).2.1.plain=false):=by
 unfold relayAll
 split
 ·rename_i t' o e
  obtain⟨e1,e2⟩:=qH e;dsimp only
  split
  ·exact⟨e1,λz=>e2.trans z⟩
  exact⟨rfl,λ_=>rfl⟩
 exact⟨rfl,λ_=>rfl⟩
def cI (prog:Program) (w:World) (h:Heap) (a:Addr) (S:Str->Bool) (n:Nat):Prop:=∃o es ep t,h.get? a=some o/\o.ExactSet/\o.data=.set es ep t/\ElemsOf (strKind prog w) es.toList/\(∀k,S k=true↔∃e∈es.toList,(strKind prog w).is k e.2=true)/\es.size<scanBound/\t.fits es.size=true/\es.size=n/\Led w t es.size
section
variable {prog:Program} {w:World} {A:Around} {E:Value->Shared->Prop} {s:Shared} {a:Addr} {S:Str->Bool} {n:Nat}
variable {es' es:Array (Int × Value)}
theorem cI.put {h:Heap} {o:Obj} {ep:Nat} {t:SetTable} (ho:h.get? a=some o) (hex:o.ExactSet) (hd:o.data=.set es ep t) {t':SetTable}
  (hel:ElemsOf (strKind prog w) es'.toList) (hm:∀k,S k=true↔∃e∈es'.toList,(strKind prog w).is k e.2=true) (hb:es'.size<scanBound) (hf:t'.fits es'.size=true) (hn:es'.size=n) (hl:Led w t' es'.size) :
  (h.update a (Obj.putSet es' t')).get? a=some { o with data:=.set es' (ep+1) t' }/\cI prog w (h.update a (Obj.putSet es' t')) a S n:=by
 obtain⟨g,_⟩:=SetOf_store (knd:=strKind prog w) ho hex hd hel hm hb hf;exact⟨g,_,es',ep+1,t',g,hex,rfl,hel,hm,hb,hf,hn,hl⟩
theorem sI {k:Str} {tok:Tok} {Q:Bool->Shared->Prop} (hS:cI prog w s.heap a S n) (hroom:n+1<scanBound)
  (h:∀h' b,Heap.SameBut a s.heap h'->cI prog w h' a (λk'=>S k' || decide (k'=k)) (if S k then n else n+1)->Q b { s with heap:=h' }) :
  wpAny (model prog w) A (setAddHashed a (.str k tok) ((strKind prog w).hash k)) Q E s:=by
 obtain⟨o,es,ep,t,ho,hex,hd,hel,hm,hb,hf,hn,hl⟩:=hS;have hkey:(strKind prog w).is k (.str k tok)=true:=strKind_is _ _ _ _;have hsc:(Value.str k tok).scannable=true:=rfl;unfold setAddHashed setAddHashedIn;refine QQ (Qa (wpAny_setState_of ho hd hf ?_));dsimp only;rw[byScan_of hsc hb hel];simp only[↓reduceIte];unfold setAddByScan;refine Qa (Qa (wpAny_rule (Qa (wpAny_setScan_of hkey ho hd hf hel ?_))))
 cases hr:List.findIdx? (λe=>(strKind prog w).is k e.2) es.toList with
 | some j =>
  dsimp only;obtain⟨hj,hpj,_⟩:=List.findIdx?_eq_some_iff_getElem.mp hr;have hk:S k=true:=(hm k).mpr ⟨_,List.getElem_mem hj,hpj⟩;refine Qg (Qg (h s.heap _ (Heap.SameBut.refl a s.heap) ⟨o,es,ep,t,ho,hex,hd,hel,λk'=>?_,hb,hf,by rw[hk];exact hn,hl⟩));rw[Bool.or_eq_true,decide_eq_true_eq,<-hm k'];exact⟨λz=>z.elim id λe=>e▸hk,.inl⟩
 | none =>
 dsimp only
 have hk:S k=false:=by
  cases hk:S k with
  | false=>rfl
  | true=>obtain⟨e,he,hp⟩:=(hm k).mp hk;have:=List.findIdx?_eq_none_iff.mp hr e he;rw[hp]at this;exact Bool.noConfusion this
 have hperm:=layNew_perm t es ((strKind prog w).hash k) (.str k tok);have hfits:=layNew_fits t es ((strKind prog w).hash k) (.str k tok);obtain⟨l1,l2⟩:=mC t es ((strKind prog w).hash k) (.str k tok);generalize hL:layNew t es ((strKind prog w).hash k) (.str k tok)=L at hperm hfits l1 l2 ⊢;obtain⟨es1,t1,wasDummy,gave⟩:=L;dsimp only at hperm hfits l1 l2 ⊢;rw[Array.toList_push]at hperm;have hel1:=(hel.push hkey hsc).perm hperm;have hm1:∀k',(S k' || decide (k'=k))=true↔∃e∈es1.toList,(strKind prog w).is k' e.2=true:=mem_push_iff hkey hm hperm;have hz:es1.size=n+1:=by rw[<-QA,hperm.length_eq,Qh,QA,hn];rfl
 have hb1:es1.size<scanBound:=by rw[hz];exact hroom
 rw[hk]at h
 have tail:∀(t2:SetTable) (s1:Shared) (g:Bool->Sem Unit),(∀(b:Bool) (s₁:Shared) (Q':Unit->Shared->Prop),Q' () s₁->wpAny (model prog w) A (g b) Q' E s₁)->s1=s->t2.fits es1.size=true->Led w t2 es1.size ->
   wpAny (model prog w) A (do
    storeSet a es1 t2
    if (!wasDummy&&t2.tooFull)=true then do
      g (relayAll t2 es1 (SetTable.grown es1.size)).2.2
      storeSet a (relayAll t2 es1 (SetTable.grown es1.size)).1 (relayAll t2 es1 (SetTable.grown es1.size)).2.1
      pure (some true)
     else pure (some true)) (λr s'=>∃h' b,r=some b/\s'={ s with heap:=h' }/\Heap.SameBut a s.heap h'/\cI prog w h' a (λk'=>S k' || decide (k'=k)) (n+1)) E s1:=λt2 s1 g hg e f2 d2=>by
  subst e;refine Qa (wpAny_storeSet_of ho hd ?_ (fits_of_scanBound hb1));obtain⟨ho1,q1⟩:=cI.put ho hex hd hel1 hm1 hb1 f2 hz d2;have k1:=Heap.SameBut.update s1.heap a (Obj.putSet es1 t2)
  split
  ·have hp:=relayAll_perm t2 es1 (SetTable.grown es1.size);have hfr:=relayAll_fits t2 es1 (SetTable.grown es1.size);obtain⟨r1,r2⟩:=n_ t2 es1 (SetTable.grown es1.size);generalize hRl:relayAll t2 es1 (SetTable.grown es1.size)=Rl at hp hfr r1 r2 ⊢;obtain⟨es2,t3,gave2⟩:=Rl;dsimp only at hp hfr r1 r2 ⊢;have hz2:es2.size=es1.size:=by rw[<-QA,hp.length_eq,QA]
   refine Qa (hg _ _ _ (Qa (wpAny_storeSet_of ho1 rfl ?_ (fits_of_scanBound (by rw[hz2];exact hb1)))))
   obtain⟨_,q2⟩:=cI.put (S:=λk'=>S k' || decide (k'=k)) (n:=n+1) ho1 hex rfl (hel1.perm hp) (λk'=>(hm1 k').trans ⟨λ⟨e,he,q⟩=>⟨e,hp.mem_iff.mpr he,q⟩,λ⟨e,he,q⟩=>⟨e,hp.mem_iff.mp he,q⟩⟩) (by rw[hz2];exact hb1) hfr (hz2.trans hz)
    (d2.imp id λz=>⟨r1.trans z.1,λy=>r2 (z.2 (by rw[<-hz2];exact y))⟩)
   exact Qg ⟨_,true,rfl,rfl,k1.trans (Heap.SameBut.update _ a _),q2⟩
  exact Qg ⟨_,true,rfl,rfl,k1,q1⟩
 have fin:∀(r:Option Bool) (s':Shared),(∃h' b,r=some b/\s'={ s with heap:=h' }/\Heap.SameBut a s.heap h'/\cI prog w h' a (λk'=>S k' || decide (k'=k)) (n+1))->∃h' b,r=some b/\s'={ s with heap:=h' }/\Q b s':=λr s' ⟨h',b,e1,e2,e3,e4⟩=>⟨h',b,e1,e2,by rw[e2];exact h h' b e3 (by simpa using e4)⟩
 have gw:∀(b:Bool) {s₁:Shared} {Q':Unit->Shared->Prop},Q' () s₁->wpAny (model prog w) A (match b with|true=>rule "set.scan.the-table-gave-way" | false=>pure ()) Q' E s₁ :=
  λb s₁ Q' hq=>by cases b <;> first|exact Qg hq|exact wpAny_rule hq
 refine Qa (gw _ ?_)
 split
 ·refine Qa ?_;rw[hashByValue_scannable 8 hsc];refine Qg ?_;refine Q4 (tail _ s _ ?_ rfl ?_ ?_) (λr s' z=>?_) λ_ _ z=>z
  ·intro b s₁ Q' hq;cases b <;> first|exact Qg hq|exact wpAny_rule hq
  ·exact SetTable.fits_plain_off hfits
  ·exact hl.imp id λz=>⟨l1.trans z.1,λ_=>rfl⟩
  obtain⟨h',b,rfl,rfl,q⟩:=fin r s' z;exact Qg q
 rename_i hp
 refine Qa (Qg ?_);simp only[↓reduceIte];refine Q4 (tail _ s _ ?_ rfl hfits ?_) (λr s' z=>?_) λ_ _ z=>z
 ·intro b s₁ Q' hq;cases b <;> first|exact Qg hq|exact wpAny_rule hq
 ·exact hl.imp id λz=>⟨l1.trans z.1,λ_=>by simpa using hp⟩
 obtain⟨h',b,rfl,rfl,q⟩:=fin r s' z;exact Qg q
theorem cI.congr {h:Heap} {S':Str->Bool} {m:Nat} (q:cI prog w h a S n) (e:∀k,S k=S' k) (f:n=m):cI prog w h a S' m:=by
 obtain⟨o,es,ep,t,h1,h2,h3,h4,h5,h6,h7,h8,h9⟩:=q;exact⟨o,es,ep,t,h1,h2,h3,h4,λk=>by rw[<-e k];exact h5 k,h6,h7,h8.trans f,h9⟩
abbrev bare (led:Bool):Obj:={ cls:=.type "set", dict:=none,data:=.set #[] 0 (.fresh 0 0 led) }
theorem cI.bare {h:Heap} (g:h.get? a=some (bare !(w.params.followText "set-order"))):cI prog w h a (λ_=>false) 0 :=
 ⟨_,#[],0,_,g,⟨rfl,rfl,rfl⟩,rfl,fun e he=>by simp at he,fun k=>by simp,by decide,rfl,rfl,by
  unfold Led
  cases e:w.params.followText "set-order" with
  | true=>exact .inl rfl
  | false=>exact .inr ⟨rfl,λz=>absurd rfl z⟩⟩
theorem q_ (x:Value) {Q₁:Value->Shared->Prop} (h:Q₁ (.ref s.heap.objs.size) { s with heap:=s.heap.push (LS.bare !(w.params.followText "set-order")) }) :
  codeAny (model prog w) A (.call (.builtin "set.__new__") ⟨[.type "set", x],[]⟩) (wants Q₁ E) s:=by
 refine codeAny_of_tree ?_;show wpAny _ A.in1 (do checkBuiltinCall "set.__new__" ⟨[.type "set", x],[]⟩;again (.builtin "set.__new__" ⟨[.type "set", x],[]⟩)) _ _ s;refine Qa (wpAny_of_eq (F.newCall_set_1 x) (Qg ⟨plainId_quiet F.plain_set_new _,codeAny_builtin F.entry_set_new ?_⟩));rw[xk F.plain_set_new _];unfold Builtin.«set.__new__» Builtin.Frozenset.newClass;have hsub:=sub_set_self;obtain⟨hp,g,d,tk,os⟩:=s;dsimp only
 wp_walk
 refine wpAny_askSetting (Qg ?_);dsimp only;simp only[newObj];exact Qa (wpAny_alloc (Qg (Qg h)))
end
def met (g:Nat->Str):Nat->List Str
 | 0=>[]
 | i+1=>if g i∈met g i then met g i else met g i++[g i]
theorem j8 (g:Nat->Str):∀i,(met g i).length<=i
 | 0=>Qi _
 | i+1=>by
  have q:=j8 g i;show (if g i∈met g i then met g i else met g i++[g i]).length<=i+1
  split
  ·omega
  simp;omega
theorem j7 (g:Nat->Str) (x:Str):∀i,x∈met g i↔∃j,j<i/\g j=x
 | 0=>by simp[met]
 | i+1=>by
  have q:=j7 g x i
  have e:x∈met g (i+1)↔x∈met g i\/x=g i:=by
   show x∈(if g i∈met g i then met g i else met g i++[g i])↔_;by_cases h:g i∈met g i
   ·rw[QC h];exact⟨.inl,λz=>z.elim id λz=>z▸h⟩
   rw[Qz h];simp
  rw[e,q]
  constructor
  ·rintro(⟨j,a,b⟩|a)
   ·exact⟨j,by omega,b⟩
   exact⟨i,by omega,a.symm⟩
  rintro⟨j,a,b⟩;rcases Nat.lt_succ_iff_lt_or_eq.mp a with c|c
  ·exact .inl ⟨j,c,b⟩
  subst c;exact .inr b.symm
theorem sD {g:Nat->Str} {n:Nat} (h:n+1<scanBound):∀i,i<n->(met g i).length+1<scanBound:=λi hi=>by have:=j8 g i;omega
section
variable {prog:Program} {w:World} {A:Around} {R:Result->Shared->Prop} {I S:Addr} {fp wr:List Addr} {G:Array GenState->Array GenState->Prop} {n:Nat} {P:Nat->Value->Prop} {St:Nat->Shared->Prop}
abbrev gv (prog:Program) (w:World) (h:Heap) (S:Addr) (g:Nat->Str) (i:Nat):Prop:=cI prog w h S (λx=>decide (x∈met g i)) (met g i).length
theorem gv.at {h h':Heap} {g:Nat->Str} {i:Nat} (q:gv prog w h S g i) (k:∀o,h.get? S=some o->h'.get? S=some o):gv prog w h' S g i:=by
 obtain⟨o,es,ep,t,e,r⟩:=q;exact⟨o,es,ep,t,k _ e,r⟩
theorem pC (W:WalksS prog w A.in1 I fp wr G n P St) (nS:S∉fp) (g:Nat->Str) (hg:∀i v,P i v->∃t,v=.str (g i) t) (hb:∀i,i<n->(met g i).length+1<scanBound) :
  ∀(m i:Nat) (s:Shared),n-i=m->i<=n->St i s->gv prog w s.heap S g i->(∀s',Moved (S::wr) G s s'->gv prog w s'.heap S g n->R (.ok (.ret .none)) s') ->
   codeAny (model prog w) A (.builtin "set.update.loop" ⟨[.ref S,.ref I],[]⟩) R s:=by
 have nW:S∉wr:=λz=>nS (W.sub _ z);have more:∀b∈wr,b∈S::wr:=λb z=>Qv _ z;intro m
 induction m with
 | zero =>
  intro i s em hi st q fin;obtain rfl:i=n:=by omega
  refine codeAny_builtin F.entry_set_update_loop ?_;rw[xk F.plain_set_update_loop _];show wpAny _ A.in1 (pyNext (.ref I) >>= _) _ _ s;exact Qa (W.done s _ _ st λs1 mv=>Qg (fin s1 (mv.mono more) (q.at λo e=>mv.heap S _ nW e)))
 | succ m ih =>
 intro i s em hi st q fin;have lt:i<n:=by omega
 refine codeAny_builtin F.entry_set_update_loop ?_;rw[xk F.plain_set_update_loop _];show wpAny _ A.in1 (pyNext (.ref I) >>= _) _ _ s;refine Qa (W.item i s _ _ lt st λv s1 hP st1 mv=>?_);obtain⟨t,rfl⟩:=hg i v hP;have q1:=q.at λo e=>mv.heap S _ nW e;show wpAny _ A.in1 (holding [Value.str (g i) t] (setAdd S (.str (g i) t)) >>= _) _ _ s1;refine Qa (QQ ?_);unfold setAdd;refine QQ (Qa ((strKind prog w).pyHash (k:=g i) (strKind_is _ _ _ _) ?_));have room:=hb i lt;refine sI (s:={ s1 with toks:=s1.toks+1 }) q1 room λh2 _ sb q2=>?_
 have q3:gv prog w h2 S g (i+1):=by
  refine cI.congr q2 (λx=>?_) ?_
  ·show (decide (x∈met g i) || decide (x=g i))=decide (x∈(if g i∈met g i then met g i else met g i++[g i]));by_cases z:g i∈met g i
   ·rw[QC z];by_cases y:x=g i
    ·subst y;simp[z]
    simp[y]
   rw[Qz z];simp
  show (if decide (g i∈met g i)=true then _ else _)=(if g i∈met g i then met g i else met g i++[g i]).length;by_cases z:g i∈met g i
  ·simp[z]
  simp[z]
 refine Qg ⟨plainId_quiet F.plain_set_update_loop _,ih (i+1) _ (by omega) lt (W.frame _ s1 _ _ st1 (Nat.le_succ _) λb z o e=>?_) q3 λs3 mv3 q4=>?_⟩
 ·rw[sb.2 b (λy:b=S=>nS (by rw[<-y];exact z))];exact e
 refine fin s3 (Moved.trans W.gtrans ((mv.mono more).then_heap (Nat.le_succ _) λb o z e=>?_) mv3) q4;rw[sb.2 b (λy:b=S=>z (by rw[y];exact QZ))];exact e
end
section
variable {prog:Program} {w:World} {A:Around} {E:Value->Shared->Prop} {s:Shared}
theorem kg {l:Addr} {its:Array Value} {g:Nat->Str} {Q:Value->Shared->Prop} (hh:A.handled=none) (hl:s.heap.IsList l its) (hi:∀(i:Nat) (v:Value),its[i]?=some v->∃t,v=.str (g i) t) (hb:∀i,i<its.size->(met g i).length+1<scanBound)
  (h:∀(h1:Heap) (tk:Nat),gv prog w h1 s.heap.objs.size g its.size->(∀b o,s.heap.get? b=some o->h1.get? b=some o)->Q (.ref s.heap.objs.size) { s with heap:=h1,toks:=tk }) :
  wpAny (model prog w) A (call (.type "set") [.ref l]) Q E s:=by
 obtain⟨cl,tl,mro⟩:=F.called_set.mro;have y1:=F.called_set.made;have y2:=F.called_set.sub;refine wpAny_call (codeAny_of_tree ?_);show wpAny _ _ (callAny (.type "set") ⟨[.ref l],[]⟩) _ _ _;refine Qg ⟨Code.quiet_builtin _ (by decide +kernel),codeAny_builtin F.entry_type_call ?_⟩;rw[Around.under_plain (weight_type_call_type "set" [.ref l] []) rfl];have y3:=F.called_set.notType;have y4:=F.called_set.canCreate;have y5:=F.typeCall_set_1 (.ref l)
 repeat (any_goals (first|assumption|wp_step))
 refine codeAny_mono (q_ (.ref l) (E:=E) (Q₁:=λv s1=>∃led:Bool,led=!(w.params.followText "set-order")/\v=.ref s.heap.objs.size/\s1={ s with heap:=s.heap.push (bare led) }) ⟨_,rfl,rfl,rfl⟩) λr s1 hr=>?_
 cases r with
 | error e=>exact hr
 | ok fl =>
 cases fl with
 | ret obj =>
  obtain⟨led,hled,rfl,rfl⟩:=hr;have hS:(s.heap.push (bare led)).get? s.heap.objs.size=some (bare led):=Ql _ rfl;have hT:Shared.TypeIs { s with heap:=s.heap.push (bare led) } (.ref s.heap.objs.size) "set" := ⟨_,hS,rfl⟩;have y6:=F.called_set.init.lookup;have y7:=F.called_set.init.bind (.ref s.heap.objs.size)
  repeat (any_goals (first|assumption|wp_step))
  refine codeAny_mono (codeAny_call_builtin (R:=wants (λv s2=>v=.none/\∃h1 tk,s2={ s with heap:=h1,toks:=tk }/\gv prog w h1 s.heap.objs.size g its.size/\∀b o,s.heap.get? b=some o->h1.get? b=some o) E) F.called_set.init.plain F.entry_set_init (check_set_init_1 hT ?_)) λr2 s2 hr2=>?_
  ·obtain⟨ol,hol,hcl,nl,hdl⟩:=hl;obtain⟨ocls,odict,odata,oslots⟩:=ol;simp only at hcl hdl;subst hcl;subst hdl;have hol1:(s.heap.push (bare led)).get? l=some { cls:=.type "list", dict:=odict,data:=.seq its nl,slots:=oslots }:=Qb _ hol;have y8:=F.sub_list_set;have y9:=F.sub_list_frozenset;have y0:(Value.type "list" == Value.type "dict")=false:=by decide
   have hl1:(s.heap.push (bare led)).IsList l its:=⟨_,hol1,rfl,nl,rfl⟩;unfold Builtin.«set.__init__» noKeywords Builtin.Frozenset.updateFrom;generalize hPI:pyIter=PI
   wp_walk
   subst hPI;refine wpAny_pyIter_list hl1 ?_;refine Qa (wpAny_runValue ?_);have lS:l<s.heap.objs.size:=Qj hol
   have nI:l≠(s.heap.push (bare led)).objs.size:=by
    rw[Q0];exact Qp (Nat.lt_succ_of_lt lS)
   have nF:s.heap.objs.size∉[(s.heap.push (bare led)).objs.size,l]:=by
    rw[Q0];simp only[QE,QJ,List.not_mem_nil,or_false,not_or];exact⟨Qp (Nat.lt_succ_self _),Nat.ne_of_gt lS⟩
   refine pC ((Walks.list (show A.in1.in1.in1.handled=none by simp[hh]) _ l nI its).toS) nF g hi hb (its.size-0) 0 _ (by omega) (QN _) ⟨⟨_,Ql _ rfl,rfl,rfl⟩,(hl1.push _)⟩ ?_ λs3 mv q=>?_
   ·have e:((s.heap.push (bare led)).push { cls:=.type "list_iterator", data:=.fields #[.ref l,.int 0 0] }).get? s.heap.objs.size=some (bare led):=Qb _ hS;exact cI.congr (cI.bare (by rw[e,hled])) (λ_=>by simp[met]) rfl
   obtain⟨h3,g3,d3,tk3,os3⟩:=s3;obtain rfl:g3=s.gens:=mv.gens;obtain rfl:d3=s.drawn:=mv.drawn;obtain rfl:os3=s.os:=mv.os;show wpAny _ _ _ _ _ _;refine Qg ?_;show wpAny _ _ (ret Value.none) _ _ _;refine Qg ⟨rfl,h3,tk3,rfl,q,λb o e=>?_⟩;have lb:=Qj e;have z1:b≠s.heap.objs.size:=Qp lb
   have z2:b≠(s.heap.push (bare led)).objs.size:=by
    rw[Q0];exact Qp (Nat.lt_succ_of_lt lb)
   exact mv.heap b o (by simp only[QE,QJ,List.not_mem_nil,or_false,not_or];exact⟨z1,z2⟩) (Qb _ (Qb _ e))
  cases r2 with
  | error e=>exact hr2
  | ok fl2 =>
  cases fl2 with
  | ret r =>
   obtain⟨rfl,h1,tk,rfl,q,k⟩:=hr2
   repeat (any_goals (first|assumption|wp_step))
   exact h _ _ q k
  | _=>exact hr2.elim
 | _=>exact hr.elim
end
end LS
namespace L2
open PySem PySem.Spec PyProof.Rows
def nO (ts:List Str):Nat:=(LS.met (λi=>ts.getD i Str.empty) ts.length).length
section
variable {X:Cx} {a:Expr} {ta:TA} {p p1 pos pos1:Pos}
def mU (K:PySem.W.Frag) (ta:TA):TE:=λσ H Q=>ta σ H λvs H1=>∃l ts,vs=[.ref l]/\SqL K H1 l (ts.map V.str)/\ts.length<1000/\Q (.int (nO ts)) H1
theorem og (hc:X.calm=true) (hg:Gl X "len") (hm:X.mg "len" = none) (hg1:Gl X "set") (hm1:X.mg "set" = none) (ha:PA X [a] ta) (hs:starEach [a] X.env=[(false,eval a X.env)]:=by rfl)
  (he:starEach [.Call (.Name "set" p1) [a] [] pos1] X.env=[(false,eval (.Call (.Name "set" p1) [a] [] pos1) X.env)]:=by rfl) :
  PE X (.Call (.Name "len" p) [.Call (.Name "set" p1) [a] [] pos1] [] pos) (mU X.K ta):=by
 intro pins s σ H Q I h;refine wpAny_Call_Name_kw (cK I hg hm QH ?_);refine PyProof.Rows.callWith_builtin1 ?_ he rfl;rw[he];show wpAny _ _ (spliced ((false,eval (.Call (.Name "set" p1) [a] [] pos1) X.env)::backTo pos [])) _ _ s;refine xh ?_;refine Call_ (cK I hg1 hm1 PyProof.Rows.boot_set (QO (thn (ha pos1 pins s σ H _ I h) λus s1 z=>?_) hs rfl));obtain⟨vs,H1,I1,r1,l,ts,e,hl,hsm,q⟩:=z;subst e;obtain⟨u1,e,ru1⟩:=dB r1;subst e;cases ru1;obtain⟨its,rv,pl,_⟩:=I1.list hl;have hlen:its.length=ts.length:=by rw[<-rv.length,Qd]
 refine LS.kg (its:=its.toArray) (g:=λi=>ts.getD i Str.empty) (I1.ok.hd hc) pl.isList (λi v hv=>?_) (LS.sD (by rw[Qf,hlen];unfold scanBound;omega)) λh3 tk q3 kept=>?_
 ·have hv':its[i]?=some v:=by simpa using hv
  have hi:i<ts.length:=by
   have:=(Qc.mp hv').1;omega
  have e1:(ts.map V.str)[i]?=some (.str (ts.getD i Str.empty)):=by
   rw[Qk,Qe hi,QW,Qe hi];rfl
  obtain⟨u,hu,ru⟩:=rv.get e1;rw[hv']at hu;cases hu;obtain⟨t,e2⟩:=ru;exact⟨t,e2⟩
 refine Calls.spliced_nil ?_;have hz:its.toArray.size=ts.length:=by rw[Qf];exact hlen
 rw[hz]at q3;obtain⟨o,es,ep,t,ho,hex,hd,_,_,_,hf,hn,_⟩:=q3;have hle:=LS.j8 (λi=>ts.getD i Str.empty) ts.length;refine PySem.call_len_set ho hex hd hf (by rw[hn];omega) ?_;exact⟨.int (nO ts),H1,I1.kept (t':=tk+1+1) kept,⟨tk+1,by rw[hn];rfl⟩,q⟩
end
end L2
namespace LS
open PySem
theorem lc (g:Nat->Str):∀n,(met g n).length=n↔∀i j,i<n->j<n->g i=g j->i=j
 | 0=>⟨λ_ i j h=>absurd h (Nat.not_lt_zero _),λ_=>rfl⟩
 | n+1=>by
  have ih:=lc g n;have le:=j8 g n
  have e:(met g (n+1)).length=if g n∈met g n then (met g n).length else (met g n).length+1:=by
   show (if g n∈met g n then met g n else met g n++[g n]).length=_
   split <;> simp
  constructor
  ·intro h;rw[e]at h;have ni:g n∉met g n:=λz=>by rw[QC z]at h;omega
   rw[Qz ni]at h;have old:=ih.mp (by omega);have no:∀j,j<n->g j≠g n:=λj hj z=>ni ((j7 g _ n).mpr ⟨j,hj,z⟩);intro i j hi hj hg;rcases Nat.lt_succ_iff_lt_or_eq.mp hi with a|a <;> rcases Nat.lt_succ_iff_lt_or_eq.mp hj with b|b
   ·exact old i j a b hg
   ·subst b;exact absurd hg (no i a)
   ·subst a;exact absurd hg.symm (no j b)
   omega
  intro h;have old:=ih.mpr λi j a b=>h i j (by omega) (by omega)
  have ni:g n∉met g n:=λz=>by
   obtain⟨j,hj,q⟩:=(j7 g _ n).mp z;have:=h j n (by omega) (by omega) q;omega
  rw[e,Qz ni];omega
end LS
namespace L2
open PySem
theorem pb {ts:List Str}:nO ts=ts.length↔ts.Nodup:=by
 unfold nO List.Nodup;rw[LS.lc,List.pairwise_iff_getElem];have at_:∀(i:Nat) (hi:i<ts.length),ts.getD i Str.empty=ts[i]:=λi hi=>by rw[QW,Qe hi];rfl
 constructor
 ·intro h i j hi hj hij hq;have:=h i j hi hj (by rw[at_ i hi,at_ j hj,hq]);omega
 intro h i j hi hj hg;rw[at_ i hi,at_ j hj]at hg;by_cases a:i<j
 ·exact absurd hg (h i j hi hj a)
 by_cases b:j<i
 ·exact absurd hg.symm (h j i hj hi b)
 omega
end L2
namespace L2
open PySem PySem.Spec PyProof.Rows
abbrev pX:List (Str × KTD.Dat):=[("wire", .flat (.int 2)),("not", .flat (.int 2)),("and", .flat (.int 3)),("or", .flat (.int 3))]
def eD:List (Str × Int):=[("wire", 2),("not", 2),("and", 3),("or", 3)]
def pd (ty:TE):TE:=λσ H Q=>ty σ H λy H1=>∃p∈eD,y=.str p.1/\Q (.int p.2) H1
section
variable {X:Cx} {o e:Expr} {apos cpos:Pos} {ty:TE} {T:Addr}
theorem pR (hT:gR X.K T pX) (ho:PE X o (tC (.ref T))) (he:PE X e ty) (m:M1 X o "get" apos e cpos):PE X (.Call (.Attribute o "get" apos) [e] [] cpos) (pd ty):=by
 intro pins s σ H Q I h;refine wpAny_Call_method m.base m.few m.line PySem.F.plainAttrs_dict PySem.F.slot_dict_get PySem.F.type_dict_get (thn (ho pins s σ H (λx H1=>x=.ref T/\H1=H) I ⟨rfl,rfl⟩) λu s1 z=>?_);obtain⟨x,H1,I1,rx,ex,eh⟩:=z;subst ex eh;obtain rfl:u=Value.ref T:=rx;have here:∀{s':Shared} {H':Hp},Inv X pins σ H' s'->KTD.Here X.base s'.heap T pX:=λJ=>⟨KTD.text_of_look (get:=λa=>X.K.lookup a) (λa o e=>J.mod.kin a o e) hT,J.bk⟩;refine⟨(here I1).typeIs,(here I1).noDict,?_⟩;rw[m.trees];refine Calls.callWith_builtin rfl (Calls.evalArgs_plain (xh (thn (he pins s1 σ H1 _ I1 h) λiv s2 z=>Calls.spliced_nil ?_)));obtain⟨y,H2,I2,ry,p,hp,ey,q2⟩:=z;subst ey;obtain⟨t,e⟩:=ry;subst e;simp only[eD,QE,List.not_mem_nil,or_false]at hp;rcases hp with e|e|e|e
 all_goals (subst e;refine KTD.get1_textL (here I2) (by decide +kernel) ?_)
 ·simp only[KTD.EachL,show decide (("wire" : Str) = "wire")=true by decide +kernel,if_true];exact λt=>⟨.int 2,H2,I2.tok _,⟨_,rfl⟩,q2⟩
 ·simp only[KTD.EachL,show decide (("not" : Str) = "wire")=false by decide +kernel,show decide (("not" : Str) = "not")=true by decide +kernel,if_true,Qx,xa];exact λt=>⟨.int 2,H2,I2.tok _,⟨_,rfl⟩,q2⟩
 ·simp only[KTD.EachL,show decide (("and" : Str) = "wire")=false by decide +kernel,show decide (("and" : Str) = "not")=false by decide +kernel,show decide (("and" : Str) = "and")=true by decide +kernel,if_true,Qx,xa];exact λt=>⟨.int 3,H2,I2.tok _,⟨_,rfl⟩,q2⟩
 simp only[KTD.EachL,show decide (("or" : Str) = "wire")=false by decide +kernel,show decide (("or" : Str) = "not")=false by decide +kernel,show decide (("or" : Str) = "and")=false by decide +kernel,Qx,xa];exact λ_ t=>⟨.int 3,H2,I2.tok _,⟨_,rfl⟩,q2⟩
end
section
variable {K:PySem.W.Frag} {g:TG} {te:TE} {σ0:St} {QD:Hp->Prop} {H1:Hp} {D:Addr}
theorem q0 {a:Addr} {xs:List V} (Pv:Nat->Hp->List V->Prop) (h0:Pv 0 (upd H1 D (.lst [])) []) (hD:∀i H ys,Pv i H ys->H D=some (.lst ys)/\SqT K H a xs)
  (hs:∀i x H ys,xs[i]?=some x->Pv i H ys->g x σ0 H λσ2 H2=>wk σ0 σ2/\fz σ2 H2 λb H3=>if b=true then te σ2 H3 (bS Pv xs.length D i ys) else ∃m',m'<xs.length-i/\(m'=xs.length-(i+1)/\i+1<=xs.length/\Pv (i+1) H3 ys)) (hd:∀H ys,Pv xs.length H ys->QD H) :
  ∃W:Nat->Nat->Hp->List V->Prop,(∃m,W 0 m (upd H1 D (.lst [])) [])/\∀i m H ys,W i m H ys->H D=some (.lst ys)/\(((Itt K a).stop i H/\QD H)\/((Itt K a).go i H/\∀x H',(Itt K a).yld i H x H'->g x σ0 H' λσ2 H2=>wk σ0 σ2/\fz σ2 H2 λb H3 =>
   if b=true then te σ2 H3 λv H4=>H4 D=some (.lst ys)/\ys.length<sizeLine/\∃m',m'<m/\W (i+1) m' (upd H4 D (.lst (ys++[v]))) (ys++[v]) else ∃m',m'<m/\W (i+1) m' H3 ys)):=by
 refine⟨λi m H ys=>m=xs.length-i/\i<=xs.length/\Pv i H ys,⟨xs.length,by simp,QN _,h0⟩,?_⟩;rintro i m H ys ⟨rfl,hi,p⟩;obtain⟨d1,d2⟩:=hD i H ys p;refine⟨d1,?_⟩;by_cases hlt:i<xs.length
 ·refine .inr ⟨⟨xs,xs[i],d2,by simp[hlt]⟩,λx H' y=>?_⟩;obtain⟨e,y⟩:=y;subst e;exact hs i x _ ys (y xs d2) p
 have e:i=xs.length:=by exact om0 hi hlt
 subst e;exact .inl ⟨⟨xs,d2,Qi _⟩,hd H ys p⟩
theorem uW {σ:St} {H:Hp} {tl:TE} {R:It->Hp->Prop} (q:tl σ H λx H1=>∃a,x=.ref a/\(∃xs,SqT K H1 a xs)/\R (Itt K a) H1):vP K tl σ H R:=q
end
end L2
namespace K2
open PySem L2
abbrev IvF:=Nat->St->Hp->Prop
abbrev IvC:=Nat->Hp->List V->Prop
abbrev IvJ:=St->Hp->Prop
theorem fN {X:Cx} {K:PySem.W.Frag} (h:X.K=K):IxR X (mh K):=by subst h;exact aB
variable {H H':Hp} {σ:St} {td ty tx tv tl:TE}
theorem sx {Q:VK} (q:td σ H λx H1=>∃a,x=.ref a/\IsD H1 a/\ty σ H1 λy H2=>tx σ H2 λz H3=>∃kvs k,H3 a=some (.dK kvs)/\y=kV k/\(∀v,bq kvs k=some v->Q v H3)/\(bq kvs k=none->kvs.length<sizeLine/\Q z (upd H3 a (.dK (bK kvs k z))))):pe td ty tx σ H Q:=q
theorem pD {D:Ends} (q:tv σ H λv H1=>td σ H1 λx H2=>ty σ H2 λy H3=>∃a H4,x=.ref a/\mS H3 a y v H4/\D.nx σ H4):sX td ty tv D σ H:=q
theorem qL {Q:VK} (q:ty σ H λy H1=>td σ H1 λx H2=>∃a o,x=.ref a/\cL H2 a y o/\Q (.bl (!o.isSome)) H2):mW ty td σ H Q:=q
theorem sW {t:TS} {D:Ends} {a:Addr} {u:HO} (r:Rd H a u) (f:Fz u) (q:∀o,t (sM D H a o u) σ (upd H a (.frz o u))):uQ t D σ H:=⟨a,u,r,f,q⟩
theorem nc {R:It->Hp->Prop} (q:tl σ H λx H1=>∃a o kvs,x=.ref a/\H1 a=some (.frz o (.dK kvs))/\R (Itd a o kvs) H1):qN tl σ H R:=q
structure Txt (K:PySem.W.Frag) (mg:Str->Option Value) (TT:Addr):Prop where
 n_len:mg "len" = none
 n_range:mg "range" = none
 n_max:mg "max" = none
 n_min:mg "min" = none
 n_int:mg "int" = none
 n_list:mg "list" = none
 n_str:mg "str" = none
 n_isinstance:mg "isinstance" = none
 n_all:mg "all" = none
 n_set:mg "set" = none
 n_dict:mg "dict" = none
 n_enumerate:mg "enumerate" = none
 n_sorted:mg "sorted" = none
 n_tuple:mg "tuple" = none
 n_bool:mg "bool" = none
 n_zip:mg "zip" = none
 n_reversed:mg "reversed" = none
 lETTERS:∃t,mg "LETTERS" = some (.str "abcdefghijklmnopqrstuvwxyz" t)
 mLETTERS:∃t,mg "MOST_LETTERS" = some (.int 8 t)
 mRULES:∃t,mg "MOST_RULES_WITHIN" = some (.int 10 t)
 mINPUTS:∃t,mg "MOST_INPUTS" = some (.int 4 t)
 mGATES:∃t,mg "MOST_GATES" = some (.int 7 t)
 pARTS:mg "PARTS_OF_RULE" = some (.ref TT)
 tab:gR K TT [("wire", .flat (.int 2)),("not", .flat (.int 2)),("and", .flat (.int 3)),("or", .flat (.int 3))]
 tU:∃TU,mg "TURNED" = some (.ref TU)/\gR K TU [("0", .flat (.str "1")),("1", .flat (.str "0"))]
inductive Rl where
 | w (n:Str)|no (r:Rl)|an (a b:Rl)|orr (a b:Rl)
def Rl.ok (ns:List Str):Rl->Prop
 | .w n=>n∈ns
 | .no r=>r.ok ns
 | .an a b=>a.ok ns/\b.ok ns
 | .orr a b=>a.ok ns/\b.ok ns
def Rl.dep:Rl->Nat
 | .w _=>1
 | .no r=>r.dep+1
 | .an a b=>max a.dep b.dep+1
 | .orr a b=>max a.dep b.dep+1
def Rl.val (f:Str->Bool):Rl->Bool
 | .w n=>f n
 | .no r=>!r.val f
 | .an a b=>a.val f&&b.val f
 | .orr a b=>a.val f || b.val f
inductive RAt (H:Hp):V->Rl->Prop where
 | w {a:Addr} {n:Str}:H a=some (.tup [.str "wire", .str n])->RAt H (.ref a) (.w n)
 | no {a:Addr} {v:V} {r:Rl}:H a=some (.tup [.str "not", v])->RAt H v r->RAt H (.ref a) (.no r)
 | an {a:Addr} {v u:V} {r s:Rl}:H a=some (.tup [.str "and", v,u])->RAt H v r->RAt H u s->RAt H (.ref a) (.an r s)
 | orr {a:Addr} {v u:V} {r s:Rl}:H a=some (.tup [.str "or", v,u])->RAt H v r->RAt H u s->RAt H (.ref a) (.orr r s)
def eN (H H':Hp):Prop:=∀b xs,H b=some (.tup xs)->H' b=some (.tup xs)
theorem ar.tups (S:ar H H'):eN H H':=λb xs e=>S b _ e
theorem RAt.mono (hs:eN H H') {v:V} {r:Rl} (h:RAt H v r):RAt H' v r:=by
 induction h with
 | w e=>exact .w (hs _ _ e)
 | no e _ ih=>exact .no (hs _ _ e) ih
 | an e _ _ i1 i2=>exact .an (hs _ _ e) i1 i2
 | orr e _ _ i1 i2=>exact .orr (hs _ _ e) i1 i2
def GAt (H:Hp) (v:V) (g:Str × Rl):Prop:=∃b rv,v=.ref b/\H b=some (.tup [.str g.1,rv])/\RAt H rv g.2
theorem GAt.mono (hs:eN H H') {v:V} {g:Str × Rl} (h:GAt H v g):GAt H' v g:=let ⟨b,rv,e,h1,h2⟩:=h;⟨b,rv,e,hs _ _ h1,h2.mono hs⟩
structure NAt (H:Hp) (a li lg:Addr) (ins:List Str) (vs:List V) (gs:List (Str × Rl)):Prop where
 ha:H a=some (.tup [.ref li,.ref lg])
 hi:H li=some (.lst (ins.map V.str))
 hg:H lg=some (.lst vs)
 gates:Paired (GAt H) vs gs
theorem iJ {H:Hp}:∀{vs:List V} {gs:List (Str × Rl)},Paired (GAt H) vs gs->∀x∈vs,∃a,x=V.ref a
 | _,_,.nil=>λx hx=>nomatch hx
 | _,_,.cons h t=>λx hx=>by
  rcases QE.mp hx with e|hx
  ·obtain⟨b,_,e',_⟩:=h;exact⟨b,e.trans e'⟩
  exact iJ t x hx
theorem bU {H H':Hp} (hs:eN H H'):∀{vs:List V} {gs:List (Str × Rl)},Paired (GAt H) vs gs->Paired (GAt H') vs gs
 | _,_,.nil=>.nil
 | _,_,.cons h t=>.cons (h.mono hs) (bU hs t)
variable {gs:List (Str × Rl)} {ins:List Str}
theorem NAt.same {a li lg:Addr} {vs:List V} (S:ar H H') (h:NAt H a li lg ins vs gs):NAt H' a li lg ins vs gs:=⟨S _ _ h.ha,S _ _ h.hi,S _ _ h.hg,bU (ar.tups S) h.gates⟩
def ac (ins:List Str) (gs:List (Str × Rl)):List Str:=ins++gs.map (·.1)
structure Low (z:Str):Prop where
 l1:1<=z.length
 l8:z.length<=8
 low:∀c∈z.cps.toList,97<=c/\c<=122
structure NetOk (ins:List Str) (gs:List (Str × Rl)):Prop where
 i4:ins.length<=20
 g7:gs.length<=20
 rules:∀g∈gs,g.2.ok (ac ins gs)/\g.2.dep<=10
 low:∀n∈ac ins gs,Low n
abbrev gx (ins:List Str) (gs:List (Str × Rl)):Prop:=ins.length<=4/\1<=gs.length/\gs.length<=7/\(ac ins gs).Nodup
structure StOk (n:Nat) (z:Str):Prop where
 len:z.cps.size=n
 signs:∀c∈z.cps.toList,c=48\/c=49
def sg (b:Bool):V:=if b then .str "1" else .str "0"
def sgn (names:List Str) (z:Str) (n:Str):Bool:=z.cps.getD (names.idxOf n) 0==49
def DFn (kvs:List (Key × V)) (names:List Str) (f:Str->Bool):Prop:=∀n∈names,bq kvs (Sum.inr n:Key)=some (sg (f n))
structure NetS (ins:List Str) (gs:List (Str × Rl)):Prop where
 w:NetOk ins gs
 isn:gx ins gs
theorem NetS.i4 (h:NetS ins gs):ins.length<=4:=h.isn.1
theorem NetS.g1 (h:NetS ins gs):1<=gs.length:=h.isn.2.1
theorem NetS.g7 (h:NetS ins gs):gs.length<=7:=h.isn.2.2.1
theorem NetS.nd (h:NetS ins gs):(ac ins gs).Nodup:=h.isn.2.2.2
theorem NetS.rules (h:NetS ins gs):∀g∈gs,g.2.ok (ac ins gs)/\g.2.dep<=10:=h.w.rules
theorem eX {X:Cx} {K:PySem.W.Frag} (h:X.K=K):OpR X (compareOp .NotIn) (rIn K true):=by subst h;exact bE
variable {pos p:Pos} {es a:List Expr}
theorem gK {X:Cx} {K:PySem.W.Frag} {k:Nat} {t:TGs} {n:Nat} (hK:X.K=K) (hc:X.calm=true) (h:PGs X es t)
  (hn:(assignEach es X.env).length=n:=by rfl) (hst:(assignEach es X.env).findIdx? (·.1)=none:=by rfl):PG X (.Tuple es k pos) (uG K n t):=by subst hK;exact gf hc h hn hst
theorem ic {A B:TS} {D:Ends} (J:St->Hp->Prop) (h:∀(R:St->Hp->Prop),(∀σ H,J σ H->R σ H)->A { D with nx:=R } σ H) (hJ:∀σ H,J σ H->B D σ H):rC A B D σ H:=h (B D) hJ
variable {env:Env}
theorem se_tup {n:Nat}:starEach (.Tuple a n p::es) env=(false,eval (.Tuple a n p) env)::starEach es env:=by rfl
theorem se_lst:starEach (.List a p::es) env=(false,eval (.List a p) env)::starEach es env:=by rfl
theorem se_call {f:Expr} {k:List Keyword}:starEach (.Call f a k p::es) env=(false,eval (.Call f a k p) env)::starEach es env:=by rfl
theorem be {c:Const} {n:Nat}:starEach (.Constant c n p::es) env=(false,eval (.Constant c n p) env)::starEach es env:=by rfl
theorem ah {x:Str}:starEach (.Name x p::es) env=(false,eval (.Name x p) env)::starEach es env:=by rfl
theorem se_sub {a b:Expr}:starEach (.Subscript a b p::es) env=(false,eval (.Subscript a b p) env)::starEach es env:=by rfl
theorem kZ {a b:Addr} {o:HO} (h1:H a=some o) (h2:H b=none):b≠a:=λz=>by rw[z,h1]at h2;cases h2
theorem gn {α β:Type} {F:α->β->Prop}:∀{xs:List α} {ys:List β} {x:α} {y:β},Paired F xs ys->F x y->Paired F (xs++[x]) (ys++[y])
 | _,_,_,_,.nil,h=>.cons h .nil
 | _,_,_,_,.cons h t,g=>.cons h (gn t g)
theorem bX {α β:Type} {F G:α->β->Prop} (h:∀a b,F a b->G a b):∀{xs:List α} {ys:List β},Paired F xs ys->Paired G xs ys
 | _,_,.nil=>.nil
 | _,_,.cons a t=>.cons (h _ _ a) (bX h t)
theorem paired_get {α β:Type} {F:α->β->Prop}:∀{xs:List α} {ys:List β} {i:Nat} {x:α},Paired F xs ys->xs[i]?=some x->∃y,ys[i]?=some y/\F x y
 | _,_,_,_,.nil,e=>by simp at e
 | _,_,0,_,.cons r _,e=>by simp at e;subst e;exact⟨_,rfl,r⟩
 | _,_,i+1,x,.cons _ t,e=>by
  obtain⟨u,h1,h2⟩:=paired_get (i:=i) (x:=x) t (by simpa using e);exact⟨u,by simpa using h1,h2⟩
theorem ifT {c:Bool} {A B:Prop} (hc:c=true) (h:A):if c=true then A else B:=by rw[QC hc];exact h
theorem ifF {c:Bool} {A B:Prop} (hc:c=false) (h:B):if c=true then A else B:=by subst hc;exact cz h
theorem aX {D:Addr} {o:HO} (S:ar H H') (hD:H D=none):ar H (upd H' D o):=λb u e=>by rw[ao (ay e hD)];exact S b u e
theorem aI {p:Addr} {o:HO} (h:H p=none) (e:upd H p o=H'):ar H H'/\H' p=some o:=by
 subst e;exact⟨al h,ai⟩
theorem aN {α β:Type} {F:α->β->Prop}:∀{xs:List α} {ys:List β},Paired F xs ys->xs.length=ys.length
 | _,_,.nil=>rfl
 | _,_,.cons h t=>by simp[aN t]
end K2
namespace K2
open PySem L2
abbrev SqLofQ:=@SqL.of
abbrev i_cQ:=@i_c
abbrev i_callQ:=@aH
abbrev i_consQ:=@af
abbrev i_ixTQ:=@ba
abbrev i_nilQ:=@av
abbrev i_opQ:=@aC
abbrev i_varQ:=@ae
abbrev iteFQ:=@cz
abbrev iteTQ:=@bO
abbrev pa_consQ:=@aa
abbrev pa_nilQ:=@ad
abbrev pe_intQ:=@ak
abbrev pe_strQ:=@aM
abbrev ps_ifQ:=@bI
abbrev pss_consQ:=@aq
abbrev pss_nilQ:=@aV
abbrev pss_oneQ:=@aw
abbrev s_asgQ:=@aU
abbrev s_nameQ:=@ap
abbrev se_conQ:=@be
abbrev se_nameQ:=@ah
local macro_rules | `(tactic| walk_at "vc") => `(tactic| first
 | ((refine' (?zz : (?zA → ?zG) → ?zA → ?zG) ?zr ?_); (case zr => with_reducible exact s_seqT); (case zz => exact fun _ q => q); intro D') | ((refine' (?zz : (?zA → ?zG) → ?zA → ?zG) ?zr ?_); (case zr => with_reducible first | exact s_asgQ | exact s_drop | exact s_ret | exact s_if | exact s_sub | exact s_next | exact i_cQ | exact i_opQ | exact i_test | exact i_tB | exact i_and | exact i_or | exact i_not | exact i_andV | exact i_orV | exact i_notV | exact i_ifE | exact i_nilQ | exact i_consQ | exact i_cb | exact i_tup | exact i_lst | exact i_bm | exact i_sl | exact i_nopart | exact i_part | exact s_for | exact s_rng1 | exact s_list | exact s_str | exact i_comp); (case zz => exact fun _ q => q))   | (with_reducible refine s_nameQ ?_)
 | ((with_reducible refine' i_varQ ?hv ?_); (case hv => exact rfl))   | (with_reducible first | refine i_rI0 ?_ | refine i_callQ ?_ | refine s_strI ?_ | refine iteFQ ?_ | refine iteTQ ?_)
 | ((with_reducible show ∃ i, V.int _ = V.int i ∧ _); (refine ⟨_, rfl, ?_⟩)) | ((with_reducible show ∃ k, V.bl _ = V.bl k ∧ _); (refine ⟨_, rfl, ?_⟩)) | ((with_reducible show (∃ i, [V.bl _] = [V.int i] ∧ _) ∨ _); (refine Or.inr ⟨_, rfl, ?_⟩))
 | ((with_reducible refine' i_ixL ?ha ?hb ?_); (case ha => exact SqLofQ (by assumption)); (case hb => exact rfl)) | ((with_reducible refine' i_ixTQ ?ha ?hb ?_); (case ha => assumption); (case hb => exact rfl))
 | ((with_reducible show ∃ p _, [V.ref _] = [V.ref p] ∧ (SqL _ _ _ _ ∨ SqT _ _ _ _) ∧ _); (refine' ⟨_, _, rfl, Or.inl (SqLofQ ?ha), ?_⟩); (case ha => assumption)) | ((with_reducible refine' s_setL ?ha ?hb ?_); (case ha => assumption); (case hb => exact rfl))
 | ((with_reducible refine' i_eq ?ha ?_); (case ha => exact rfl)) | ((with_reducible refine' i_ne ?ha ?_); (case ha => exact rfl)))
local macro_rules | `(tactic| walk_at "p") => `(tactic| repeat' (with_reducible first | (refine' pss_oneQ ?_; rotate_left 1) | (refine' pss_consQ ?_ ?_; rotate_left 2) | exact pss_nilQ | (refine' ps_ifQ ?_ ?_ ?_; rotate_left 3)))
local macro_rules | `(tactic| walk_at "b") => `(tactic| (refine' pss_consQ ?_ ?_; rotate_left 2; walk_at "p"))
local macro_rules | `(tactic| walk_at "f") => `(tactic| (refine' ps_for PassesOwn.never rfl ?_ ?_ ?_ (fun _ => rfl); rotate_left 3))
local macro_rules | `(tactic| walk_at "q") => `(tactic| repeat' (with_reducible first | exact pe_strQ | exact pe_intQ | exact pa_nilQ | (refine' pe_tup ?_; rotate_left 1) | (refine' pe_lst ?_; rotate_left 1) | (refine' pa_consQ ?_ ?_ se_conQ; rotate_left 2) | (refine' pa_consQ ?_ ?_ se_tup; rotate_left 2) | (refine' pa_consQ ?_ ?_ se_nameQ; rotate_left 2) | (refine' pa_consQ ?_ ?_ se_sub; rotate_left 2) | (refine' pa_consQ ?_ ?_ se_bin; rotate_left 2) | (refine' pa_consQ ?_ ?_ se_lst; rotate_left 2) | (refine' pa_consQ ?_ ?_ se_call; rotate_left 2) | (refine' pa_consQ ?_ ?_ se_lc; rotate_left 2)))
local macro_rules | `(tactic| walk_at "l") => `(tactic| (intro vs H Q E h; repeat (first | (obtain ⟨e, _⟩ := h; subst e; rfl) | (obtain ⟨_, h⟩ := h))))
local macro_rules | `(tactic| walk_at "e") => `(tactic| ((try dsimp only [cxOf, Cx.nox, Cx.wish]); (conv in (L2.start _ _) => simp only [L2.start, Qs, List.map_nil, QM, Q6, List.replicate_succ, List.replicate_zero, List.cons_append, List.nil_append, Nat.reduceAdd, Nat.reduceSub]); have big : 100000 < sizeLine := by decide))
local macro_rules | `(tactic| walk_at "s") => `(tactic| (with_reducible first | refine s_seq ?_ | refine s_if ?_ | refine s_next ?_ | refine i_or ?_ | refine s_nameQ ?_ | refine s_ret ?_))
local macro_rules|`(tactic|walk_at "w")=>`(tactic|repeat walk_at "vc")
local macro_rules|`(tactic|walk_at "k")=>`(tactic|exact⟨rfl,rfl,rfl,by decide +kernel,rfl,by decide +kernel,by decide +kernel⟩)
local macro_rules|`(tactic|walk_at "d")=>`(tactic|try dsimp only[cxOf,Cx.nox,Cx.wish])
def bA:Sp:=λvs H Q _=>∃a li lg ins gvs gs,vs=[.ref a]/\NAt H a li lg ins gvs gs/\NetOk ins gs/\∀l H',ar H H'->H l=none->H' l=some (.lst ((ac ins gs).map V.str))->Q (.ref l) H'
def gH:Sp:=λvs H Q _=>∃a li lg ins gvs gs,vs=[.ref a]/\NAt H a li lg ins gvs gs/\NetOk ins gs/\∀l H',ar H H'->H l=none->H' l=some (.lst ((gs.map (·.1)).map V.str))->Q (.ref l) H'
theorem oY {K:PySem.W.Frag} {σ:St} {H:Hp} {Q:VK} {i:Nat} {c:Int} {a li lg:Addr} {gvs vals:List V} (hσ:σ[i]?=some (some (.ref a))) (ha:H a=some (.tup [.ref li,.ref lg])) (hg:H lg=some (.lst gvs)) (hs:gvs.length<=1000)
  (hx:∀(j:Nat) x,gvs[j]?=some x->∃b ys v,x=.ref b/\H b=some (.tup ys)/\atI ys c=some v/\vals[j]?=some v) (hl:vals.length=gvs.length)
  (q:∀D H',H D=none->ar H H'->H' D=some (.lst vals)->Q (.ref D) H') :
  jj (lx K (tOp (mh K) (dE i) (tC (V.int 1)))) (ee 0) fz (tOp (mh K) (dE 0) (tC (V.int c))) (bF [Str.ofString "gate"] []) σ H Q:=by
 refine i_comp (s_list (aC (ae hσ (i_c (ba ha rfl ⟨lg,rfl,⟨_,SqL.of hg⟩,λD hD=>?_⟩)))));have big:1000<sizeLine:=by decide
 refine cB (xs:=gvs) (λn H' ys=>ar H H'/\H' D=some (.lst ys)/\ys=vals.take n) ⟨al hD,ai,by simp⟩ (λn H' ys p=>⟨p.2.1,SqL.of (p.1 _ _ hg)⟩) (λn x H' ys e p=>?_) (λH' ys p=>?_)
 ·obtain⟨S,hd,rfl⟩:=p;obtain⟨b,zs,v,rfl,hb,hv,hv2⟩:=hx n x e;have hn:n<gvs.length:=(Qc.mp e).1;refine ap ⟨trivial,?_⟩;refine i_yes (bO ?_);refine aC (ae rfl (i_c (ba (S _ _ hb) hv (bS.mk hd hn (by rw[QL];omega) ⟨aX S hD,ai,?_⟩))));rw[Q2,hv2];rfl
 obtain⟨S,hd,rfl⟩:=p;exact q D H' hD S (by rw[hd,QF (by omega)])
theorem bY {α β:Type} {F:α->β->Prop}:∀{xs:List α} {ys:List β},Paired F xs ys->∀(j:Nat) x,xs[j]?=some x->∃y,ys[j]?=some y/\F x y
 | _,_,.nil=>λj x e=>by simp at e
 | _,_,.cons (a:=a) (b:=b) h t=>λj x e=>by
  cases j with
  | zero=>simp at e;subst e;exact⟨_,rfl,h⟩
  | succ j=>simp at e;obtain⟨y,e',f⟩:=bY t j x e;exact⟨y,by simpa using e',f⟩
variable {gs:List (Str × Rl)}
theorem mJ {K:PySem.W.Frag} {σ:St} {H:Hp} {Q:VK} {i:Nat} {a li lg:Addr} {ins:List Str} {gvs:List V} (hσ:σ[i]?=some (some (.ref a))) (NA:NAt H a li lg ins gvs gs) (ok:NetOk ins gs)
  (q:∀D H',H D=none->ar H H'->H' D=some (.lst ((gs.map (·.1)).map V.str))->Q (.ref D) H') :
  jj (lx K (tOp (mh K) (dE i) (tC (V.int 1)))) (ee 0) fz (tOp (mh K) (dE 0) (tC (V.int 0))) (bF [Str.ofString "gate"] []) σ H Q:=by
 have l:=aN NA.gates;have g7:=ok.g7;refine oY (vals:=(gs.map (·.1)).map V.str) hσ NA.ha NA.hg (by omega) (λj x e=>?_) (by simp[l]) q;obtain⟨g,e',b,rv,rfl,hb,hr⟩:=bY NA.gates j x e;exact⟨b,_,_,rfl,hb,rfl,by simp[e']⟩
theorem je {ins:List Str} (ok:NetOk ins gs):(ins.map V.str).length+((gs.map (·.1)).map V.str).length<=sizeLine:=by
 have g7:=ok.g7;have i4:=ok.i4;have big:1000<sizeLine:=by decide
 simp only[Qd];omega
theorem jd (ins:List Str) (gs:List (Str × Rl)):ins.map V.str++(gs.map (·.1)).map V.str=(ac ins gs).map V.str:=by unfold ac;rw[Qm]
section
variable {P:Program} {w:World} {K:PySem.W.Frag} {mg:Str->Option Value} {base:Heap} {TT:Addr}
theorem kM:FnScope ["net"] ["net"] (am (top 19)):=by walk_at "k"
theorem qq {f:Addr} {fd:FuncData} (Fu:Fun K "gates_of" "gates_of" (top 19) f fd) (T:Txt K mg TT):FnOk P w K mg base CX0 1 f fd ["net"] gH:=by
 have S:=kM;refine Fu.ok S (by walk_at "l") (λcdv A outer s H vs Q E hr h=>?_);obtain⟨a,li,lg,ins,gvs,gs,rfl,NA,ok,k⟩:=h;refine⟨_,(aw (ax (cM (tgs:=["gate"]) (cap:=[]) rfl ⟨rfl,rfl,rfl,rfl,rfl,rfl⟩ (bh (aA aB (pv 0) ak (λ_ _=>rfl))) (λ_ _ _ _=>(aZ (i:=0) (show List.Nodup [("gate" : Str)] by decide +kernel) rfl (by walk_at "z"))) (λ_ _ _ _=>br) (λ_ _ _ _=>(aA (fN (K:=K) rfl) (pv 0) ak (λ_ _=>rfl)))))),?_⟩;walk_at "e";refine mJ (Q:=Q) rfl NA ok λD H2 hD s2 h2=>?_;exact k D H2 s2 hD h2
theorem kB:FnScope ["net"] ["net"] (am (top 20)):=by walk_at "k"
theorem qe {f:Addr} {fd:FuncData} (Fu:Fun K "wires_of" "wires_of" (top 20) f fd) (T:Txt K mg TT) (f_gates_of:Fn P w K mg base "gates_of" ["net"] 1 gH):FnOk P w K mg base CX0 2 f fd ["net"] bA:=by
 have S:=kB;refine Fu.ok S (by walk_at "l") (λcdv A outer s H vs Q E hr h=>?_);obtain⟨a,li,lg,ins,gvs,gs,rfl,NA,ok,k⟩:=h;obtain⟨ha,hi,hg,gts⟩:=id NA;refine⟨_,(aw (ax (aE c8 (cU fT (by rfl) T.n_list PyProof.Rows.boot_list (aa (aA aB (pv 0) ak (λ_ _=>rfl)) ad)) (au f_gates_of hr (aa (pv 0) ad))))),?_⟩;walk_at "e";walk_at "w";intro l hl;have s1:=al (o:=.lst (ins.map V.str)) hl;have NA1:=NA.same s1;walk_at "w";refine⟨a,li,lg,ins,gvs,gs,rfl,NA1,ok,λD H2 s2 hD h2=>?_⟩;have hl2:H2 l=some (.lst (ins.map V.str)):=s2 _ _ ai;refine eL hl2 h2 (je ok) λp hp=>?_;have hs:ar H (upd H2 p (HO.lst (ins.map V.str++(gs.map (·.1)).map V.str))):=s1.trans (s2.trans (al hp));refine k p _ hs (ar.free (s1.trans s2) hp) ?_;rw[ai,jd]
end
end K2
namespace K2
open PySem L2
local macro_rules | `(tactic| walk_at "vc") => `(tactic| first
 | ((refine' (?zz : (?zA → ?zG) → ?zA → ?zG) ?zr ?_); (case zr => with_reducible exact s_seqT); (case zz => exact fun _ q => q); intro D') | ((refine' (?zz : (?zA → ?zG) → ?zA → ?zG) ?zr ?_); (case zr => with_reducible first | exact s_asgQ | exact s_drop | exact s_ret | exact s_if | exact s_sub | exact s_next | exact i_cQ | exact i_opQ | exact i_test | exact i_tB | exact i_and | exact i_or | exact i_not | exact i_andV | exact i_orV | exact i_notV | exact i_ifE | exact i_nilQ | exact i_consQ | exact i_cb | exact i_tup | exact i_lst | exact i_bm | exact i_sl | exact i_nopart | exact i_part | exact s_for | exact s_rng1 | exact s_list | exact s_str | exact i_dget | exact i_yes | exact i_un); (case zz => exact fun _ q => q))   | (with_reducible refine s_nameQ ?_)
 | ((with_reducible refine' i_varQ ?hv ?_); (case hv => exact rfl))   | (with_reducible first | refine i_rI0 ?_ | refine i_callQ ?_ | refine s_strI ?_ | refine iteFQ ?_ | refine iteTQ ?_ | refine i_rU ?_)
 | ((with_reducible show ∃ i, V.int _ = V.int i ∧ _); (refine ⟨_, rfl, ?_⟩)) | ((with_reducible show ∃ k, V.bl _ = V.bl k ∧ _); (refine ⟨_, rfl, ?_⟩)) | ((with_reducible show (∃ i, [V.bl _] = [V.int i] ∧ _) ∨ _); (refine Or.inr ⟨_, rfl, ?_⟩))
 | ((with_reducible refine' i_ixL ?ha ?hb ?_); (case ha => exact SqLofQ (by assumption)); (case hb => exact rfl)) | ((with_reducible refine' i_ixTQ ?ha ?hb ?_); (case ha => assumption); (case hb => exact rfl))
 | ((with_reducible show ∃ p _, [V.ref _] = [V.ref p] ∧ (SqL _ _ _ _ ∨ SqT _ _ _ _) ∧ _); (refine' ⟨_, _, rfl, Or.inl (SqLofQ ?ha), ?_⟩); (case ha => assumption)) | ((with_reducible refine' s_setL ?ha ?hb ?_); (case ha => assumption); (case hb => exact rfl))
 | ((with_reducible refine' i_eq ?ha ?_); (case ha => exact rfl)) | ((with_reducible refine' i_ne ?ha ?_); (case ha => exact rfl))
 | ((with_reducible show ∃ z, V.str _ = V.str z ∧ _); (refine ⟨_, rfl, ?_⟩))
 | ((with_reducible refine' i_rI ?hv ?_); (case hv => first | decide | (dsimp only; omega) | exact .inl ⟨by omega, by omega⟩ | exact .inr ⟨by omega, by omega⟩ | exact ⟨by decide, by decide⟩ | exact ⟨by decide, by decide, by decide⟩ | exact ⟨by omega, by omega⟩))
 | ((with_reducible show ∃ i, [V.int _] = [V.int i] ∧ _); (refine ⟨_, rfl, ?_⟩))
 | ((with_reducible show tyV _ "list" _ _ ∧ _); (refine' ⟨i_tyL ?ha, ?_⟩); (case ha => assumption)))
local macro_rules | `(tactic| walk_at "p") => `(tactic| repeat' (with_reducible first | (refine' pss_oneQ ?_; rotate_left 1) | (refine' pss_consQ ?_ ?_; rotate_left 2) | exact pss_nilQ | (refine' ps_ifQ ?_ ?_ ?_; rotate_left 3)))
local macro_rules | `(tactic| walk_at "b") => `(tactic| (refine' pss_consQ ?_ ?_; rotate_left 2; walk_at "p"))
local macro_rules | `(tactic| walk_at "f") => `(tactic| (refine' ps_for PassesOwn.never rfl ?_ ?_ ?_ (fun _ => rfl); rotate_left 3))
local macro_rules | `(tactic| walk_at "q") => `(tactic| repeat' (with_reducible first | exact pe_strQ | exact pe_intQ | exact pa_nilQ | (refine' pe_tup ?_; rotate_left 1) | (refine' pe_lst ?_; rotate_left 1) | (refine' pa_consQ ?_ ?_ se_conQ; rotate_left 2) | (refine' pa_consQ ?_ ?_ se_tup; rotate_left 2) | (refine' pa_consQ ?_ ?_ se_nameQ; rotate_left 2) | (refine' pa_consQ ?_ ?_ se_sub; rotate_left 2) | (refine' pa_consQ ?_ ?_ se_bin; rotate_left 2) | (refine' pa_consQ ?_ ?_ se_lst; rotate_left 2) | (refine' pa_consQ ?_ ?_ se_call; rotate_left 2) | (refine' pa_consQ ?_ ?_ se_lc; rotate_left 2)))
local macro_rules | `(tactic| walk_at "l") => `(tactic| (intro vs H Q E h; repeat (first | (obtain ⟨e, _⟩ := h; subst e; rfl) | (obtain ⟨_, h⟩ := h))))
local macro_rules | `(tactic| walk_at "e") => `(tactic| ((try dsimp only [cxOf, Cx.nox, Cx.wish]); (conv in (L2.start _ _) => simp only [L2.start, Qs, List.map_nil, QM, Q6, List.replicate_succ, List.replicate_zero, List.cons_append, List.nil_append, Nat.reduceAdd, Nat.reduceSub]); have big : 100000 < sizeLine := by decide))
local macro_rules | `(tactic| walk_at "s") => `(tactic| (with_reducible first | refine s_seq ?_ | refine s_if ?_ | refine s_next ?_ | refine i_or ?_ | refine s_nameQ ?_ | refine s_ret ?_))
local macro_rules|`(tactic|walk_at "w")=>`(tactic|repeat walk_at "vc")
local macro_rules|`(tactic|walk_at "k")=>`(tactic|exact⟨rfl,rfl,rfl,by decide +kernel,rfl,by decide +kernel,by decide +kernel⟩)
local macro_rules|`(tactic|walk_at "d")=>`(tactic|try dsimp only[cxOf,Cx.nox,Cx.wish])
def l0:Sp:=λvs H Q _=>∃a xs,vs=[.ref a]/\H a=some (.tup xs)/\xs.length<=1000/\Q (.bl (decide (xs.length=2))) H
def l4:Sp:=λvs H Q _=>∃z,vs=[.str z]/\Low z/\∀H',ar H H'->Q (.bl true) H'
variable {H:Hp}
theorem kb {r r':R2} {ta tb tc:TE} {σ:St} {Q:VK} (q:ta σ H λx H1=>tb σ H1 λy H2=>r x y H2 λz H3=>∃k,z=.bl k/\(if k=true then tc σ H3 λw' H4=>r' y w' H4 Q else Q (.bl false) H3)):lY r r' ta tb tc σ H Q:=q
theorem ut {c:Nat} (h:97<=c/\c<=122):(!(Builtin.Str.occurrences (Str.ofString "abcdefghijklmnopqrstuvwxyz") (⟨#[c]⟩:Str) 0 (Str.ofString "abcdefghijklmnopqrstuvwxyz").length 1).isEmpty)=true:=by
 have all:∀k:Fin 26,(!(Builtin.Str.occurrences (Str.ofString "abcdefghijklmnopqrstuvwxyz") (⟨#[97+k.val]⟩:Str) 0 (Str.ofString "abcdefghijklmnopqrstuvwxyz").length 1).isEmpty)=true:=by decide +kernel
 have q:=all ⟨c-97,by omega⟩;have e:97+(c-97)=c:=by omega
 simpa only[e] using q
variable {P:Program} {w:World} {K:PySem.W.Frag} {mg:Str->Option Value} {base:Heap} {TT:Addr}
section
theorem ma:FnScope ["thing"] ["thing"] (am (top 15)):=by walk_at "k"
theorem r9 {f:Addr} {fd:FuncData} (Fu:Fun K "is_pair" "is_pair" (top 15) f fd) (T:Txt K mg TT):FnOk P w K mg base CX0 1 f fd ["thing"] l0:=by
 have S:=ma;refine Fu.ok S (by walk_at "l") (λcdv A outer s H vs Q E hr h=>?_);obtain⟨a,xs,rfl,ha,hx,q⟩:=h;refine⟨_,(aw (ax (eC (aD bp (by rfl) T.n_isinstance QG (aa (pv 0) (aa (cG (v:=.ty "tuple") (by rfl) T.n_tuple PyProof.Rows.boot_tuple rfl) ad))) (c7 (bD cO (aD aK (by rfl) T.n_len QH (aa (pv 0) ad)) ak (aQ _)))))),?_⟩;walk_at "e";walk_at "w";refine⟨_,_,_,true,rfl,.tup ha,bR _,?_⟩;refine⟨_,rfl,bO ?_⟩;walk_at "w";refine⟨a,xs,rfl,.inr (SqT.of ha),?_⟩;walk_at "w"
 have e:decide (V.int ↑xs.length=V.int 2)=decide (xs.length=2):=by
  rw[Bool.eq_iff_iff,decide_eq_true_iff,decide_eq_true_iff]
  constructor
  ·intro h;injection h with h;omega
  intro h;rw[h];rfl
 rw[e];exact q
theorem me:FnScope ["thing"] ["thing"] (am (top 13)):=by walk_at "k"
theorem sd {f:Addr} {fd:FuncData} (Fu:Fun K "is_name" "is_name" (top 13) f fd) (T:Txt K mg TT):FnOk P w K mg base CX0 1 f fd ["thing"] l4:=by
 have S:=me;refine Fu.ok S (by walk_at "l") (λcdv A outer s H vs Q E hr h=>?_);obtain⟨z,rfl,lz,q⟩:=h;obtain⟨_,gLT⟩:=T.lETTERS;obtain⟨_,gML⟩:=T.mLETTERS
 refine⟨_,(aq (bI (PW.pt (d9 (bM (bL (aD bp (by rfl) T.n_isinstance QG (aa (pv 0) (aa (cG (v:=.ty "str") (by rfl) T.n_str PyProof.Rows.boot_str rfl) ad))))) (du (bM (kN nq nq ak (aD fU (by rfl) T.n_len QH (aa (pv 0) ad)) (dm (v:=.int 8) (by rfl) gML ⟨_,rfl⟩)))))) (aw (ax cN)) aV)
  (aw (ax (aD (dN rfl) (by rfl) T.n_all PyProof.Rows.boot_all (aa (cM (tgs:=["sign"]) (cap:=[]) rfl ⟨rfl,rfl,rfl,rfl,rfl,rfl⟩ (pP (pv 0)) (λ_ _ _ _=>(aZ (i:=0) (show List.Nodup [("sign" : Str)] by decide +kernel) rfl (by walk_at "z"))) (λ_ _ _ _=>br) (λ_ _ _ _=>(bD om (pv 0) (dm (v:=.str "abcdefghijklmnopqrstuvwxyz") (by rfl) gLT ⟨_,rfl⟩) rfl))) ad))))),?_⟩
 walk_at "e";walk_at "w";refine⟨_,_,_,_,rfl,TyOf.str z,bR "str", ?_⟩;refine⟨_,rfl,cz ?_⟩;have big:1000<sizeLine:=by decide
 have l1:=lz.l1;have l8:=lz.l8;walk_at "w";refine kb ?_;walk_at "w";refine⟨_,rfl,by omega,?_⟩;walk_at "w";refine ifT (Qy (by omega)) ?_;walk_at "w";refine ifF (by rw[Qy (by omega)];rfl) ?_;walk_at "w";refine i_comp ?_;walk_at "w";intro D hD;refine lL (λn H' ys=>ar H H'/\H' D=some (.lst ys)/\ys=(List.replicate n true).map V.bl) ⟨al hD,ai,rfl⟩ (λn H' ys p=>p.2.1) (λn H' ys hn p=>?_) (λH' ys p=>?_)
 ·obtain⟨Sm,hd,rfl⟩:=p;refine ap ⟨trivial,i_yes (bO ?_)⟩;refine aC (ae rfl (i_c ⟨_,_,rfl,rfl,?_⟩));refine bS.mk hd hn (by rw[Qd,Q8];have:z.cps.size=z.length:=rfl;omega) ⟨aX Sm hD,ai,?_⟩
  have hc:=ut (c:=z.cps.getD n 0) (by
   have e:z.cps.getD n 0=z.cps[n]:=by simp[Array.getD,hn]
   rw[e]
   exact lz.low _ (by simp))
  rw[List.replicate_succ',Qm];exact congrArg (λb=>List.map V.bl (List.replicate n true)++[V.bl b]) hc
 obtain⟨Sm,hd,rfl⟩:=p;refine av ⟨_,_,rfl,SqL.of hd,?_⟩;have e:(List.replicate z.cps.size true).all id=true:=by simp
 rw[e];exact q H' Sm
end
def gX:Sp:=λvs H Q _=>∃(l:Addr) (ts:List Str),vs=[.ref l]/\H l=some (.lst (ts.map V.str))/\ts.length<=100/\(∀z∈ts,Low z)/\∀H',ar H H'->Q (.bl (decide ts.Nodup)) H'
theorem uD {K:PySem.W.Frag} {ta:TA} {σ:St} {Q:VK} (q:ta σ H λvs H1=>∃(l:Addr) (ts:List Str),vs=[.ref l]/\SqL K H1 l (ts.map V.str)/\ts.length<1000/\Q (.int (nO ts)) H1):mU K ta σ H Q:=q
section
theorem eT:FnScope ["things"] ["things"] (am (top 17)):=by walk_at "k"
theorem oq {f:Addr} {fd:FuncData} (Fu:Fun K "are_unlike_names" "are_unlike_names" (top 17) f fd) (T:Txt K mg TT) (f_is_name:Fn P w K mg base "is_name" ["thing"] 1 l4):FnOk P w K mg base CX0 2 f fd ["things"] gX:=by
 have S:=eT;refine Fu.ok S (by walk_at "l") (λcdv A outer s H vs Q E hr h=>?_);obtain⟨l,ts,rfl,hl,sz,low,q⟩:=h;refine⟨_,(aw (ax (eC (aD (dN rfl) (by rfl) T.n_all PyProof.Rows.boot_all (aa (cM (tgs:=["thing"]) (cap:=[]) rfl ⟨rfl,rfl,rfl,rfl,rfl,rfl⟩ (bh (pv 0)) (λ_ _ _ _=>(aZ (i:=0) (show List.Nodup [("thing" : Str)] by decide +kernel) rfl (by walk_at "z"))) (λ_ _ _ _=>br) (λ_ _ _ _=>(au f_is_name hr (aa (pv 0) ad)))) ad)) (c7 (bD cO (og rfl (by rfl) T.n_len (by rfl) T.n_set (aa (pv 0) ad)) (aD aK (by rfl) T.n_len QH (aa (pv 0) ad)) (aQ _)))))),?_⟩;walk_at "e";walk_at "w";refine i_comp ?_;walk_at "w";refine⟨l,rfl,⟨_,SqL.of hl⟩,λD hD=>?_⟩;refine cB (xs:=ts.map V.str) (λn H' ys=>ar H H'/\H' D=some (.lst ys)/\ys=(List.replicate n true).map V.bl) ⟨al hD,ai,rfl⟩ (λn H' ys p=>⟨p.2.1,SqL.of (p.1 _ _ hl)⟩) (λn x H' ys e p=>?_) (λH' ys p=>?_)
 ·obtain⟨Sm,hd,rfl⟩:=p;have hn:n<(ts.map V.str).length:=(Qc.mp e).1;rw[Qk]at e
  obtain⟨z,hz,rfl⟩:∃z,ts[n]?=some z/\V.str z=x:=by
   cases h:ts[n]? with
   | none=>rw[h]at e;cases e
   | some z=>rw[h]at e;exact⟨z,rfl,QR e⟩
  refine ap ⟨trivial,i_yes (bO ?_)⟩;refine aH (af (ae rfl (av ⟨z,rfl,low z (Qq hz),λH2 S2=>?_⟩)));refine bS.mk (S2 _ _ hd) hn (by rw[Qd,Q8];rw[Qd]at hn;omega) ⟨aX (Sm.trans S2) hD,ai,?_⟩;rw[List.replicate_succ',Qm];rfl
 obtain⟨Sm,hd,rfl⟩:=p;refine av ⟨_,_,rfl,SqL.of hd,?_⟩;have e:(List.replicate (ts.map V.str).length true).all id=true:=by simp
 rw[e];have hl':=Sm _ _ hl;refine⟨_,rfl,bO ?_⟩;walk_at "w";refine uD ?_;walk_at "w";refine⟨l,ts,rfl,SqL.of hl',by omega,?_⟩;walk_at "w"
 have e2:decide (V.int (nO ts)=V.int ((ts.map V.str).length:Nat))=decide ts.Nodup:=by
  rw[Bool.eq_iff_iff,decide_eq_true_iff,decide_eq_true_iff,<-pb,Qd]
  constructor
  ·intro h;injection h with h;omega
  intro h;rw[h]
 rw[e2];exact q H' Sm
end
def fB (d:Nat):Sp:=λvs H Q _=>∃(v:V) (r:Rl) (l:Addr) (ws:List Str) (n:Int),vs=[v,.ref l,.int n]/\RAt H v r/\r.dep<=d/\(r.dep:Int)<=n/\n<=100/\r.ok ws/\H l=some (.lst (ws.map V.str))/\ws.length<=100/\∀H',ar H H'->Q (.bl true) H'
theorem sw {ty:TE} {σ:St} {Q:VK} (q:ty σ H λy H1=>∃p∈eD,y=.str p.1/\Q (.int p.2) H1):pd ty σ H Q:=q
theorem bt {nm:Str}:∀{ns:List Str},inV (.str nm) (ns.map V.str)=true↔nm∈ns
 | []=>by simp[inV]
 | n::ns=>by
  have ih:=bt (nm:=nm) (ns:=ns);unfold inV at ih ⊢;rw[Qs,List.any_cons,Bool.or_eq_true,ih,QE];have:eqV (.str n) (.str nm)=(n==nm):=rfl;rw[this,beq_iff_eq];exact⟨λh=>h.imp Eq.symm id,λh=>h.imp Eq.symm id⟩
theorem bx (ns:List Str):(ns.map V.str).all cq=true:=by
 rw[QU];intro x hx;obtain⟨n,_,rfl⟩:=Qu.mp hx;rfl
theorem m_ (n d:Nat):HT.sIx (n+1) d (some 1)=1:=by
 show HT.sIx (n+1) d (some ((1:Nat):Int))=1;rw[HT.rH];omega
theorem sF (x:V) (as:List V):ja (x::as) (some 1) none=as:=by
 unfold ja;rw[QM,m_,HT.pE];simp
variable {ws ns ms i1 i2:List Str}
theorem rK {v:V} {r:Rl} (ra:RAt H v r) (rok:r.ok ws):∃(b:Addr) (p:Str × Int) (as:List V),v=.ref b/\H b=some (.tup (.str p.1::as))/\p∈eD/\p.2=(as.length:Int)+1/\as.length<=2/\1<=as.length /\
  ((p.1 = "wire" /\ ∃nm,as=[.str nm]/\nm∈ws)\/(p.1 ≠ "wire" /\ ∀x∈as,∃r',RAt H x r'/\r'.dep+1<=r.dep/\r'.ok ws)):=by
 cases ra with
 | @w b n hb=>exact⟨b,("wire", 2),[.str n],rfl,hb,by simp[eD],rfl,by simp,by simp,.inl ⟨rfl,n,rfl,rok⟩⟩
 | @no b u r hb h1 =>
  refine⟨b,("not", 2),[u],rfl,hb,by simp[eD],rfl,by simp,by simp,.inr ⟨by decide +kernel,λx hx=>?_⟩⟩;obtain rfl:=QJ.mp hx;exact⟨r,h1,by simp[Rl.dep],rok⟩
 | @an b u x r1 r2 hb h1 h2 =>
  refine⟨b,("and", 3),[u,x],rfl,hb,by simp[eD],rfl,by simp,by simp,.inr ⟨by decide +kernel,λy hy=>?_⟩⟩;rcases QE.mp hy with e|e
  ·subst e;exact⟨r1,h1,by simp only[Rl.dep];omega,rok.1⟩
  obtain rfl:=QJ.mp e;exact⟨r2,h2,by simp only[Rl.dep];omega,rok.2⟩
 | @orr b u x r1 r2 hb h1 h2 =>
 refine⟨b,("or", 3),[u,x],rfl,hb,by simp[eD],rfl,by simp,by simp,.inr ⟨by decide +kernel,λy hy=>?_⟩⟩;rcases QE.mp hy with e|e
 ·subst e;exact⟨r1,h1,by simp only[Rl.dep];omega,rok.1⟩
 obtain rfl:=QJ.mp e;exact⟨r2,h2,by simp only[Rl.dep];omega,rok.2⟩
section
theorem dX {k:Nat} {f:Addr} {fd:FuncData} {ps:List Str} {sp:Sp} (h:∀vs H Q E,sp vs H Q E->False):FnOk P w K mg base CX0 k f fd ps sp :=
 ⟨λvs H Q E q=>(h vs H Q E q).elim,λ_ _ _ _ _ _ vs Q E _ _ _ _ q=>(h _ _ _ _ q).elim⟩
theorem gL (r:Rl):1<=r.dep:=by cases r <;> simp[Rl.dep]
theorem l_:FnScope ["thing", "wires", "depth", "kind"] ["thing", "wires", "depth"] (am (top 14)):=by walk_at "k"
theorem jq {f:Addr} {fd:FuncData} (Fu:Fun K "is_rule" "is_rule" (top 14) f fd) (T:Txt K mg TT) (hm:mg "is_rule" = some (.ref f)) (hk:PySem.W.keepIn K (.ref f)=true) (hb:fb K fd ["thing", "wires", "depth"] []):∀d,FnOk P w K mg base CX0 d f fd ["thing", "wires", "depth"] (fB d)
 | 0=>dX λvs H Q E ⟨v,r,l,ws,n,_,_,h,_⟩=>by have:=gL r;omega
 | d+1=>by
  have S:=l_;have f_is_rule:Fn P w K mg base "is_rule" ["thing", "wires", "depth"] d (fB d):=⟨f,fd,jq Fu T hm hk hb d,hm,hk,hb⟩;refine Fu.ok S (λvs H Q E h=>?_) (λcdv A outer s H vs Q E hr h=>?_)
  ·obtain⟨v,r,l,ws,n,rfl,_⟩:=h;rfl
  obtain⟨v,r,l,ws,n,rfl,ra,hd,hn,hn2,rok,hl,hw,q⟩:=h;have hu:=db hr;have dp:=gL r
  refine⟨_,(aq (bI (PW.pt (d9 (aG kT (pv 2) ak (aQ _)) (d9 (bM (bL (aD bp (by rfl) T.n_isinstance QG (aa (pv 0) (aa (cG (v:=.ty "tuple") (by rfl) T.n_tuple PyProof.Rows.boot_tuple rfl) ad))))) (du (aG cO (aD aK (by rfl) T.n_len QH (aa (pv 0) ad)) ak (aQ _)))))) (aw (ax cN)) aV)
  (aq (aF 3 S.nd (aA aB (pv 0) ak (λ_ _=>rfl)))
  (aq (bI (PW.pt (d9 (bM (bL (aD bp (by rfl) T.n_isinstance QG (aa (pv 3) (aa (cG (v:=.ty "str") (by rfl) T.n_str PyProof.Rows.boot_str rfl) ad))))) (du (aG gp (pR T.tab (dm (v:=.ref TT) (by rfl) T.pARTS rfl) (pv 3) ⟨rfl,rfl,rfl,rfl⟩) (aD aK (by rfl) T.n_len QH (aa (pv 0) ad)) (aQ _))))) (aw (ax cN)) aV)
  (aq (bI (aG cO (pv 3) aM (aQ _)) (aw (ax (eC (aD bp (by rfl) T.n_isinstance QG (aa (aA aB (pv 0) ak (λ_ _=>rfl)) (aa (cG (v:=.ty "str") (by rfl) T.n_str PyProof.Rows.boot_str rfl) ad))) (c7 (bD dI (aA aB (pv 0) ak (λ_ _=>rfl)) (pv 1) rfl))))) aV)
  (aw (ax (aD (dN rfl) (by rfl) T.n_all PyProof.Rows.boot_all (aa (cM (tgs:=["part"]) (cap:=[("wires", 1),("depth", 2)]) rfl ⟨rfl,rfl,rfl,rfl,rfl,rfl⟩ (ue (c6 t0 (pv 0) (dR ak) dS)) (λ_ _ _ _=>(aZ (i:=0) (show List.Nodup [("part" : Str),("wires" : Str),("depth" : Str)] by decide +kernel) rfl (by walk_at "z"))) (λ_ _ _ _=>br) (λ_ _ _ _=>(au f_is_rule hr (aa (pv 0) (aa (pv 1) (aa (aE j5 (pv 2) ak) ad)))))) ad)))))))),?_⟩
  walk_at "e";obtain⟨b,p,as,rfl,hb,hp,hp2,a2,a1,ways⟩:=rK ra rok;have big:1000<sizeLine:=by decide
  walk_at "w";refine ifF (Qo (by omega)) ?_;walk_at "w";refine⟨_,_,_,_,rfl,.tup hb,bR "tuple", ?_⟩;refine⟨_,rfl,cz ?_⟩;walk_at "w";refine⟨b,_,rfl,.inr (SqT.of hb),?_⟩;walk_at "w";refine ifF (Qo λh=>by injection h with h;simp at h;omega) ?_;walk_at "w";refine ba hb (d4 (j:=0) rfl) ?_;walk_at "w";refine⟨_,_,_,_,rfl,TyOf.str p.1,bR "str", ?_⟩;refine⟨_,rfl,cz ?_⟩;walk_at "w";refine sw ?_;walk_at "w";refine⟨p,hp,rfl,?_⟩;walk_at "w";refine⟨b,_,rfl,.inr (SqT.of hb),?_⟩;walk_at "w"
  refine ifF (by
   have e:V.int p.2=V.int ((V.str p.1::as).length:Nat):=by rw[hp2];simp
   rw[e];simp) ?_
  walk_at "w";rcases ways with⟨e,nm,rfl,hin⟩|⟨e,subs⟩
  ·refine ifT (by rw[e];decide +kernel) ?_;walk_at "w";refine⟨_,_,_,_,rfl,TyOf.str nm,bR "str", ?_⟩;refine⟨_,rfl,bO ?_⟩;walk_at "w";refine⟨l,_,rfl,.inl (SqL.of hl),rfl,bx ws,?_⟩;have z:inV (.str nm) (ws.map V.str)=true:=bt.mpr hin;show Q (.bl (inV (.str nm) (ws.map V.str))) H;rw[z];exact q H (ar.refl H)
  refine ifF (Qo λh=>by injection h with h;exact e h) ?_;walk_at "w";refine i_comp (uW ?_);walk_at "w";refine⟨b,_,rfl,SqT.of hb,?_,λc hc=>?_⟩
  ·intro h;have h1:=h.1;rw[QM,m_]at h1;cases h1
  rw[sF];have S1:=al (o:=.tup as) hc;have hcT:upd H c (.tup as) c=some (.tup as):=ai;generalize upd H c (.tup as)=H1 at S1 hcT;refine⟨c,rfl,⟨_,SqT.of hcT⟩,λD hD=>?_⟩;refine q0 (xs:=as) (λm H' ys=>ar H1 H'/\H' D=some (.lst ys)/\ys=(List.replicate m true).map V.bl) ⟨al hD,ai,rfl⟩ (λm H' ys p=>⟨p.2.1,SqT.of (p.1 _ _ hcT)⟩) (λm x H' ys e p=>?_) (λH' ys p=>?_)
  ·obtain⟨Sm,hd',rfl⟩:=p;have hm':m<as.length:=(Qc.mp e).1;obtain⟨r',h1,h2,h3⟩:=subs x (Qq e);refine ap ⟨by refine⟨?_,?_,?_⟩ <;> first|rfl|trivial,i_yes (bO ?_)⟩;walk_at "w";refine⟨x,r',l,ws,n-1,rfl,h1.mono (ar.tups (S1.trans Sm)),by omega,by omega,by omega,h3,(S1.trans Sm) _ _ hl,hw,λH2 S2=>?_⟩;refine bS.mk (S2 _ _ hd') hm' (by rw[Qd,Q8];omega) ⟨aX (Sm.trans S2) hD,ai,?_⟩;rw[List.replicate_succ',Qm];rfl
  obtain⟨Sm,hd',rfl⟩:=p;refine av ⟨_,_,rfl,SqL.of hd',?_⟩;have e:(List.replicate as.length true).all id=true:=by simp
  rw[e];exact q H' (S1.trans Sm)
end
def jR:Sp:=λvs H Q _=>∃a li lg ins gvs gs,vs=[.ref a]/\NAt H a li lg ins gvs gs/\NetOk ins gs/\∀H',ar H H'->Q (.bl (decide (gx ins gs))) H'
section
theorem nZ:FnScope ["thing", "inputs", "gates", "wires"] ["thing"] (am (top 18)):=by walk_at "k"
theorem qp {f:Addr} {fd:FuncData} (Fu:Fun K "is_net" "is_net" (top 18) f fd) (T:Txt K mg TT) (f_is_pair:Fn P w K mg base "is_pair" ["thing"] 1 l0) (f_wires_of:Fn P w K mg base "wires_of" ["net"] 2 bA)
  (f_are_unlike_names:Fn P w K mg base "are_unlike_names" ["things"] 2 gX) (f_is_rule:Fn P w K mg base "is_rule" ["thing", "wires", "depth"] 10 (fB 10)):FnOk P w K mg base CX0 11 f fd ["thing"] jR:=by
 have S:=nZ;refine Fu.ok S (by walk_at "l") (λcdv A outer s H vs Q E hr h=>?_);obtain⟨a,li,lg,ins,gvs,gs,rfl,NA,ok,q⟩:=h;obtain⟨_,gMR⟩:=T.mRULES;obtain⟨_,gMI⟩:=T.mINPUTS;obtain⟨_,gMG⟩:=T.mGATES;obtain⟨ha,hi,hg,gts⟩:=id NA;have hu:=db hr;have big:1000<sizeLine:=by decide
 have gl:=aN gts;have i4:=ok.i4;have g7:=ok.g7
 refine⟨_,(aq (bI (PW.pt (d9 (bM (bL (au f_is_pair hr (aa (pv 0) ad)))) (d9 (bM (bL (aD bp (by rfl) T.n_isinstance QG (aa (aA aB (pv 0) ak (λ_ _=>rfl)) (aa (cG (v:=.ty "list") (by rfl) T.n_list PyProof.Rows.boot_list rfl) ad))))) (du (bM (bL (aD bp (by rfl) T.n_isinstance QG (aa (aA aB (pv 0) ak (λ_ _=>rfl)) (aa (cG (v:=.ty "list") (by rfl) T.n_list PyProof.Rows.boot_list rfl) ad))))))))) (aw (ax cN)) aV)
  (aq (aF 1 S.nd (aA aB (pv 0) ak (λ_ _=>rfl)))
  (aq (aF 2 S.nd (aA aB (pv 0) ak (λ_ _=>rfl)))
  (aq (bI (PW.pt (d9 (aG u5 (aD aK (by rfl) T.n_len QH (aa (pv 1) ad)) (dm (v:=.int 4) (by rfl) gMI ⟨_,rfl⟩) (aQ _)) (du (bM (kN nq nq ak (aD aK (by rfl) T.n_len QH (aa (pv 2) ad)) (dm (v:=.int 7) (by rfl) gMG ⟨_,rfl⟩)))))) (aw (ax cN)) aV)
  (aq (bI (bM (bL (aD (dN rfl) (by rfl) T.n_all PyProof.Rows.boot_all (aa (cM (tgs:=["gate"]) (cap:=[]) rfl ⟨rfl,rfl,rfl,rfl,rfl,rfl⟩ (bh (pv 2)) (λ_ _ _ _=>(aZ (i:=0) (show List.Nodup [("gate" : Str)] by decide +kernel) rfl (by walk_at "z"))) (λ_ _ _ _=>br) (λ_ _ _ _=>(au f_is_pair hr (aa (pv 0) ad)))) ad)))) (aw (ax cN)) aV)
  (aq (aF 3 S.nd (au f_wires_of hr (aa (pv 0) ad)))
  (aq (bI (bM (bL (au f_are_unlike_names hr (aa (pv 3) ad)))) (aw (ax cN)) aV)
  (aw (ax (aD (dN rfl) (by rfl) T.n_all PyProof.Rows.boot_all (aa (cM (tgs:=["gate"]) (cap:=[("wires", 3)]) rfl ⟨rfl,rfl,rfl,rfl,rfl,rfl⟩ (bh (pv 2)) (λ_ _ _ _=>(aZ (i:=0) (show List.Nodup [("gate" : Str),("wires" : Str)] by decide +kernel) rfl (by walk_at "z"))) (λ_ _ _ _=>br) (λ_ _ _ _=>(au f_is_rule hr (aa (aA (fN (K:=K) rfl) (pv 0) ak (λ_ _=>rfl)) (aa (pv 1) (aa (dm (v:=.int 10) (by rfl) gMR ⟨_,rfl⟩) ad)))))) ad))))))))))),?_⟩
 walk_at "e";walk_at "w";refine⟨a,_,rfl,ha,by simp,?_⟩;refine⟨_,rfl,ifF rfl ?_⟩;walk_at "w";refine⟨_,_,_,_,rfl,.lst hi,bR "list", ?_⟩;refine⟨_,rfl,cz ?_⟩;walk_at "w";refine⟨_,_,_,_,rfl,.lst hg,bR "list", ?_⟩;refine⟨_,rfl,cz ?_⟩;walk_at "w"
 have no:∀{H'},ar H H'->¬gx ins gs->Q (.bl false) H':=λS' c=>by
  have z:=q _ S';rw[Qo c]at z;exact z
 by_cases c1:ins.length<=4
 ·refine ifF (Qo (by rw[Qd];omega)) ?_;walk_at "w";refine kb ?_;walk_at "w";by_cases c2:1<=gs.length
  ·refine ifT (Qy (by omega)) ?_;walk_at "w";by_cases c3:gs.length<=7
   ·refine ifF (by rw[Qy (show (gvs.length:Int)<=7 by omega)];rfl) ?_;walk_at "w";refine i_comp (s_list (ae rfl ⟨lg,rfl,⟨_,SqL.of hg⟩,λD hD=>?_⟩));refine cB (xs:=gvs) (λm H' ys=>ar H H'/\H' D=some (.lst ys)/\ys=(List.replicate m true).map V.bl) ⟨al hD,ai,rfl⟩ (λm H' ys p=>⟨p.2.1,SqL.of (p.1 _ _ hg)⟩) (λm x H' ys e p=>?_) (λH' ys p=>?_)
    ·obtain⟨Sm,hd,rfl⟩:=p;have hn:m<gvs.length:=(Qc.mp e).1;obtain⟨g,e',b,rv,rfl,hb,hrr⟩:=bY gts m x e;refine ap ⟨trivial,i_yes (bO ?_)⟩;refine aH (af (ae rfl (av ⟨b,_,rfl,Sm _ _ hb,by simp,?_⟩)));exact bS.mk hd hn (by rw[Qd,Q8];omega) ⟨aX Sm hD,ai,by rw[List.replicate_succ',Qm];rfl⟩
    obtain⟨Sm,hd,rfl⟩:=p;refine av ⟨_,_,rfl,SqL.of hd,?_⟩;have e:(List.replicate gvs.length true).all id=true:=by simp
    rw[e];refine⟨_,rfl,cz ?_⟩;walk_at "w";refine⟨a,li,lg,ins,gvs,gs,rfl,NA.same Sm,ok,λlw H2 S2 nw hw=>?_⟩;walk_at "w";have wl:(ac ins gs).length<=100:=by unfold ac;rw[Qh,Qd];omega
    refine⟨lw,ac ins gs,rfl,hw,wl,ok.low,λH3 S3=>?_⟩;refine⟨_,rfl,?_⟩;have S03:=(Sm.trans S2).trans S3;by_cases c4:(ac ins gs).Nodup
    ·refine ifF (by rw[Qy c4];rfl) ?_;walk_at "w";have hg3:=S03 _ _ hg;have hw3:=S3 _ _ hw;refine i_comp (s_list (ae rfl ⟨lg,rfl,⟨_,SqL.of hg3⟩,λD2 hD2=>?_⟩));refine cB (xs:=gvs) (λm H' ys=>ar H3 H'/\H' D2=some (.lst ys)/\ys=(List.replicate m true).map V.bl) ⟨al hD2,ai,rfl⟩ (λm H' ys p=>⟨p.2.1,SqL.of (p.1 _ _ hg3)⟩) (λm x H' ys e p=>?_) (λH' ys p=>?_)
     ·obtain⟨Sm,hd,rfl⟩:=p;have hn:m<gvs.length:=(Qc.mp e).1;obtain⟨g,e',b,rv,rfl,hb,hrr⟩:=bY gts m x e;obtain⟨r1,r2⟩:=ok.rules g (Qq e');have S0m:=S03.trans Sm;have hb':=S0m _ _ hb;refine ap ⟨by refine⟨?_,?_⟩ <;> first|rfl|trivial,i_yes (bO ?_)⟩;walk_at "w";refine⟨rv,g.2,lw,ac ins gs,10,rfl,hrr.mono (ar.tups S0m),r2,by omega,by omega,r1,Sm _ _ hw3,wl,λH2 S2=>?_⟩;exact bS.mk (S2 _ _ hd) hn (by rw[Qd,Q8];omega) ⟨aX (Sm.trans S2) hD2,ai,by rw[List.replicate_succ',Qm];rfl⟩
     obtain⟨Sm,hd,rfl⟩:=p;refine av ⟨_,_,rfl,SqL.of hd,?_⟩;have e:(List.replicate gvs.length true).all id=true:=by simp
     rw[e];have z:=q _ (S03.trans Sm);rw[Qy (show gx ins gs from⟨c1,c2,c3,c4⟩)]at z;exact z
    refine ifT (by rw[Qo c4];rfl) ?_;walk_at "w";exact no S03 λh=>c4 h.2.2.2
   refine ifT (by rw[Qo (show ¬(gvs.length:Int)<=7 by omega)];rfl) ?_;walk_at "w";exact no (ar.refl H) λh=>c3 h.2.2.1
  refine ifF (Qo (by omega)) ?_;walk_at "w";exact no (ar.refl H) λh=>c2 h.2.1
 refine ifT (Qy (by rw[Qd];omega)) ?_;walk_at "w";exact no (ar.refl H) λh=>c1 h.1
end
def bQ (ms ns:List Str):List Str:=ns.foldl (λacc n=>if n∈ms\/n∈acc then acc else acc++[n]) []
variable {z:Str}
theorem iG {ms:List Str} {i:Nat} (h:ns[i]?=some z):bQ ms (ns.take (i+1))=if z∈ms\/z∈bQ ms (ns.take i) then bQ ms (ns.take i) else bQ ms (ns.take i)++[z]:=by
 unfold bQ;rw[Q2,h,List.foldl_append];rfl
theorem eP (ms:List Str):∀(ns acc:List Str),(ns.foldl (λacc n=>if n∈ms\/n∈acc then acc else acc++[n]) acc).length<=acc.length+ns.length
 | [],acc=>by simp
 | n::ns,acc=>by
  have q:=eP ms ns (if n∈ms\/n∈acc then acc else acc++[n]);rw[List.foldl_cons]
  split at q <;> simp at q ⊢ <;> split <;> simp_all <;> omega
def l6:Sp:=λvs H Q _=>∃(ln lm:Addr) (ns ms:List Str),vs=[.ref ln,.ref lm]/\H ln=some (.lst (ns.map V.str))/\H lm=some (.lst (ms.map V.str))/\ns.length<=100/\∀l H',ar H H'->H l=none->H' l=some (.lst ((bQ ms ns).map V.str))->Q (.ref l) H'
section
theorem io:FnScope ["names", "made", "left", "name"] ["names", "made"] (am (top 33)):=by walk_at "k"
theorem se {f:Addr} {fd:FuncData} (Fu:Fun K "inputs_left" "inputs_left" (top 33) f fd) (T:Txt K mg TT):FnOk P w K mg base CX0 1 f fd ["names", "made"] l6:=by
 have S:=io;refine Fu.ok S (by walk_at "l") (λcdv A outer s H vs Q E hr h=>?_);obtain⟨ln,lm,ns,ms,rfl,hn,hm,sz,q⟩:=h
 refine⟨_,(aq (aF 2 S.nd (pe_lst ad))
  (aq (ps_for PassesOwn.never rfl (bh (pv 0)) (bW 3 S.nd)
  (aw (bI (PW.pt (gc (aG bE (pv 3) (pv 1) rfl) (fJ (aG bE (pv 3) (pv 2) rfl)))) (aw (bB (d_ QX xb xf bZ (pv 2) (aa (pv 3) ad)))) aV)))
  (aw (ax (pv 2))))),?_⟩
 walk_at "e";walk_at "w";refine⟨by simp[sizeLine],λl hl=>?_⟩;have S1:=al (o:=.lst []) hl;have q1:upd H l (.lst []) l=some (.lst []):=ai;generalize upd H l (.lst [])=H1 at S1 q1;walk_at "w";refine⟨ln,rfl,⟨_,SqL.of (S1 _ _ hn)⟩,?_⟩;let I1:IvF:=λi σ H'=>(∃x3,σ=[some (.ref ln),some (.ref lm),some (.ref l),x3])/\ar H H'/\H' l=some (.lst ((bQ ms (ns.take i)).map V.str));refine dJ (K:=K) (xs:=ns.map V.str) I1 ⟨⟨_,rfl⟩,S1,q1⟩ (λi σ H' _ pv=>SqL.of (pv.2.1 _ _ hn)) (λi x σ H' hx pv=>?_) (λσ H' pv=>?_)
 ·obtain⟨⟨x3,rfl⟩,Sm,hl'⟩:=pv;rw[Qk]at hx
  obtain⟨z,hz,rfl⟩:∃z,ns[i]?=some z/\V.str z=x:=by
   cases h:ns[i]? with
   | none=>rw[h]at hx;cases hx
   | some z=>rw[h]at hx;exact⟨z,rfl,QR hx⟩
  have tk:=iG (ms:=ms) hz;have hm':=Sm _ _ hm;walk_at "w";refine⟨lm,_,rfl,.inl (SqL.of hm'),rfl,bx ms,?_⟩;refine⟨_,rfl,?_⟩;by_cases c1:z∈ms
  ·refine ifF (by show (!inV (V.str z) (ms.map V.str))=false;rw[bt.mpr c1];rfl) ?_;walk_at "w";rw[QC (.inl c1)]at tk;exact⟨⟨_,rfl⟩,Sm,by rw[tk];exact hl'⟩
  have n1:inV (V.str z) (ms.map V.str)=false:=by
   cases h:inV (V.str z) (ms.map V.str) with
   | false=>rfl
   | true=>exact absurd (bt.mp h) c1
  refine ifT (by show (!inV (V.str z) (ms.map V.str))=true;rw[n1];rfl) ?_;walk_at "w";refine⟨l,_,rfl,.inl (SqL.of hl'),rfl,bx _,?_⟩;refine⟨_,rfl,?_⟩;by_cases c2:z∈bQ ms (ns.take i)
  ·refine ifF (by show (!inV (V.str z) _)=false;rw[bt.mpr c2];rfl) ?_;walk_at "w";rw[QC (.inr c2)]at tk;exact⟨⟨_,rfl⟩,Sm,by rw[tk];exact hl'⟩
  have n2:inV (V.str z) ((bQ ms (ns.take i)).map V.str)=false:=by
   cases h:inV (V.str z) ((bQ ms (ns.take i)).map V.str) with
   | false=>rfl
   | true=>exact absurd (bt.mp h) c2
  refine ifT (by show (!inV (V.str z) _)=true;rw[n2];rfl) ?_;walk_at "w";have ll:=eP ms (ns.take i) [];have lt:(ns.take i).length<=100:=by rw[QL];omega
  refine jv hl' (by rw[Qd];unfold bQ;simp only[Q6]at ll;omega) ?_;rw[Qz (λh=>h.elim c1 c2)]at tk;exact⟨⟨_,rfl⟩,aX Sm hl,by rw[ai,tk,Qm];rfl⟩
 obtain⟨⟨x3,rfl⟩,Sm,hl'⟩:=pv;rw[Qd,List.take_length]at hl';walk_at "w";exact q l H' Sm hl hl'
end
theorem lf {ms:List Str}:∀(ns acc:List Str) (z:Str),z∈ns.foldl (λacc n=>if n∈ms\/n∈acc then acc else acc++[n]) acc↔z∈acc\/(z∈ns/\z∉ms)
 | [],acc,z=>by simp
 | n::ns,acc,z=>by
  rw[List.foldl_cons,lf ns _ z];by_cases c:n∈ms\/n∈acc
  ·rw[QC c,QE]
   constructor
   ·rintro(h|⟨h,g⟩)
    ·exact .inl h
    exact .inr ⟨.inr h,g⟩
   rintro(h|⟨h|h,g⟩)
   ·exact .inl h
   ·subst h;exact .inl (c.resolve_left g)
   exact .inr ⟨h,g⟩
  rw[Qz c,QE,Qt,QJ]
  constructor
  ·rintro((h|h)|⟨h,g⟩)
   ·exact .inl h
   ·subst h;exact .inr ⟨.inl rfl,λg=>c (.inl g)⟩
   exact .inr ⟨.inr h,g⟩
  rintro(h|⟨h|h,g⟩)
  ·exact .inl (.inl h)
  ·exact .inl (.inr h)
  exact .inr ⟨h,g⟩
theorem js:z∈bQ ms ns↔z∈ns/\z∉ms:=by
 unfold bQ;rw[lf];simp
def aL (i1 i2:List Str) (g1 g2:List (Str × Rl)):List Str:=bQ ((g1++g2).map (·.1)) (i1++i2)
theorem eJ {g1 g2:List (Str × Rl)} (h:z∈ac i1 g1\/z∈ac i2 g2):z∈ac (aL i1 i2 g1 g2) (g1++g2):=by
 unfold ac at *;unfold aL;rw[Qt,js];by_cases c:z∈(g1++g2).map (·.1)
 ·exact .inr c
 refine .inl ⟨?_,c⟩;rw[Qm,Qt]at c;rw[Qt];rcases h with h|h
 ·exact .inl ((Qt.mp h).resolve_right λq=>c (.inl q))
 exact .inr ((Qt.mp h).resolve_right λq=>c (.inr q))
theorem qJ {g1 g2:List (Str × Rl)} (h:z∈ac (aL i1 i2 g1 g2) (g1++g2)):z∈ac i1 g1\/z∈ac i2 g2:=by
 unfold ac at *;unfold aL at h;rw[Qt,js,Qm,Qt,Qt]at h;rw[Qt,Qt];rcases h with⟨h|h,_⟩|h|h
 ·exact .inl (.inl h)
 ·exact .inr (.inl h)
 ·exact .inl (.inr h)
 exact .inr (.inr h)
theorem dQ {ns ms:List Str} (h:∀z∈ns,z∈ms):∀r:Rl,r.ok ns->r.ok ms
 | .w n=>λq=>h n q
 | .no r=>λq=>dQ h r q
 | .an a b=>λq=>⟨dQ h a q.1,dQ h b q.2⟩
 | .orr a b=>λq=>⟨dQ h a q.1,dQ h b q.2⟩
theorem qI (i1 i2:List Str) (g1 g2:List (Str × Rl)):(aL i1 i2 g1 g2).length<=i1.length+i2.length:=by
 have:=eP ((g1++g2).map (·.1)) (i1++i2) [];unfold aL bQ;simp only[Q6,Qh]at this;omega
theorem jok {g1 g2:List (Str × Rl)} (o1:NetOk i1 g1) (o2:NetOk i2 g2) (li:i1.length+i2.length<=20) (lg:g1.length+g2.length<=20):NetOk (aL i1 i2 g1 g2) (g1++g2):=by
 refine⟨?_,?_,λg hg=>?_,λn hn=>?_⟩
 ·have:=qI i1 i2 g1 g2;omega
 ·rw[Qh];exact lg
 ·rcases Qt.mp hg with h|h
  ·exact⟨dQ (λz hz=>eJ (.inl hz)) _ (o1.rules g h).1,(o1.rules g h).2⟩
  exact⟨dQ (λz hz=>eJ (.inr hz)) _ (o2.rules g h).1,(o2.rules g h).2⟩
 rcases qJ hn with h|h
 ·exact o1.low n h
 exact o2.low n h
theorem eW {α β:Type} {F:α->β->Prop}:∀{xs:List α} {ys:List β} {us:List α} {vs:List β},Paired F xs ys->Paired F us vs->Paired F (xs++us) (ys++vs)
 | _,_,_,_,.nil,q=>q
 | _,_,_,_,.cons h t,q=>.cons h (eW t q)
def gZ:Sp:=λvs H Q E=>∃a1 l1 m1 i1 v1 g1 a2 l2 m2 i2 v2 g2,vs=[.ref a1,.ref a2]/\NAt H a1 l1 m1 i1 v1 g1/\NAt H a2 l2 m2 i2 v2 g2/\NetOk i1 g1/\NetOk i2 g2/\i1.length+i2.length<=20/\g1.length+g2.length<=20 /\
 gx (aL i1 i2 g1 g2) (g1++g2)/\∀a li lg H',ar H H'->H a=none->H li=none->H lg=none->NAt H' a li lg (aL i1 i2 g1 g2) (v1++v2) (g1++g2)->Q (.ref a) H'
section
theorem ik:FnScope ["one", "other", "gates", "joined"] ["one", "other"] (am (top 34)):=by walk_at "k"
theorem sf {f:Addr} {fd:FuncData} (Fu:Fun K "nets_joined" "nets_joined" (top 34) f fd) (T:Txt K mg TT) (f_gates_of:Fn P w K mg base "gates_of" ["net"] 1 gH) (f_inputs_left:Fn P w K mg base "inputs_left" ["names", "made"] 1 l6) (f_is_net:Fn P w K mg base "is_net" ["thing"] 11 jR) :
  FnOk P w K mg base CX0 12 f fd ["one", "other"] gZ:=by
 have S:=ik;refine Fu.ok S (by walk_at "l") (λcdv A outer s H vs Q E hr h=>?_);obtain⟨a1,l1,m1,i1,v1,g1,a2,l2,m2,i2,v2,g2,rfl,N1,N2,o1,o2,li,lg,c,k1⟩:=h
 refine⟨_,(aq (aF 2 S.nd (aE c8 (au f_gates_of hr (aa (pv 0) ad)) (au f_gates_of hr (aa (pv 1) ad))))
  (aq (aF 3 S.nd (pe_tup (aa (au f_inputs_left hr (aa (aE c8 (aA aB (pv 0) ak (λ_ _=>rfl)) (aA aB (pv 1) ak (λ_ _=>rfl))) (aa (pv 2) ad))) (aa (aE c8 (aA aB (pv 0) ak (λ_ _=>rfl)) (aA aB (pv 1) ak (λ_ _=>rfl))) ad))))
  (aq (bI (bM (bL (au f_is_net hr (aa (pv 3) ad)))) dH aV)
  (aw (ax (pv 3)))))),?_⟩
 walk_at "e";have p1:=aN N1.gates;have p2:=aN N2.gates;walk_at "w";refine⟨a1,l1,m1,i1,v1,g1,rfl,N1,o1,λq1 H1 S1 n1 h1=>?_⟩;walk_at "w";refine⟨a2,l2,m2,i2,v2,g2,rfl,N2.same S1,o2,λq2 H2 S2 n2 h2=>?_⟩;refine eL (S2 _ _ h1) h2 (by simp only[Qd];omega) λq3 hq3=>?_;rw[<-Qm,<-Qm];generalize hE:upd H2 q3 _=H3;obtain⟨S3,h3⟩:=aI hq3 hE;clear hE;have S03:=S1.trans (S2.trans S3);obtain⟨ha1,hi1,hg1,gt1⟩:=N1.same S03;obtain⟨ha2,hi2,hg2,gt2⟩:=N2.same S03;walk_at "w";refine eL hi1 hi2 (by simp only[Qd];omega) λq4 hq4=>?_;rw[<-Qm];generalize hE:upd H3 q4 _=H4;obtain⟨S4,h4⟩:=aI hq4 hE;clear hE;walk_at "w";refine⟨q4,q3,i1++i2,_,rfl,h4,S4 _ _ h3,by rw[Qh];omega,λq5 H5 S5 n5 h5=>?_⟩;have S35:=S4.trans S5;have ha1':=S35 _ _ ha1;have ha2':=S35 _ _ ha2;walk_at "w";refine eL (S35 _ _ hg1) (S35 _ _ hg2) (by omega) λq6 hq6=>?_;generalize hE:upd H5 q6 _=H6;obtain⟨S6,h6⟩:=aI hq6 hE;clear hE;walk_at "w";refine⟨by simp[sizeLine],λq7 hq7=>?_⟩;generalize hE:upd H6 q7 _=H7;obtain⟨S7,h7⟩:=aI hq7 hE;clear hE;have S07:=S03.trans (S35.trans (S6.trans S7));have NJ:NAt H7 q7 q5 q6 (aL i1 i2 g1 g2) (v1++v2) (g1++g2):=⟨h7,(S6.trans S7) _ _ h5,S7 _ _ h6,eW (N1.same S07).gates (N2.same S07).gates⟩;walk_at "w";refine⟨q7,q5,q6,_,_,_,rfl,NJ,jok o1 o2 li lg,λH8 S8=>?_⟩;refine⟨_,rfl,?_⟩;refine ifF (by rw[Qy c];rfl) ?_;walk_at "w";exact k1 q7 q5 q6 H8 (S07.trans S8) (ar.free (S03.trans (S35.trans S6)) hq7) (ar.free (S03.trans S4) n5) (ar.free (S03.trans S35) hq6) (NJ.same S8)
end
theorem cJ {k:Key}:∀{qs kvs:List (Key × V)},k∉qs.map (·.1)->bq (bg kvs qs) k=bq kvs k
 | [],kvs,_=>rfl
 | q::qs,kvs,h=>by
  simp only[Qs,QE,not_or]at h;show bq (bg (bK kvs q.1 q.2) qs) k=_;rw[cJ h.2,dC,Qz h.1]
theorem ce {k:Key} {v:V}:∀{qs kvs:List (Key × V)},(qs.map (·.1)).Nodup->(k,v)∈qs->bq (bg kvs qs) k=some v
 | [],kvs,_,h=>nomatch h
 | q::qs,kvs,nd,h=>by
  rw[Qs,xg]at nd;show bq (bg (bK kvs q.1 q.2) qs) k=_;rcases QE.mp h with e|h
  ·subst e;rw[cJ nd.1,dC,QC rfl]
  exact ce nd.2 h
theorem de (ns:List Str) (z:Str):(bu ns z).map (·.1)=ns.map Sum.inr:=by
 unfold bu;rw[List.map_map];have e:((λx:Key × V=>x.1)∘λp:Str × Nat=>((Sum.inr p.1:Key),dF z p.2))=(λp:Str × Nat=>(Sum.inr p.1:Key)):=rfl;rw[e];have e2:(λp:Str × Nat=>(Sum.inr p.1:Key))=(Sum.inr:Str->Key)∘Prod.fst:=rfl;rw[e2,<-List.map_map,List.zipIdx_map_fst]
theorem eO (h:ns.Nodup):(ns.map (Sum.inr:Str->Key)).Nodup:=by
 induction ns with
 | nil=>exact List.nodup_nil
 | cons a r ih =>
 rw[xg]at h;rw[Qs,xg];refine⟨λm=>?_,ih h.2⟩;obtain⟨x,hx,e⟩:=Qu.mp m;cases e;exact h.1 hx
theorem fF {n:Nat} (st:StOk n z) {i:Nat} (hi:i<n):dF z i=sg (z.cps.getD i 0==49):=by
 have hl:=st.len;have e:z.cps.getD i 0=z.cps[i]'(by omega):=by simp[Array.getD,hl,hi]
 have:z.cps.getD i 0=48\/z.cps.getD i 0=49:=by
  rw[e];exact st.signs _ (by simp)
 unfold dF;rcases this with e|e
 ·rw[e];decide +kernel
 rw[e];decide +kernel
theorem fP (nd:ns.Nodup) (st:StOk ns.length z):DFn (bg [] (bu ns z)) ns (sgn ns z):=λn hn=>by
 have hi:ns.idxOf n<ns.length:=List.idxOf_lt_length_of_mem hn;have e:ns[ns.idxOf n]?=some n:=by rw[Qe hi];exact congrArg some (List.getElem_idxOf hi)
 have hm:((Sum.inr n:Key),dF z (ns.idxOf n))∈bu ns z:=by
  unfold bu;refine Qu.mpr ⟨(n,ns.idxOf n),?_,rfl⟩;rw[List.mem_zipIdx_iff_getElem?];exact e
 rw[ce (by rw[de];exact eO nd) hm,fF st hi];rfl
theorem rF (b:Bool):sg b=.str ⟨#[if b then 49 else 48]⟩:=by
 cases b
 ·decide +kernel
 decide +kernel
def bd (f:Str->Bool) (ws:List Str):Str:=⟨(ws.map λw=>if f w then 49 else 48).toArray⟩
theorem dG (f:Str->Bool) (ws:List Str):(bd f ws).cps.toList=ws.map λw=>if f w then 49 else 48:=rfl
theorem fi (f:Str->Bool) (ws:List Str):StOk ws.length (bd f ws):=by
 refine⟨by show (ws.map _).toArray.size=_;simp,λc hc=>?_⟩;rw[dG]at hc;obtain⟨w,_,e⟩:=Qu.mp hc;cases h:f w <;> simp[h]at e
 ·exact .inl e.symm
 exact .inr e.symm
theorem iq {f g:Str->Bool} (h:∀n∈ws,f n=g n):bd f ws=bd g ws:=by
 unfold bd;congr 2;exact List.map_congr_left λw hw=>by rw[h w hw]
theorem rJ {f g:Str->Bool} (h:bd f ws=bd g ws):∀n∈ws,f n=g n:=λn hn=>by
 have e:=congrArg (λz=>z.cps.toList) h;simp only[dG]at e;have q:=List.map_inj_left.mp e n hn;cases h1:f n <;> cases h2:g n <;> simp[h1,h2]at q ⊢
theorem dk (f:Str->Bool) {n:Str} (hn:n∈ws):sgn ws (bd f ws) n=f n:=by
 unfold sgn bd;have hi:ws.idxOf n<ws.length:=List.idxOf_lt_length_of_mem hn
 have e:(ws.map λw=>if f w then 49 else 48).toArray.getD (ws.idxOf n) 0=if f n then 49 else 48:=by
  simp[Array.getD,hi]
 rw[e];cases f n <;> rfl
theorem fH (nd:ws.Nodup) (st:StOk ws.length z):bd (sgn ws z) ws=z:=by
 have e:(bd (sgn ws z) ws).cps.toList=z.cps.toList:=by
  rw[dG];refine List.ext_getElem (by rw[Qd,QA];exact st.len.symm) λi h1 h2=>?_;rw[List.getElem_map];have hi:i<ws.length:=by simpa using h1
  have ix:ws.idxOf ws[i]=i:=nd.idxOf_getElem i hi;unfold sgn;rw[ix];have hz:i<z.cps.size:=by rw[st.len];exact hi
  have ez:z.cps.getD i 0=z.cps[i]:=by simp[Array.getD,hz]
  rw[ez,Array.getElem_toList];rcases st.signs z.cps[i] (by simp) with q|q <;> simp[q]
 have e2:(bd (sgn ws z) ws).cps=z.cps:=Array.toList_inj.mp e;show Str.mk (bd (sgn ws z) ws).cps=Str.mk z.cps;rw[e2]
section
def cZ (v:V):Sp:=λvs H Q _=>∃a li lg ins gvs gs z,vs=[.ref a,.str z]/\NAt H a li lg ins gvs gs/\NetOk ins gs/\StOk (ac ins gs).length z/\∀H',ar H H'->Q v H'
def pA:Sp:=λvs H Q _=>∃(z:Str) (m:Nat),vs=[.str z,.int (m:Int)]/\m<=40/\StOk m z/\∀H',ar H H'->Q (.bl true) H'
theorem nY:FnScope ["thing", "many"] ["thing", "many"] (am (top 16)):=by walk_at "k"
variable {fd:FuncData}
theorem uo {f:Addr} (Fu:Fun K "is_row" "is_row" (top 16) f fd) (T:Txt K mg TT):FnOk P w K mg base CX0 1 f fd ["thing", "many"] pA:=by
 have S:=nY;refine Fu.ok S (by walk_at "l") (λcdv A outer s H vs Q E hr h=>?_);obtain⟨z,m,rfl,hm,st,k⟩:=h;obtain⟨TU,tU1,tU2⟩:=T.tU
 refine⟨_,(aq (bI (PW.pt (d9 (bM (bL (aD bp (by rfl) T.n_isinstance QG (aa (pv 0) (aa (cG (v:=.ty "str") (by rfl) T.n_str PyProof.Rows.boot_str rfl) ad))))) (du (aG gp (aD fU (by rfl) T.n_len QH (aa (pv 0) ad)) (pv 1) (aQ _))))) (aw (ax cN)) aV)
  (aw (ax (aD (dN rfl) (by rfl) T.n_all PyProof.Rows.boot_all (aa (cM (tgs:=["sign"]) (cap:=[]) rfl ⟨rfl,rfl,rfl,rfl,rfl,rfl⟩ (pP (pv 0)) (λ_ _ _ _=>(aZ (i:=0) (show List.Nodup [("sign" : Str)] by decide +kernel) rfl (by walk_at "z"))) (λ_ _ _ _=>br) (λ_ _ _ _=>(bD (oi tU2) (pv 0) (dm (v:=.ref TU) (by rfl) tU1 rfl) rfl))) ad))))),?_⟩
 walk_at "e";walk_at "w";refine⟨_,_,_,_,rfl,TyOf.str z,bR "str", ?_⟩;refine⟨_,rfl,cz ?_⟩;have hz:z.length=m:=st.len;have big:1000<sizeLine:=by decide
 walk_at "w";refine⟨_,rfl,(by omega),?_⟩;walk_at "w";refine v6 (λh=>?_) (λ_=>?_)
 ·exfalso;have e:(V.int ↑z.length)=V.int (m:Int):=congrArg (λ(n:Nat)=>V.int (n:Int)) hz;simp[e]at h
 walk_at "w";refine i_comp ?_;walk_at "w";intro D hD;refine lL (λn H' ys=>ar H H'/\H' D=some (.lst ys)/\ys=(List.replicate n true).map V.bl) ⟨al hD,ai,rfl⟩ (λn H' ys p=>p.2.1) (λn H' ys hn p=>?_) (λH' ys p=>?_)
 ·obtain⟨Sm,hd,rfl⟩:=p;refine ap ⟨trivial,i_yes (bO ?_)⟩;refine aC (ae rfl (i_c ⟨_,rfl,rfl,?_⟩));refine bS.mk hd hn (by rw[Qd,Q8];have:z.cps.size=z.length:=rfl;omega) ⟨aX Sm hD,ai,?_⟩
  have hc:PyProof.Rows.KTD.inKeys (⟨#[z.cps.getD n 0]⟩:Str) [(("0" : Str),PyProof.Rows.KTD.Dat.flat (PyData.str "1")),("1", .flat (.str "0"))]=true:=by
   have:z.cps.getD n 0=48\/z.cps.getD n 0=49:=by
    have e:z.cps.getD n 0=z.cps[n]:=by simp[Array.getD,hn]
    rw[e];exact st.signs _ (by simp)
   rcases this with e|e
   ·rw[e];decide +kernel
   rw[e];decide +kernel
  rw[List.replicate_succ',Qm];exact congrArg (λb=>List.map V.bl (List.replicate n true)++[V.bl b]) hc
 obtain⟨Sm,hd,rfl⟩:=p;refine av ⟨_,_,rfl,SqL.of hd,?_⟩;have e:(List.replicate z.cps.size true).all id=true:=by simp
 rw[e];exact k H' Sm
theorem im:FnScope ["net", "thing"] ["net", "thing"] (am (top 21)):=by walk_at "k"
theorem sh {f:Addr} (Fu:Fun K "is_standing" "is_standing" (top 21) f fd) (T:Txt K mg TT) (f_is_row:Fn P w K mg base "is_row" ["thing", "many"] 1 pA):FnOk P w K mg base CX0 2 f fd ["net", "thing"] (cZ (.bl true)):=by
 have S:=im;refine Fu.ok S (by walk_at "l") (λcdv A outer s H vs Q E hr h=>?_);obtain⟨a,li,lg,ins,gvs,gs,z,rfl,NA,ok,st,k⟩:=h;obtain⟨ha,hi,hg,gts⟩:=id NA;refine⟨_,(aw (ax (au f_is_row hr (aa (pv 1) (aa (aE bN (aD aK (by rfl) T.n_len QH (aa (aA aB (pv 0) ak (λ_ _=>rfl)) ad)) (aD aK (by rfl) T.n_len QH (aa (aA aB (pv 0) ak (λ_ _=>rfl)) ad))) ad))))),?_⟩;walk_at "e"
 have hz:(ac ins gs).length=ins.length+gs.length:=by
  unfold ac;rw[Qh,Qd]
 have lg:=aN NA.gates;have i4:=ok.i4;have g7:=ok.g7;walk_at "w";refine⟨z,(ac ins gs).length,?_,by omega,st,λH' Sm=>k H' Sm⟩;rw[Qd,lg,hz];rfl
theorem fG:FnScope ["net", "thing"] ["net", "thing"] (am (top 22)):=by walk_at "k"
theorem qt {f:Addr} (Fu:Fun K "check_standing" "check_standing" (top 22) f fd) (T:Txt K mg TT) (f_is_standing:Fn P w K mg base "is_standing" ["net", "thing"] 2 (cZ (.bl true))):FnOk P w K mg base CX0 3 f fd ["net", "thing"] (cZ .non):=by
 have S:=fG;refine Fu.ok S (by walk_at "l") (λcdv A outer s H vs Q E hr h=>?_);obtain⟨a,li,lg,ins,gvs,gs,z,rfl,NA,ok,st,k⟩:=h;refine⟨_,(aw (bI (bM (bL (au f_is_standing hr (aa (pv 0) (aa (pv 1) ad))))) dH aV)),?_⟩;walk_at "e";walk_at "w";refine⟨a,li,lg,ins,gvs,gs,z,rfl,NA,ok,st,λH' Sm=>⟨_,rfl,cz ?_⟩⟩;exact k H' Sm
end
def dz (ws:List Str) (z:Str):List (Key × V):=bg [] (bu ws z)
def pz:Sp:=λvs H Q _=>∃a li lg ins gvs gs z,vs=[.ref a,.str z]/\NAt H a li lg ins gvs gs/\NetOk ins gs/\StOk (ac ins gs).length z/\∀d H',ar H H'->H d=none->H' d=some (.dK (dz (ac ins gs) z))->Q (.ref d) H'
def gF:Sp:=λvs H Q _=>∃(d l:Addr) (kvs:List (Key × V)) (ws:List Str) (f:Str->Bool),vs=[.ref d,.ref l]/\H d=some (.dK kvs)/\H l=some (.lst (ws.map V.str))/\DFn kvs ws f/\ws.length<=100/\∀H',ar H H'->Q (.str (bd f ws)) H'
def sT (b:Bool):Str:=⟨#[if b then 49 else 48]⟩
theorem uV (b:Bool):sg b=.str (sT b):=rF b
theorem lr (f:Str->Bool) (ws:List Str):Txt.join Str.empty (ws.map λw=>sT (f w))=bd f ws:=by
 have e:(Txt.join Str.empty (ws.map λw=>sT (f w))).cps.toList=(bd f ws).cps.toList:=by
  rw[jx,dG,List.map_map]
  induction ws with
  | nil=>rfl
  | cons w ws ih =>
  rw[Qs,Qs,List.flatten_cons,ih];rfl
 have e2:=Array.toList_inj.mp e;show Str.mk (Txt.join Str.empty (ws.map λw=>sT (f w))).cps=Str.mk (bd f ws).cps;rw[e2]
theorem gS (f:Str->Bool):∀ws:List Str,((ws.map λw=>sT (f w)).map (·.length)).sum=ws.length
 | []=>rfl
 | w::ws=>by
  rw[Qs,Qs,List.sum_cons,gS f ws,QM];show 1+_=_;omega
theorem lK {K:PySem.W.Frag} {QD:Addr->Hp->Prop} {d l:Addr} {kvs:List (Key × V)} {f:Str->Bool} {te:TE} {σ0:St} (hwk:∀x,wk σ0 (σ0.set 0 (some x)))
  (hd:H d=some (.dK kvs)) (hl:H l=some (.lst (ws.map V.str))) (df:DFn kvs ws f) (few:ws.length<=100) (hte:∀x H' (Q:VK),(pf (tC (V.ref d)) (tC x)) σ0 H' Q->te (σ0.set 0 (some x)) H' Q)
  (q:∀D H',H D=none->ar H H'->H' D=some (.lst ((ws.map λw=>sT (f w)).map V.str))->QD D H') :
  ∀D,H D=none->∃W:Nat->Nat->Hp->List V->Prop,(∃m,W 0 m (upd H D (.lst [])) [])/\∀i m H' ys,W i m H' ys->H' D=some (.lst ys)/\(((Itl K l).stop i H'/\QD D H')\/((Itl K l).go i H'/\∀x H1,(Itl K l).yld i H' x H1->ee 0 x σ0 H1 λσ2 H2=>wk σ0 σ2/\fz σ2 H2 λb H3 =>
   if b=true then te σ2 H3 λv H4=>H4 D=some (.lst ys)/\ys.length<sizeLine/\∃m',m'<m/\W (i+1) m' (upd H4 D (.lst (ys++[v]))) (ys++[v]) else ∃m',m'<m/\W (i+1) m' H3 ys)):=λD hD=>by
 have big:1000<sizeLine:=by decide
 refine cB (QD:=QD D) (xs:=ws.map V.str) (λn H' ys=>ar H H'/\H' D=some (.lst ys)/\ys=((ws.map λw=>sT (f w)).map V.str).take n) ⟨al hD,ai,by simp⟩ (λn H' ys p=>⟨p.2.1,SqL.of (p.1 _ _ hl)⟩) (λn x H' ys e p=>?_) (λH' ys p=>?_)
 ·obtain⟨Sm,hDl,rfl⟩:=p;have hn:n<(ws.map V.str).length:=(Qc.mp e).1;rw[Qk]at e
  obtain⟨z,hz,rfl⟩:∃z,ws[n]?=some z/\V.str z=x:=by
   cases h:ws[n]? with
   | none=>rw[h]at e;cases e
   | some z=>rw[h]at e;exact⟨z,rfl,QR e⟩
  refine ap ⟨hwk _,i_yes (bO ?_)⟩;refine hte _ _ _ (i_dget (i_c (i_c ⟨d,sg (f z),rfl,?_,?_⟩)))
  ·have hv:bq kvs (Sum.inr z:Key)=some (sg (f z)):=df z (Qq hz);rw[<-hv];exact cL.k (k:=Sum.inr z) (Sm _ _ hd)
  rw[Qd]at hn;refine bS.mk hDl (by rw[Qd];exact hn) (by rw[QL];omega) ⟨aX Sm hD,ai,?_⟩;rw[Q2,Qk,Qk,hz,uV];rfl
 obtain⟨Sm,hDl,rfl⟩:=p;refine q D H' hD Sm (by rw[hDl,QF (by simp)])
section
theorem kD:FnScope ["net", "standing"] ["net", "standing"] (am (top 25)):=by walk_at "k"
theorem vD {f:Addr} {fd:FuncData} (Fu:Fun K "signs_in" "signs_in" (top 25) f fd) (T:Txt K mg TT) (f_wires_of:Fn P w K mg base "wires_of" ["net"] 2 bA):FnOk P w K mg base CX0 3 f fd ["net", "standing"] pz:=by
 have S:=kD;refine Fu.ok S (by walk_at "l") (λcdv A outer s H vs Q E hr h=>?_);obtain⟨a,li,lg,ins,gvs,gs,z,rfl,NA,ok,st,k⟩:=h;refine⟨_,(aw (ax (j4 rfl (by rfl) T.n_dict (by rfl) T.n_zip (aa (au f_wires_of hr (aa (pv 0) ad)) (aa (pv 1) ad))))),?_⟩;walk_at "e"
 have wl:(ac ins gs).length<1000:=by
  have i4:=ok.i4;have g7:=ok.g7;unfold ac;rw[Qh,Qd];omega
 walk_at "w";show bP _ _ _ _ _;walk_at "w";refine⟨a,li,lg,ins,gvs,gs,rfl,NA,ok,λl H1 S1 hl h1=>?_⟩;walk_at "w";refine⟨l,ac ins gs,z,rfl,SqL.of h1,by rw[st.len];omega,wl,λd hd=>?_⟩;exact k d _ (S1.trans (al hd)) (ar.free S1 hd) ai
theorem nV:FnScope ["signs", "wires"] ["signs", "wires"] (am (top 26)):=by walk_at "k"
theorem qi {f:Addr} {fd:FuncData} (Fu:Fun K "row_of" "row_of" (top 26) f fd) (T:Txt K mg TT):FnOk P w K mg base CX0 1 f fd ["signs", "wires"] gF:=by
 have S:=nV;refine Fu.ok S (by walk_at "l") (λcdv A outer s H vs Q E hr h=>?_);obtain⟨d,l,kvs,ws,g,rfl,hd,hl,df,few,k⟩:=h;have hu:=db hr;refine⟨_,(aw (ax (d_ PySem.F.plainAttrs_str PySem.F.slot_str_join PySem.F.type_str_join j6 aM (aa (cM (tgs:=["wire"]) (cap:=[("signs", 0)]) rfl ⟨rfl,rfl,rfl,rfl,rfl,rfl⟩ (bh (pv 1)) (λ_ _ _ _=>(aZ (i:=0) (show List.Nodup [("wire" : Str),("signs" : Str)] by decide +kernel) rfl (by walk_at "z"))) (λ_ _ _ _=>br) (λ_ _ _ _=>(cf hu (pv 1) (pv 0) (λ_ _=>rfl)))) ad)))),?_⟩;walk_at "e";walk_at "w";refine⟨qK,?_⟩;refine af (i_comp (s_list (ae rfl ⟨l,rfl,⟨_,SqL.of hl⟩,?_⟩)));refine' lK ?h1 hd hl df few ?h2 ?h3
 case h1=>intro x;exact⟨rfl,trivial⟩
 case h2=>intro x H' Q' h;exact i_dget (ae rfl (ae rfl h))
 intro D H' hD SD hDl;refine av ⟨"", D,_,rfl,rfl,SqL.of hDl,?_,?_⟩
 ·rw[gS];have:("" : Str).length=0:=by decide +kernel
  rw[this];omega
 have e0:("" : Str)=Str.empty:=by decide +kernel
 rw[e0,lr];exact k H' SD
end
end K2
namespace K2
open PySem L2
local macro_rules | `(tactic| walk_at "vc") => `(tactic| first
 | ((refine' (?zz : (?zA → ?zG) → ?zA → ?zG) ?zr ?_); (case zr => with_reducible exact s_seqT); (case zz => exact fun _ q => q); intro D') | ((refine' (?zz : (?zA → ?zG) → ?zA → ?zG) ?zr ?_); (case zr => with_reducible first | exact s_asgQ | exact s_drop | exact s_ret | exact s_if | exact s_sub | exact s_next | exact i_cQ | exact i_opQ | exact i_test | exact i_tB | exact i_and | exact i_or | exact i_not | exact i_andV | exact i_orV | exact i_notV | exact i_ifE | exact i_nilQ | exact i_consQ | exact i_cb | exact i_tup | exact i_lst | exact i_bm | exact i_sl | exact i_nopart | exact i_part | exact s_for | exact s_rng1 | exact s_list | exact s_str | exact i_comp | exact i_dget | exact i_yes); (case zz => exact fun _ q => q))   | (with_reducible refine s_nameQ ?_)
 | ((with_reducible refine' i_varQ ?hv ?_); (case hv => exact rfl))   | (with_reducible first | refine i_rI0 ?_ | refine i_callQ ?_ | refine s_strI ?_ | refine iteFQ ?_ | refine iteTQ ?_)
 | ((with_reducible show ∃ i, V.int _ = V.int i ∧ _); (refine ⟨_, rfl, ?_⟩)) | ((with_reducible show ∃ k, V.bl _ = V.bl k ∧ _); (refine ⟨_, rfl, ?_⟩)) | ((with_reducible show (∃ i, [V.bl _] = [V.int i] ∧ _) ∨ _); (refine Or.inr ⟨_, rfl, ?_⟩))
 | ((with_reducible refine' i_ixL ?ha ?hb ?_); (case ha => exact SqLofQ (by assumption)); (case hb => exact rfl)) | ((with_reducible refine' i_ixTQ ?ha ?hb ?_); (case ha => assumption); (case hb => exact rfl))
 | ((with_reducible show ∃ p _, [V.ref _] = [V.ref p] ∧ (SqL _ _ _ _ ∨ SqT _ _ _ _) ∧ _); (refine' ⟨_, _, rfl, Or.inl (SqLofQ ?ha), ?_⟩); (case ha => assumption)) | ((with_reducible refine' s_setL ?ha ?hb ?_); (case ha => assumption); (case hb => exact rfl))
 | ((with_reducible refine' i_eq ?ha ?_); (case ha => exact rfl)) | ((with_reducible refine' i_ne ?ha ?_); (case ha => exact rfl))
 | ((with_reducible show ∃ z, V.str _ = V.str z ∧ _); (refine ⟨_, rfl, ?_⟩)))
local macro_rules | `(tactic| walk_at "p") => `(tactic| repeat' (with_reducible first | (refine' pss_oneQ ?_; rotate_left 1) | (refine' pss_consQ ?_ ?_; rotate_left 2) | exact pss_nilQ | (refine' ps_ifQ ?_ ?_ ?_; rotate_left 3)))
local macro_rules | `(tactic| walk_at "b") => `(tactic| (refine' pss_consQ ?_ ?_; rotate_left 2; walk_at "p"))
local macro_rules | `(tactic| walk_at "f") => `(tactic| (refine' ps_for PassesOwn.never rfl ?_ ?_ ?_ (fun _ => rfl); rotate_left 3))
local macro_rules | `(tactic| walk_at "q") => `(tactic| repeat' (with_reducible first | exact pe_strQ | exact pe_intQ | exact pa_nilQ | (refine' pe_tup ?_; rotate_left 1) | (refine' pe_lst ?_; rotate_left 1) | (refine' pa_consQ ?_ ?_ se_conQ; rotate_left 2) | (refine' pa_consQ ?_ ?_ se_tup; rotate_left 2) | (refine' pa_consQ ?_ ?_ se_nameQ; rotate_left 2) | (refine' pa_consQ ?_ ?_ se_sub; rotate_left 2) | (refine' pa_consQ ?_ ?_ se_bin; rotate_left 2) | (refine' pa_consQ ?_ ?_ se_lst; rotate_left 2) | (refine' pa_consQ ?_ ?_ se_call; rotate_left 2) | (refine' pa_consQ ?_ ?_ se_lc; rotate_left 2)))
local macro_rules | `(tactic| walk_at "l") => `(tactic| (intro vs H Q E h; repeat (first | (obtain ⟨e, _⟩ := h; subst e; rfl) | (obtain ⟨_, h⟩ := h))))
local macro_rules | `(tactic| walk_at "e") => `(tactic| ((try dsimp only [cxOf, Cx.nox, Cx.wish]); (conv in (L2.start _ _) => simp only [L2.start, Qs, List.map_nil, QM, Q6, List.replicate_succ, List.replicate_zero, List.cons_append, List.nil_append, Nat.reduceAdd, Nat.reduceSub]); have big : 100000 < sizeLine := by decide))
local macro_rules | `(tactic| walk_at "s") => `(tactic| (with_reducible first | refine s_seq ?_ | refine s_if ?_ | refine s_next ?_ | refine i_or ?_ | refine s_nameQ ?_ | refine s_ret ?_))
local macro_rules|`(tactic|walk_at "w")=>`(tactic|repeat walk_at "vc")
local macro_rules|`(tactic|walk_at "k")=>`(tactic|exact⟨rfl,rfl,rfl,by decide +kernel,rfl,by decide +kernel,by decide +kernel⟩)
local macro_rules|`(tactic|walk_at "d")=>`(tactic|try dsimp only[cxOf,Cx.nox,Cx.wish])
variable {P:Program} {w:World} {K:PySem.W.Frag} {mg:Str->Option Value} {base:Heap} {TT:Addr}
section
def gG (d:Nat):Sp:=λvs H Q _=>∃v a kvs r ns g,vs=[v,.ref a]/\RAt H v r/\r.dep<=d/\r.ok ns/\H a=some (.dK kvs)/\DFn kvs ns g/\Q (.bl (r.val g)) H
theorem ib (b:Bool):decide (sg b=V.str "1")=b:=by
 cases b
 ·decide +kernel
 decide +kernel
theorem i6:FnScope ["rule", "signs", "kind"] ["rule", "signs"] (am (top 23)):=by walk_at "k"
theorem kW {f:Addr} {fd:FuncData} (Fu:Fun K "rule_holds" "rule_holds" (top 23) f fd) (T:Txt K mg TT) (hm:mg "rule_holds" = some (.ref f)) (hk:PySem.W.keepIn K (.ref f)=true) (hb:fb K fd ["rule", "signs"] []):∀d,FnOk P w K mg base CX0 d f fd ["rule", "signs"] (gG d)
 | 0=>dX λvs H Q E ⟨v,a,kvs,r,ns,g,_,_,h,_⟩=>by have:=gL r;omega
 | d+1=>by
  have S:=i6;have f_rule_holds:Fn P w K mg base "rule_holds" ["rule", "signs"] d (gG d):=⟨f,fd,kW Fu T hm hk hb d,hm,hk,hb⟩;refine Fu.ok S (λvs H Q E h=>?_) (λcdv A outer s H vs Q E hr h=>?_)
  ·obtain⟨v,a,kvs,r,ns,g,rfl,_⟩:=h;rfl
  obtain⟨v,a,kvs,r,ns,g,rfl,ra,hd,rok,ha,hf,q⟩:=h;have hu:=db hr
  refine⟨_,(aq (aF 2 S.nd (aA aB (pv 0) ak (λ_ _=>rfl)))
  (aq (bI (aG cO (pv 2) aM (aQ _)) (aw (ax (bD cO (cf hu (pv 1) (aA aB (pv 0) ak (λ_ _=>rfl)) (λ_ _=>rfl)) aM (aQ _)))) aV)
  (aq (bI (aG cO (pv 2) aM (aQ _)) (aw (ax (ug (au f_rule_holds hr (aa (aA aB (pv 0) ak (λ_ _=>rfl)) (aa (pv 1) ad)))))) aV)
  (aq (bI (aG cO (pv 2) aM (aQ _)) (aw (ax (eC (au f_rule_holds hr (aa (aA aB (pv 0) ak (λ_ _=>rfl)) (aa (pv 1) ad))) (c7 (au f_rule_holds hr (aa (aA aB (pv 0) ak (λ_ _=>rfl)) (aa (pv 1) ad))))))) aV)
  (aw (ax (pS (au f_rule_holds hr (aa (aA aB (pv 0) ak (λ_ _=>rfl)) (aa (pv 1) ad))) (c7 (au f_rule_holds hr (aa (aA aB (pv 0) ak (λ_ _=>rfl)) (aa (pv 1) ad))))))))))),?_⟩
  walk_at "e"
  cases ra with
  | @w b n hb =>
   walk_at "w";refine ifT (by decide +kernel) ?_;walk_at "w";have hv:bq kvs (Sum.inr n:Key)=some (sg (g n)):=hf n rok;refine⟨a,sg (g n),rfl,by rw[<-hv];exact cL.k (k:=Sum.inr n) ha,?_⟩;walk_at "w";refine i_eq (by cases g n <;> rfl) ?_;rw[ib];exact q
  | @no b u r hb hr1 =>
   walk_at "w";refine ifF (by decide +kernel) ?_;walk_at "w";refine ifT (by decide +kernel) ?_;walk_at "w";exact⟨u,a,kvs,r,ns,g,rfl,hr1,by simp only[Rl.dep]at hd;omega,rok,ha,hf,⟨_,rfl,q⟩⟩
  | @an b u x r1 r2 hb hr1 hr2 =>
   walk_at "w";refine ifF (by decide +kernel) ?_;walk_at "w";refine ifF (by decide +kernel) ?_;walk_at "w";refine ifT (by decide +kernel) ?_;walk_at "w";simp only[Rl.dep]at hd;refine⟨u,a,kvs,r1,ns,g,rfl,hr1,by omega,rok.1,ha,hf,⟨_,rfl,?_⟩⟩;have e:Rl.val g (Rl.an r1 r2)=(r1.val g&&r2.val g):=rfl;rw[e]at q
   cases hv:r1.val g with
   | false=>rw[hv]at q;exact cz q
   | true =>
   rw[hv]at q;refine bO ?_;walk_at "w";exact⟨x,a,kvs,r2,ns,g,rfl,hr2,by omega,rok.2,ha,hf,q⟩
  | @orr b u x r1 r2 hb hr1 hr2 =>
  walk_at "w";refine ifF (by decide +kernel) ?_;walk_at "w";refine ifF (by decide +kernel) ?_;walk_at "w";refine ifF (by decide +kernel) ?_;walk_at "w";simp only[Rl.dep]at hd;refine⟨u,a,kvs,r1,ns,g,rfl,hr1,by omega,rok.1,ha,hf,⟨_,rfl,?_⟩⟩;have e:Rl.val g (Rl.orr r1 r2)=(r1.val g || r2.val g):=rfl;rw[e]at q
  cases hv:r1.val g with
  | true=>rw[hv]at q;exact bO q
  | false =>
  rw[hv]at q;refine cz ?_;walk_at "w";exact⟨x,a,kvs,r2,ns,g,rfl,hr2,by omega,rok.2,ha,hf,q⟩
def jJ (d:Nat):Sp:=λvs H Q _=>∃v a kvs r ns g,vs=[v,.ref a]/\RAt H v r/\r.dep<=d/\r.ok ns/\H a=some (.dK kvs)/\DFn kvs ns g/\Q (sg (r.val g)) H
theorem i5:FnScope ["rule", "signs"] ["rule", "signs"] (am (top 24)):=by walk_at "k"
theorem qc {f:Addr} {fd:FuncData} (Fu:Fun K "rule_worth" "rule_worth" (top 24) f fd) (T:Txt K mg TT) (f_rule_holds:Fn P w K mg base "rule_holds" ["rule", "signs"] 10 (gG 10)):FnOk P w K mg base CX0 11 f fd ["rule", "signs"] (jJ 10):=by
 have S:=i5;refine Fu.ok S (by walk_at "l") (λcdv A outer s H vs Q E hr h=>?_);obtain⟨v,a,kvs,r,ns,g,rfl,ra,hd,rok,ha,hf,q⟩:=h;refine⟨_,(aw (ax (pT (bL (au f_rule_holds hr (aa (pv 0) (aa (pv 1) ad)))) aM aM))),?_⟩;walk_at "e";walk_at "w";refine⟨v,a,kvs,r,ns,g,rfl,ra,hd,rok,ha,hf,⟨_,rfl,?_⟩⟩
 cases hv:r.val g with
 | true=>rw[hv]at q;exact bO q
 | false=>rw[hv]at q;exact cz q
end
def b_ (z:Str) (i:Nat):Str:=if (z.cps.getD i 0==49)=true then "0" else "1"
def cH (z:Str) (i:Nat):Str:=(Txt.slice z none (some (i:Int))++b_ z i)++Txt.slice z (some ((i:Int)+1)) none
def fA:Sp:=λvs H Q _=>∃(z:Str) (n i:Nat),vs=[.str z,.int (i:Int)]/\StOk n z/\i<n/\n<=40/\Q (.str (cH z i)) H
section
theorem kh {n:Nat} {z:Str} (st:StOk n z) {i:Nat} (hi:i<n):atI z.cps.toList ((i:Nat):Int)=some (z.cps.getD i 0):=by
 have hl:=st.len;refine d4 ?_;simp[Array.getD,hl,hi]
theorem jV:FnScope ["standing", "place"] ["standing", "place"] (am (top 27)):=by walk_at "k"
theorem ot {f:Addr} {fd:FuncData} (Fu:Fun K "turned_at" "turned_at" (top 27) f fd) (T:Txt K mg TT):FnOk P w K mg base CX0 1 f fd ["standing", "place"] fA:=by
 have S:=jV;refine Fu.ok S (by walk_at "l") (λcdv A outer s H vs Q E hr h=>?_);obtain⟨z,n,i,rfl,st,hi,hn,k⟩:=h;obtain⟨TU,tU1,tU2⟩:=T.tU;refine⟨_,(aw (ax (aE dU (aE dU (c6 jU (pv 0) dS (dR (pv 1))) (aA (sq tU2) (dm (v:=.ref TU) (by rfl) tU1 rfl) (aA fj (pv 0) (pv 1) (λ_ _=>rfl)) (λ_ _=>rfl))) (c6 jU (pv 0) (dR (aE bN (pv 1) ak)) dS)))),?_⟩;walk_at "e";have hz:z.length=n:=st.len;have big:1000<sizeLine:=by decide
 walk_at "w";have s1:=Txt.slice_le z none (some (i:Int));have s2:=Txt.slice_le z (some ((i:Int)+1)) none
 have fl:(b_ z i).length=1:=by
  unfold b_
  split
  ·decide +kernel
  decide +kernel
 refine tE (by omega) ?_;refine aC (i_c ?_);refine aC (ae rfl (ae rfl (gq (by omega) (kh st hi) ?_)));have e:=fF st hi;unfold dF at e;rw[e]
 have step:∀(b:Bool) (G:VK),G (.str (if b=true then "0" else "1")) H->nh TU (.ref TU) (sg b) H G:=λb G g=>by
  cases b
  ·exact⟨rfl,.inl ⟨rfl,g⟩⟩
  exact⟨rfl,.inr ⟨rfl,g⟩⟩
 refine step _ _ ?_;show ∃i_1 j,V.str _=V.str i_1/\V.str (b_ z i)=V.str j/\_;have l1:(Txt.slice z none (some (i:Int))++b_ z i).length=(Txt.slice z none (some (i:Int))).length+(b_ z i).length:=Array.size_append;refine⟨_,_,rfl,rfl,by omega,?_⟩;walk_at "w";refine tE (by omega) ?_;exact⟨_,_,rfl,rfl,by rw[l1];omega,k⟩
end
def bz (f:Str->Bool) (z:Str) (p:(Str × Rl) × Nat):Option (Str × Str):=if (p.1.2.val f==(z.cps.getD p.2 0==49))=true then none else some (p.1.1,cH z p.2)
def aJ (ins:List Str) (gs:List (Str × Rl)) (z:Str):List (Str × Str):=(gs.zipIdx ins.length).filterMap (bz (sgn (ac ins gs) z) z)
def km (H:Hp) (v:V) (p:Str × Str):Prop:=∃b,v=.ref b/\H b=some (.tup [.str p.1,.str p.2])
theorem km.mono {H H':Hp} (hs:eN H H') {v:V} {p:Str × Str} (h:km H v p):km H' v p:=let ⟨b,e,q⟩:=h;⟨b,e,hs _ _ q⟩
theorem cY {H H':Hp} (hs:eN H H'):∀{vs:List V} {ps:List (Str × Str)},Paired (km H) vs ps->Paired (km H') vs ps
 | _,_,.nil=>.nil
 | _,_,.cons h t=>.cons (h.mono hs) (cY hs t)
theorem fK {α β:Type} {F:α->β->Prop}:∀{xs:List α} {ys:List β} {x:α} {y:β},Paired F xs ys->F x y->Paired F (xs++[x]) (ys++[y])
 | _,_,_,_,.nil,h=>.cons h .nil
 | _,_,_,_,.cons a t,h=>.cons a (fK t h)
def dP:Sp:=λvs H Q _=>∃a li lg ins gvs gs z,vs=[.ref a,.str z]/\NAt H a li lg ins gvs gs/\NetOk ins gs/\(ac ins gs).Nodup/\StOk (ac ins gs).length z /\
 ∀l vs' H',ar H H'->H l=none->H' l=some (.lst vs')->Paired (km H') vs' (aJ ins gs z)->Q (.ref l) H'
theorem sV (a b:Bool):decide (sg a=sg b)=(a==b):=by
 cases a <;> cases b <;> decide +kernel
section
theorem i3:FnScope ["net", "standing", "signs", "steps", "place", "gate"] ["net", "standing"] (am (top 28)):=by walk_at "k"
theorem qg {f:Addr} {fd:FuncData} (Fu:Fun K "steps_from" "steps_from" (top 28) f fd) (T:Txt K mg TT) (f_signs_in:Fn P w K mg base "signs_in" ["net", "standing"] 3 pz) (f_rule_worth:Fn P w K mg base "rule_worth" ["rule", "signs"] 11 (jJ 10)) (f_turned_at:Fn P w K mg base "turned_at" ["standing", "place"] 1 fA) :
  FnOk P w K mg base CX0 12 f fd ["net", "standing"] dP:=by
 have S:=i3;refine Fu.ok S (by walk_at "l") (λcdv A outer s H vs Q E hr h=>?_);obtain⟨a,li,lg,ins,gvs,gs,z,rfl,NA,ok,nd,st,k⟩:=h
 refine⟨_,(aq (aF 2 S.nd (au f_signs_in hr (aa (pv 0) (aa (pv 1) ad))))
  (aq (aF 3 S.nd (pe_lst ad))
  (aq (ps_for PassesOwn.never rfl (pQ (by rfl) T.n_enumerate (aa (aA aB (pv 0) ak (λ_ _=>rfl)) ad) (rP (aD aK (by rfl) T.n_len QH (aa (aA aB (pv 0) ak (λ_ _=>rfl)) ad)) ud)) (gf rfl (aY (bW 4 S.nd) (aY (bW 5 S.nd) cE)))
  (aw (bI (aG gp (au f_rule_worth hr (aa (aA aB (pv 5) ak (λ_ _=>rfl)) (aa (pv 2) ad))) (aA fj (pv 1) (pv 4) (λ_ _=>rfl)) (aQ _)) (aw (bB (d_ QX xb xf bZ (pv 3) (aa (pe_tup (aa (aA aB (pv 5) ak (λ_ _=>rfl)) (aa (au f_turned_at hr (aa (pv 1) (aa (pv 4) ad))) ad))) ad)))) aV)))
  (aw (ax (pv 3)))))),?_⟩
 walk_at "e";have i4:=ok.i4;have g7:=ok.g7;have lgn:=aN NA.gates;have wl:(ac ins gs).length=ins.length+gs.length:=by unfold ac;rw[Qh,Qd]
 have big:1000<sizeLine:=by decide
 walk_at "w";refine⟨a,li,lg,ins,gvs,gs,z,rfl,NA,ok,st,λd H1 S1 _ hd=>?_⟩;have df:=fP nd st
 change DFn (dz (ac ins gs) z) _ _ at df
 generalize dz (ac ins gs) z=kvs at hd df;walk_at "w";refine⟨by simp[sizeLine],λl hl=>?_⟩;generalize hE:upd _ l _=H2;have S2:ar H1 H2:=by rw[<-hE];exact al hl
 have q2:H2 l=some (.lst []):=by rw[<-hE];exact ai
 clear hE;have S12:=S1.trans S2;have hlH:H l=none:=ar.free S1 hl;have NA2:=NA.same S12;have hd2:=S2 _ _ hd;have dl:d≠l:=ay hd hl;obtain⟨ha,hi,hg,gts⟩:=id NA2;walk_at "w";show bP _ _ _ _ _;walk_at "w";refine⟨lg,_,rfl,rfl,by rw[Qd];omega,⟨_,SqL.of hg⟩,?_⟩;have nlg:lg≠l:=ay NA.hg hlH;let I2:IvF:=λi σ H'=>(∃x4 x5 vs',σ=[some (.ref a),some (.str z),some (.ref d),some (.ref l),x4,x5]/\H' l=some (.lst vs')/\vs'.length<=i/\Paired (km H') vs' (((gs.zipIdx ins.length).take i).filterMap (bz (sgn (ac ins gs) z) z)))/\ar H H'/\H' d=some (.dK kvs)
 refine oQ (xs:=gvs) I2
  ⟨⟨_,_,[],rfl,q2,by simp,by simp;exact .nil⟩,S12,hd2⟩ (λi σ H' _ pv=>SqL.of (pv.2.1 _ _ NA.hg)) (λi x σ H' t hx pv ht=>?_) (λσ H' pv=>?_)
 ·obtain⟨⟨x4,x5,vs',rfl,hl',hlen,hp⟩,SS,hd'⟩:=pv;have hig:i<gvs.length:=(Qc.mp hx).1;obtain⟨g,hgi,b,rv,rfl,hb,hrv⟩:=bY NA.gates i x hx;have S3:=al (o:=.tup [.int (((ins.map V.str).length:Int)+(i:Nat)),.ref b]) ht;refine⟨t,_,rfl,SqT.of ai,rfl,?_⟩;refine⟨_,_,rfl,ap ⟨_,_,rfl,ap ?_⟩⟩;have hl3:=S3 _ _ hl';have hd3:=S3 _ _ hd';have SS3:=SS.trans S3;have hp3:=cY (ar.tups S3) hp;generalize upd H' t (.tup [.int (((ins.map V.str).length:Int)+(i:Nat)),.ref b])=H3 at *;have hb3:=SS3 _ _ hb;have hr3:=hrv.mono (ar.tups SS3);have gmm:g∈gs:=Qq hgi;have ep:(((ins.map V.str).length:Int)+(i:Nat))=((ins.length+i:Nat):Int):=by rw[Qd];omega
  rw[ep];obtain⟨rok,rdep⟩:=ok.rules g gmm;have hpl:ins.length+i<(ac ins gs).length:=by omega
  have hzi:(gs.zipIdx ins.length)[i]?=some (g,ins.length+i):=by rw[List.getElem?_zipIdx,hgi];rfl
  refine⟨rfl,?_⟩;walk_at "w";refine⟨rv,d,kvs,g.2,_,_,rfl,hr3,rdep,rok,hd3,df,?_⟩;generalize hv:g.2.val (sgn (ac ins gs) z)=bv;have e:=fF st hpl;unfold dF at e;have zl:z.length=(ac ins gs).length:=st.len;walk_at "w";refine gq (by omega) (kh st hpl) ?_;rw[e];refine i_ne (by cases bv <;> cases (z.cps.getD (ins.length+i) 0==49) <;> rfl) ?_;rw[sV];refine⟨_,rfl,?_⟩
  have tk:((gs.zipIdx ins.length).take (i+1)).filterMap (bz (sgn (ac ins gs) z) z)=((gs.zipIdx ins.length).take i).filterMap (bz (sgn (ac ins gs) z) z)++(bz (sgn (ac ins gs) z) z (g,ins.length+i)).toList:=by
   rw[Q2,hzi,List.filterMap_append];cases h:bz (sgn (ac ins gs) z) z (g,ins.length+i) <;> simp[h]
  have so:bz (sgn (ac ins gs) z) z (g,ins.length+i)=if (bv==(z.cps.getD (ins.length+i) 0==49))=true then none else some (g.1,cH z (ins.length+i)):=by
   unfold bz;rw[hv]
  cases hc:(bv==(z.cps.getD (ins.length+i) 0==49)) with
  | true =>
   refine cz ?_;rw[hc]at so;refine⟨⟨_,_,vs',rfl,hl3,by omega,?_⟩,SS3,hd3⟩;rw[tk,so];simpa using hp3
  | false =>
  refine bO ?_;rw[hc]at so;walk_at "w";refine⟨i_tyL hl3,?_⟩;walk_at "w";refine⟨z,_,ins.length+i,rfl,st,hpl,by omega,?_⟩;walk_at "w";refine⟨by simp[sizeLine],λq hq=>?_⟩;generalize hE:upd _ q _=H4;have S4:ar H3 H4:=by rw[<-hE];exact al hq
  have q4:H4 q=some (.tup [.str g.1,.str (cH z (ins.length+i))]):=by rw[<-hE];exact ai
  clear hE;have hl4:=S4 _ _ hl3;have hd4:=S4 _ _ hd3;have nql:q≠l:=λe=>by rw[e,hl3]at hq;cases hq
  walk_at "w";refine jv hl4 (by omega) ?_
  have kt:eN H4 (upd H4 l (.lst (vs'++[.ref q]))):=λb xs e=>by
   have:b≠l:=λx=>by rw[x,hl4]at e;cases e
   rw[ao this];exact e
  refine⟨⟨_,_,vs'++[.ref q],rfl,ai,by simp;omega,?_⟩,aX (SS3.trans S4) hlH,by rw[ao dl];exact hd4⟩;rw[tk,so];exact fK (cY kt (cY (ar.tups S4) hp3)) ⟨q,rfl,kt _ _ q4⟩
 obtain⟨⟨x4,x5,vs',rfl,hl',hlen,hp⟩,SS,hd'⟩:=pv;refine s_ret (te:=dE 3) (D:={ nx:=λx H'=>Q V.non H',rt:=Q }) (ae rfl ?_);refine k l vs' H' SS hlH hl' ?_;have e:(gs.zipIdx ins.length).length=gvs.length:=by rw[List.length_zipIdx,lgn]
 rw[<-e,List.take_length]at hp;exact hp
end
def bJ (ins:List Str) (gs:List (Str × Rl)) (z:Str):List Str:=(gs.filter λg=>!(g.2.val (sgn (ac ins gs) z)==sgn (ac ins gs) z g.1)).map (·.1)
theorem d8 {f:Str->Bool} {z:Str}:∀(gs:List (Str × Rl)) (n:Nat),(∀(j:Nat) g,gs[j]?=some g->(z.cps.getD (n+j) 0==49)=f g.1)->((gs.zipIdx n).filterMap (bz f z)).map (·.1)=(gs.filter λg=>!(g.2.val f==f g.1)).map (·.1)
 | [],_,_=>rfl
 | g::gs,n,h=>by
  have h0:=h 0 g rfl
  have ih:=d8 gs (n+1) λj g' e=>by
   have q:=h (j+1) g' (by simpa using e);rw[show n+1+j=n+(j+1) from by omega];exact q
  rw[List.zipIdx_cons,Q7,List.filter_cons]
  have so:bz f z (g,n)=if (g.2.val f==f g.1)=true then none else some (g.1,cH z n):=by
   unfold bz;rw[<-h0];rfl
  rw[so]
  cases (g.2.val f==f g.1) with
  | true=>simpa using ih
  | false=>simpa using ih
variable {z:Str}
theorem di {ins:List Str} {gs:List (Str × Rl)} (nd:(ac ins gs).Nodup):(aJ ins gs z).map (·.1)=bJ ins gs z:=by
 refine d8 gs ins.length λj g e=>?_;have hj:j<gs.length:=(Qc.mp e).1
 have hw:(ac ins gs)[ins.length+j]?=some g.1:=by
  unfold ac;rw[QS (by omega),Qk,show ins.length+j-ins.length=j from by omega,e];rfl
 have hl:ins.length+j<(ac ins gs).length:=(Qc.mp hw).1
 have hi:(ac ins gs).idxOf g.1=ins.length+j:=by
  have e2:(ac ins gs)[ins.length+j]=g.1:=(Qc.mp hw).2;rw[<-e2];exact List.Nodup.idxOf_getElem nd _ hl
 unfold sgn;rw[hi]
def dj:Sp:=λvs H Q _=>∃a li lg ins gvs gs z,vs=[.ref a,.str z]/\NAt H a li lg ins gvs gs/\NetOk ins gs/\(ac ins gs).Nodup/\StOk (ac ins gs).length z /\
 ∀l H',ar H H'->H l=none->H' l=some (.lst ((bJ ins gs z).map V.str))->Q (.ref l) H'
section
theorem ip:FnScope ["net", "standing"] ["net", "standing"] (am (top 29)):=by walk_at "k"
theorem qu {f:Addr} {fd:FuncData} (Fu:Fun K "asked_gates" "asked_gates" (top 29) f fd) (T:Txt K mg TT) (f_check_standing:Fn P w K mg base "check_standing" ["net", "thing"] 3 (cZ .non)) (f_steps_from:Fn P w K mg base "steps_from" ["net", "standing"] 12 dP) :
  FnOk P w K mg base CX0 13 f fd ["net", "standing"] dj:=by
 have S:=ip;refine Fu.ok S (by walk_at "l") (λcdv A outer s H vs Q E hr h=>?_);obtain⟨a,li,lg,ins,gvs,gs,z,rfl,NA,ok,nd,st,k⟩:=h
 refine⟨_,(aq (bB (au f_check_standing hr (aa (pv 0) (aa (pv 1) ad))))
  (aw (ax (cM (tgs:=["step"]) (cap:=[]) rfl ⟨rfl,rfl,rfl,rfl,rfl,rfl⟩ (bh (au f_steps_from hr (aa (pv 0) (aa (pv 1) ad)))) (λ_ _ _ _=>(aZ (i:=0) (show List.Nodup [("step" : Str)] by decide +kernel) rfl (by walk_at "z"))) (λ_ _ _ _=>br) (λ_ _ _ _=>(aA (fN (K:=K) rfl) (pv 0) ak (λ_ _=>rfl))))))),?_⟩
 walk_at "e";walk_at "w";refine⟨a,li,lg,ins,gvs,gs,z,rfl,NA,ok,st,λH1 S1=>?_⟩;walk_at "w"
 try refine i_comp ?_
 walk_at "w";refine⟨a,li,lg,ins,gvs,gs,z,rfl,NA.same S1,ok,nd,st,λl vs' H2 S2 hl h2 pr=>⟨l,rfl,⟨_,SqL.of h2⟩,λD hD=>?_⟩⟩;have g7:=ok.g7;have big:1000<sizeLine:=by decide
 have lv:=aN pr
 have ls:(aJ ins gs z).length<=gs.length:=by
  have:=List.length_filterMap_le (bz (sgn (ac ins gs) z) z) (gs.zipIdx ins.length);rw[List.length_zipIdx]at this;exact this
 rw[<-di nd]at k;refine cB (xs:=vs') (λn H' ys=>ar H2 H'/\H' D=some (.lst ys)/\ys=(((aJ ins gs z).map (·.1)).map V.str).take n) ⟨al hD,ai,by simp⟩ (λn H' ys p=>⟨p.2.1,SqL.of (p.1 _ _ h2)⟩) (λn x H' ys e p=>?_) (λH' ys p=>?_)
 ·obtain⟨Sm,hd,rfl⟩:=p;obtain⟨y,hy,b,rfl,hb⟩:=bY pr n x e;have hn:n<vs'.length:=(Qc.mp e).1;refine ap ⟨trivial,?_⟩;refine i_yes (bO ?_);refine aC (ae rfl (i_c (ba (Sm _ _ hb) rfl (bS.mk hd hn (by rw[QL];omega) ⟨aX Sm hD,ai,?_⟩))));rw[Q2,Qk,Qk,hy];rfl
 obtain⟨Sm,hd,rfl⟩:=p;refine k D H' (S1.trans (S2.trans Sm)) (ar.free (S1.trans S2) hD) ?_;rw[hd,QF (by rw[Qd,Qd];omega)]
end
set_option maxHeartbeats 2000000
theorem iK {xs:Array Nat}:∀(j a:Nat),a+j<=xs.size->((List.range j).map λk=>a+k).filterMap (xs[·]?)=(xs.toList.drop a).take j
 | 0,a,_=>by simp
 | j+1,a,h=>by
  rw[List.range_succ,Qm,List.filterMap_append,iK j a (by omega),Q2];have e:(xs.toList.drop a)[j]?=xs[a+j]?:=by rw[List.getElem?_drop];simp
  rw[e];have q:xs[a+j]?=some (xs[a+j]'(by omega)):=by rw[Array.getElem?_eq_getElem]
  simp[q]
theorem hX {a b:Nat} {lo hi:Option Int} (hl:PySem.Builtin.Str.strSliceIndices lo hi 1 z.length=(List.range (b-a)).map λk=>a+k) (hb:b<=z.cps.size) (hab:a<=b):(Txt.slice z lo hi).cps.toList=(z.cps.toList.drop a).take (b-a):=by
 unfold Txt.slice;rw[hl]
 split
 ·rename_i h
  have h:b-a=z.length:=by simpa using h
  have h':z.length=z.cps.size:=rfl;have a0:a=0:=by omega
  subst a0;rw[List.drop_zero,QF (by rw[QA];omega)]
 exact iK (b-a) a (by omega)
theorem kA {z:Str} {j:Nat} (h:j<=z.cps.size):(Txt.slice z none (some (j:Int))).cps.toList=z.cps.toList.take j:=by
 have h':z.length=z.cps.size:=rfl;refine(hX (a:=0) (b:=j) ?_ h (QN _)).trans (by simp);unfold PySem.Builtin.Str.strSliceIndices sliceRange
 have e:max 0 (min (if (j:Int)<0 then (j:Int)+z.length else (j:Int)) (z.length:Int))=(j:Int):=by
  rw[Qz (Int.not_lt.mpr (Int.natCast_nonneg _)),Int.min_eq_left (show _<=(z.length:Int) from Int.ofNat_le.mpr h),Int.max_eq_right (Int.natCast_nonneg _)]
 simp only[show (1:Int)>0 from by decide,if_true,e]
 have c:(if (0:Int)<(j:Int) then ((j:Int)-0+1-1) / 1 else 0).toNat=j-0:=by
  rw[Int.ediv_one,Int.add_sub_cancel,Int.sub_zero,Nat.sub_zero]
  split
  ·rfl
  omega
 rw[c];refine List.map_congr_left λk _=>?_;omega
theorem hZ {z:Str} {a:Nat} (h:a<=z.cps.size):(Txt.slice z (some (a:Int)) none).cps.toList=z.cps.toList.drop a:=by
 have h':z.length=z.cps.size:=rfl;refine(hX (a:=a) (b:=z.cps.size) ?_ (Qi _) h).trans (by rw[QF (by rw[List.length_drop,QA];omega)]);unfold PySem.Builtin.Str.strSliceIndices sliceRange
 have e:max 0 (min (if (a:Int)<0 then (a:Int)+z.length else (a:Int)) (z.length:Int))=(a:Int):=by
  rw[Qz (Int.not_lt.mpr (Int.natCast_nonneg _)),Int.min_eq_left (show _<=(z.length:Int) from Int.ofNat_le.mpr h),Int.max_eq_right (Int.natCast_nonneg _)]
 simp only[show (1:Int)>0 from by decide,if_true,e]
 have c:(if (a:Int)<(z.length:Int) then ((z.length:Int)-(a:Int)+1-1) / 1 else 0).toNat=z.cps.size-a:=by
  rw[Int.ediv_one,Int.add_sub_cancel,h']
  split
  ·rw[<-Int.ofNat_sub h];rfl
  omega
 rw[c];refine List.map_congr_left λk _=>?_;omega
variable {i n:Nat}
theorem rB (st:StOk n z) (hi:i<n):StOk n (cH z i):=by
 have hl:=st.len;have a:=kA (z:=z) (j:=i) (by omega);have b:=hZ (z:=z) (a:=i+1) (by omega);rw[show ((i+1:Nat):Int)=(i:Int)+1 from by omega]at b
 have f:(b_ z i).cps.toList=[48]\/(b_ z i).cps.toList=[49]:=by
  unfold b_
  split
  ·exact .inl (by decide +kernel)
  exact .inr (by decide +kernel)
 have e:(cH z i).cps.toList=(z.cps.toList.take i++(b_ z i).cps.toList)++z.cps.toList.drop (i+1):=by
  unfold cH;show ((_++_)++_:Array Nat).toList=_;rw[Array.toList_append,Array.toList_append,a,b]
 refine⟨?_,λc hc=>?_⟩
 ·rw[<-QA,e,Qh,Qh,QL,List.length_drop,QA];have:(b_ z i).cps.toList.length=1:=by rcases f with f|f <;> rw[f] <;> rfl
  omega
 rw[e]at hc;rcases Qt.mp hc with h|h
 ·rcases Qt.mp h with h|h
  ·exact st.signs c (List.mem_of_mem_take h)
  rcases f with f|f
  ·rw[f]at h;exact .inl (by simpa using h)
  rw[f]at h;exact .inr (by simpa using h)
 exact st.signs c (List.mem_of_mem_drop h)
theorem turn_list (st:StOk n z) (hi:i<n):(cH z i).cps.toList=z.cps.toList.take i++(if (z.cps.getD i 0==49)=true then 48 else 49)::z.cps.toList.drop (i+1):=by
 have hl:=st.len;have a:=kA (z:=z) (j:=i) (by omega);have b:=hZ (z:=z) (a:=i+1) (by omega);rw[show ((i+1:Nat):Int)=(i:Int)+1 from by omega]at b
 have f:(b_ z i).cps.toList=[if (z.cps.getD i 0==49)=true then 48 else 49]:=by
  unfold b_
  split
  ·decide +kernel
  decide +kernel
 unfold cH;show ((_++_)++_:Array Nat).toList=_;rw[Array.toList_append,Array.toList_append,a,b,f];simp
end K2
namespace K2
open PySem L2
local macro_rules | `(tactic| walk_at "vc") => `(tactic| first
 | ((refine' (?zz : (?zA → ?zG) → ?zA → ?zG) ?zr ?_); (case zr => with_reducible exact s_seqT); (case zz => exact fun _ q => q); intro D') | ((refine' (?zz : (?zA → ?zG) → ?zA → ?zG) ?zr ?_); (case zr => with_reducible first | exact s_asgQ | exact s_drop | exact s_ret | exact s_if | exact s_sub | exact s_next | exact i_cQ | exact i_opQ | exact i_test | exact i_tB | exact i_and | exact i_or | exact i_not | exact i_andV | exact i_orV | exact i_notV | exact i_ifE | exact i_nilQ | exact i_consQ | exact i_cb | exact i_tup | exact i_lst | exact i_bm | exact i_sl | exact i_nopart | exact i_part | exact s_for | exact s_rng1 | exact s_list | exact s_str | exact i_dget | exact i_yes | exact i_un); (case zz => exact fun _ q => q))   | (with_reducible refine s_nameQ ?_)
 | ((with_reducible refine' i_varQ ?hv ?_); (case hv => exact rfl))   | (with_reducible first | refine i_rI0 ?_ | refine i_callQ ?_ | refine s_strI ?_ | refine iteFQ ?_ | refine iteTQ ?_ | refine i_rU ?_)
 | ((with_reducible show ∃ i, V.int _ = V.int i ∧ _); (refine ⟨_, rfl, ?_⟩)) | ((with_reducible show ∃ k, V.bl _ = V.bl k ∧ _); (refine ⟨_, rfl, ?_⟩)) | ((with_reducible show (∃ i, [V.bl _] = [V.int i] ∧ _) ∨ _); (refine Or.inr ⟨_, rfl, ?_⟩))
 | ((with_reducible refine' i_ixL ?ha ?hb ?_); (case ha => exact SqLofQ (by assumption)); (case hb => exact rfl)) | ((with_reducible refine' i_ixTQ ?ha ?hb ?_); (case ha => assumption); (case hb => exact rfl))
 | ((with_reducible show ∃ p _, [V.ref _] = [V.ref p] ∧ (SqL _ _ _ _ ∨ SqT _ _ _ _) ∧ _); (refine' ⟨_, _, rfl, Or.inl (SqLofQ ?ha), ?_⟩); (case ha => assumption)) | ((with_reducible refine' s_setL ?ha ?hb ?_); (case ha => assumption); (case hb => exact rfl))
 | ((with_reducible refine' i_eq ?ha ?_); (case ha => exact rfl)) | ((with_reducible refine' i_ne ?ha ?_); (case ha => exact rfl))
 | ((with_reducible show ∃ z, V.str _ = V.str z ∧ _); (refine ⟨_, rfl, ?_⟩))
 | ((with_reducible refine' i_rI ?hv ?_); (case hv => first | decide | (dsimp only; omega) | exact .inl ⟨by omega, by omega⟩ | exact .inr ⟨by omega, by omega⟩ | exact ⟨by decide, by decide⟩ | exact ⟨by decide, by decide, by decide⟩ | exact ⟨by omega, by omega⟩))
 | ((with_reducible show ∃ i, [V.int _] = [V.int i] ∧ _); (refine ⟨_, rfl, ?_⟩))
 | ((with_reducible show tyV _ "list" _ _ ∧ _); (refine' ⟨i_tyL ?ha, ?_⟩); (case ha => assumption)))
local macro_rules | `(tactic| walk_at "p") => `(tactic| repeat' (with_reducible first | (refine' pss_oneQ ?_; rotate_left 1) | (refine' pss_consQ ?_ ?_; rotate_left 2) | exact pss_nilQ | (refine' ps_ifQ ?_ ?_ ?_; rotate_left 3)))
local macro_rules | `(tactic| walk_at "b") => `(tactic| (refine' pss_consQ ?_ ?_; rotate_left 2; walk_at "p"))
local macro_rules | `(tactic| walk_at "f") => `(tactic| (refine' ps_for PassesOwn.never rfl ?_ ?_ ?_ (fun _ => rfl); rotate_left 3))
local macro_rules | `(tactic| walk_at "q") => `(tactic| repeat' (with_reducible first | exact pe_strQ | exact pe_intQ | exact pa_nilQ | (refine' pe_tup ?_; rotate_left 1) | (refine' pe_lst ?_; rotate_left 1) | (refine' pa_consQ ?_ ?_ se_conQ; rotate_left 2) | (refine' pa_consQ ?_ ?_ se_tup; rotate_left 2) | (refine' pa_consQ ?_ ?_ se_nameQ; rotate_left 2) | (refine' pa_consQ ?_ ?_ se_sub; rotate_left 2) | (refine' pa_consQ ?_ ?_ se_bin; rotate_left 2) | (refine' pa_consQ ?_ ?_ se_lst; rotate_left 2) | (refine' pa_consQ ?_ ?_ se_call; rotate_left 2) | (refine' pa_consQ ?_ ?_ se_lc; rotate_left 2)))
local macro_rules | `(tactic| walk_at "l") => `(tactic| (intro vs H Q E h; repeat (first | (obtain ⟨e, _⟩ := h; subst e; rfl) | (obtain ⟨_, h⟩ := h))))
local macro_rules | `(tactic| walk_at "e") => `(tactic| ((try dsimp only [cxOf, Cx.nox, Cx.wish]); (conv in (L2.start _ _) => simp only [L2.start, Qs, List.map_nil, QM, Q6, List.replicate_succ, List.replicate_zero, List.cons_append, List.nil_append, Nat.reduceAdd, Nat.reduceSub]); have big : 100000 < sizeLine := by decide))
local macro_rules | `(tactic| walk_at "s") => `(tactic| (with_reducible first | refine s_seq ?_ | refine s_if ?_ | refine s_next ?_ | refine i_or ?_ | refine s_nameQ ?_ | refine s_ret ?_))
local macro_rules|`(tactic|walk_at "w")=>`(tactic|repeat walk_at "vc")
local macro_rules|`(tactic|walk_at "k")=>`(tactic|exact⟨rfl,rfl,rfl,by decide +kernel,rfl,by decide +kernel,by decide +kernel⟩)
local macro_rules|`(tactic|walk_at "d")=>`(tactic|try dsimp only[cxOf,Cx.nox,Cx.wish])
theorem ir:∀(qs kvs:List (Key × V)),(qs.map (·.1)).Nodup->(∀q∈qs,bq kvs q.1=none)->bg kvs qs=kvs++qs
 | [],kvs,_,_=>by simp[bg]
 | q::qs,kvs,nd,h=>by
  rw[Qs,xg]at nd;show bg (bK kvs q.1 q.2) qs=_;rw[ir qs _ nd.2 λp hp=>?_,eB q.2 (h q (by simp)),List.append_assoc]
  ·rfl
  rw[dC,Qz (λe=>nd.1 (by rw[<-e];exact List.mem_map_of_mem hp))];exact h p (Qv _ hp)
variable {ws w1 w2 ins ns ms xs zs i2 i1 x1 x2 x3:List Str}
theorem tJ (nd:ws.Nodup) (z:Str):dz ws z=bu ws z:=by
 unfold dz;rw[ir _ [] (by rw[de];exact eO nd) λq _=>rfl];rfl
theorem jr:∀(qs kvs:List (Key × V)),eF kvs qs=bg kvs qs
 | [],_=>rfl
 | q::qs,kvs=>by
  show eF (bK kvs q.1 q.2) qs=_;rw[jr qs];rfl
theorem qX (nd:ws.Nodup) (z:Str):(dz ws z).length=ws.length:=by rw[tJ nd];unfold bu;simp
def gm (w1:List Str) (z1:Str) (w2:List Str) (z2:Str) (n:Str):Bool:=if n∈w2 then sgn w2 z2 n else sgn w1 z1 n
def rl (w1:List Str) (z1:Str) (w2:List Str) (z2:Str):Prop:=∀n∈w1,n∈w2->sgn w2 z2 n=sgn w1 z1 n
variable {n z z1 z2 y x s h t c:Str}
theorem tO (st:StOk ws.length z) (hn:n∈ws):((Sum.inr n:Key),sg (sgn ws z n))∈bu ws z:=by
 have hi:ws.idxOf n<ws.length:=List.idxOf_lt_length_of_mem hn;have e:ws[ws.idxOf n]?=some n:=by rw[Qe hi];exact congrArg some (List.getElem_idxOf hi)
 unfold bu;refine Qu.mpr ⟨(n,ws.idxOf n),?_,?_⟩
 ·rw[List.mem_zipIdx_iff_getElem?];exact e
 show ((Sum.inr n:Key),dF z (ws.idxOf n))=_;rw[fF st hi];rfl
theorem rn (hn:n∉ws):(Sum.inr n:Key)∉(bu ws z).map (·.1):=by
 rw[de];intro h;obtain⟨m,hm,e⟩:=Qu.mp h;cases e;exact hn hm
theorem qY (n1:w1.Nodup) (n2:w2.Nodup) (s1:StOk w1.length z1) (s2:StOk w2.length z2) (h:∀n∈ws,n∈w1\/n∈w2):DFn (bg (dz w1 z1) (bu w2 z2)) ws (gm w1 z1 w2 z2):=λn hn=>by
 unfold gm;by_cases c:n∈w2
 ·rw[QC c,ce (by rw[de];exact eO n2) (tO s2 c)]
 rw[Qz c,cJ (rn c)];exact fP n1 s1 n ((h n hn).resolve_right c)
theorem n8 {w2:List Str} {z2:Str} (n1:w1.Nodup) (s1:StOk w1.length z1):bd (gm w1 z1 w2 z2) w1=z1↔rl w1 z1 w2 z2:=by
 have e:=fH n1 s1
 constructor
 ·intro h n hn h2;have q:=rJ (h.trans e.symm) n hn;unfold gm at q;rw[QC h2]at q;exact q
 intro h;refine(iq λn hn=>?_).trans e;unfold gm;by_cases c:n∈w2
 ·rw[QC c];exact h n hn c
 rw[Qz c]
def fE:Sp:=λvs H Q _=>∃a1 l1 m1 i1 v1 g1 a2 l2 m2 i2 v2 g2 z,vs=[.ref a1,.ref a2,.str z]/\NAt H a1 l1 m1 i1 v1 g1/\NAt H a2 l2 m2 i2 v2 g2/\NetOk i1 g1/\NetOk i2 g2/\i1.length+i2.length<=20/\g1.length+g2.length<=20 /\
 gx (aL i1 i2 g1 g2) (g1++g2)/\StOk (ac (aL i1 i2 g1 g2) (g1++g2)).length z/\∀p H',ar H H'->H' p=some (.tup [.str (bd (sgn (ac (aL i1 i2 g1 g2) (g1++g2)) z) (ac i1 g1)),.str (bd (sgn (ac (aL i1 i2 g1 g2) (g1++g2)) z) (ac i2 g2))])->Q (.ref p) H'
def jN:Sp:=λvs H Q E=>∃a1 l1 m1 i1 v1 g1 a2 l2 m2 i2 v2 g2 z1 z2,vs=[.ref a1,.ref a2,.str z1,.str z2]/\NAt H a1 l1 m1 i1 v1 g1/\NAt H a2 l2 m2 i2 v2 g2/\NetOk i1 g1/\NetOk i2 g2/\i1.length+i2.length<=20/\g1.length+g2.length<=20 /\
 gx (aL i1 i2 g1 g2) (g1++g2)/\(ac i1 g1).Nodup/\(ac i2 g2).Nodup/\StOk (ac i1 g1).length z1/\StOk (ac i2 g2).length z2 /\
 rl (ac i1 g1) z1 (ac i2 g2) z2/\∀H',ar H H'->Q (.str (bd (gm (ac i1 g1) z1 (ac i2 g2) z2) (ac (aL i1 i2 g1 g2) (g1++g2)))) H'
theorem gP (ins:List Str) (gs:List (Str × Rl)):(ac ins gs).length=ins.length+gs.length:=by unfold ac;rw[Qh,Qd]
variable {P:Program} {w:World} {K:PySem.W.Frag} {mg:Str->Option Value} {base:Heap} {TT:Addr}
section
theorem mf:FnScope ["one", "other", "standing", "joined", "signs"] ["one", "other", "standing"] (am (top 35)):=by walk_at "k"
theorem oB {f:Addr} {fd:FuncData} (Fu:Fun K "both_of" "both_of" (top 35) f fd) (T:Txt K mg TT) (f_nets_joined:Fn P w K mg base "nets_joined" ["one", "other"] 12 gZ) (f_check_standing:Fn P w K mg base "check_standing" ["net", "thing"] 3 (cZ .non)) (f_signs_in:Fn P w K mg base "signs_in" ["net", "standing"] 3 pz) (f_row_of:Fn P w K mg base "row_of" ["signs", "wires"] 1 gF) (f_wires_of:Fn P w K mg base "wires_of" ["net"] 2 bA):FnOk P w K mg base CX0 13 f fd ["one", "other", "standing"] fE:=by
 have S:=mf;refine Fu.ok S (by walk_at "l") (λcdv A outer s H vs Q E hr h=>?_);obtain⟨a1,l1,m1,i1,v1,g1,a2,l2,m2,i2,v2,g2,z,rfl,N1,N2,o1,o2,li,lg,isn,st,k⟩:=h
 refine⟨_,(aq (aF 3 S.nd (au f_nets_joined hr (aa (pv 0) (aa (pv 1) ad))))
  (aq (bB (au f_check_standing hr (aa (pv 3) (aa (pv 2) ad))))
  (aq (aF 4 S.nd (au f_signs_in hr (aa (pv 3) (aa (pv 2) ad))))
  (aw (ax (pe_tup (aa (au f_row_of hr (aa (pv 4) (aa (au f_wires_of hr (aa (pv 0) ad)) ad))) (aa (au f_row_of hr (aa (pv 4) (aa (au f_wires_of hr (aa (pv 1) ad)) ad))) ad)))))))),?_⟩
 walk_at "e";have ok:=jok o1 o2 li lg;have w1:=gP i1 g1;have w2:=gP i2 g2;have i41:=o1.i4;have i42:=o2.i4;have g71:=o1.g7;have g72:=o2.g7;walk_at "w";refine⟨a1,l1,m1,i1,v1,g1,a2,l2,m2,i2,v2,g2,rfl,N1,N2,o1,o2,li,lg,isn,λaj lj mj H1 S1 _ _ _ J=>?_⟩;walk_at "w";refine⟨aj,lj,mj,_,_,_,z,rfl,J,ok,st,λH2 S2=>?_⟩;walk_at "w";refine⟨aj,lj,mj,_,_,_,z,rfl,J.same S2,ok,st,λd H3 S3 nd hd=>?_⟩;have df:=fP isn.2.2.2 st;have S03:=S1.trans (S2.trans S3);walk_at "w";refine⟨a1,l1,m1,i1,v1,g1,rfl,N1.same S03,o1,λp4 H4 S4 n4 h4=>?_⟩;walk_at "w";refine⟨d,p4,_,ac i1 g1,_,rfl,S4 _ _ hd,h4,λn hn=>df n (eJ (.inl hn)),by omega,λH5 S5=>?_⟩;have S05:=S03.trans (S4.trans S5);walk_at "w";refine⟨a2,l2,m2,i2,v2,g2,rfl,N2.same S05,o2,λp6 H6 S6 n6 h6=>?_⟩;walk_at "w";refine⟨d,p6,_,ac i2 g2,_,rfl,(S4.trans (S5.trans S6)) _ _ hd,h6,λn hn=>df n (eJ (.inr hn)),by omega,λH7 S7=>?_⟩;walk_at "w";refine⟨by simp[sizeLine],λp8 hp8=>?_⟩;exact k p8 _ (S05.trans (S6.trans (S7.trans (al hp8)))) ai
theorem ii:FnScope ["one", "other", "first", "second", "joined", "signs"] ["one", "other", "first", "second"] (am (top 36)):=by walk_at "k"
theorem qj {f:Addr} {fd:FuncData} (Fu:Fun K "standing_of" "standing_of" (top 36) f fd) (T:Txt K mg TT) (f_nets_joined:Fn P w K mg base "nets_joined" ["one", "other"] 12 gZ) (f_check_standing:Fn P w K mg base "check_standing" ["net", "thing"] 3 (cZ .non)) (f_signs_in:Fn P w K mg base "signs_in" ["net", "standing"] 3 pz) (f_row_of:Fn P w K mg base "row_of" ["signs", "wires"] 1 gF) (f_wires_of:Fn P w K mg base "wires_of" ["net"] 2 bA):FnOk P w K mg base CX0 13 f fd ["one", "other", "first", "second"] jN:=by
 have S:=ii;refine Fu.ok S (by walk_at "l") (λcdv A outer s H vs Q E hr h=>?_);obtain⟨a1,l1,m1,i1,v1,g1,a2,l2,m2,i2,v2,g2,z1,z2,rfl,N1,N2,o1,o2,li,lg,isn,nd1,nd2,st1,st2,ag,k1⟩:=h
 refine⟨_,(aq (aF 4 S.nd (au f_nets_joined hr (aa (pv 0) (aa (pv 1) ad))))
  (aq (bB (au f_check_standing hr (aa (pv 0) (aa (pv 2) ad))))
  (aq (bB (au f_check_standing hr (aa (pv 1) (aa (pv 3) ad))))
  (aq (aF 5 S.nd (au f_signs_in hr (aa (pv 0) (aa (pv 2) ad))))
  (aq (bB (d_ PySem.F.plainAttrs_dict PySem.F.slot_dict_update PySem.F.type_dict_update oD (pv 5) (aa (au f_signs_in hr (aa (pv 1) (aa (pv 3) ad))) ad)))
  (aq (bI (aG gp (au f_row_of hr (aa (pv 5) (aa (au f_wires_of hr (aa (pv 0) ad)) ad))) (pv 2) (aQ _)) dH aV)
  (aw (ax (au f_row_of hr (aa (pv 5) (aa (au f_wires_of hr (aa (pv 4) ad)) ad))))))))))),?_⟩
 walk_at "e";have ok:=jok o1 o2 li lg;have w1:=gP i1 g1;have w2:=gP i2 g2;have wj:=gP (aL i1 i2 g1 g2) (g1++g2);have i41:=o1.i4;have i42:=o2.i4;have g71:=o1.g7;have g72:=o2.g7;have ij:=ok.i4;have gj:=ok.g7;walk_at "w";refine⟨a1,l1,m1,i1,v1,g1,a2,l2,m2,i2,v2,g2,rfl,N1,N2,o1,o2,li,lg,isn,λaj lj mj H1 S1 _ _ _ J=>?_⟩;walk_at "w";refine⟨a1,l1,m1,i1,v1,g1,z1,rfl,N1.same S1,o1,st1,λH2 S2=>?_⟩;have S02:=S1.trans S2;walk_at "w";refine⟨a2,l2,m2,i2,v2,g2,z2,rfl,N2.same S02,o2,st2,λH3 S3=>?_⟩;have S03:=S02.trans S3;walk_at "w";refine⟨a1,l1,m1,i1,v1,g1,z1,rfl,N1.same S03,o1,st1,λd1 H4 S4 n4 h4=>?_⟩;have S04:=S03.trans S4;walk_at "w";refine⟨.inr (.inr (.inl ⟨rfl,.inl ⟨_,h4⟩⟩)),?_⟩;walk_at "w";refine⟨a2,l2,m2,i2,v2,g2,z2,rfl,N2.same S04,o2,st2,λd2 H5 S5 n5 h5=>?_⟩;have S05:=S04.trans S5;have d12:d1≠d2:=ay h4 n5;walk_at "w";refine⟨d1,d2,_,_,rfl,rfl,d12,S5 _ _ h4,h5,by rw[qX nd1,qX nd2];omega,?_⟩;rw[jr,tJ nd2];have n1:H d1=none:=ar.free S03 n4;generalize hE:upd H5 d1 _=H6;have S06:ar H H6:=by rw[<-hE];exact aX S05 n1
 have h6:H6 d1=some (.dK (bg (dz (ac i1 g1) z1) (bu (ac i2 g2) z2))):=by rw[<-hE];exact ai
 have J6:NAt H6 aj lj mj (aL i1 i2 g1 g2) (v1++v2) (g1++g2):=by
  have S15:=S2.trans (S3.trans (S4.trans S5));have n1':H1 d1=none:=ar.free (S2.trans S3) n4;rw[<-hE];exact J.same (aX S15 n1')
 clear hE;walk_at "w";refine⟨a1,l1,m1,i1,v1,g1,rfl,N1.same S06,o1,λp7 H7 S7 n7 h7=>?_⟩;walk_at "w";refine⟨d1,p7,_,ac i1 g1,_,rfl,S7 _ _ h6,h7,qY nd1 nd2 st1 st2 (λn hn=>.inl hn),by omega,λH8 S8=>?_⟩;have S68:=S7.trans S8;have S08:=S06.trans S68;walk_at "w";have e:=(n8 (w2:=ac i2 g2) (z2:=z2) nd1 st1).mpr ag;refine ifF (by rw[e];simp) ?_;walk_at "w";refine⟨aj,lj,mj,_,_,_,rfl,J6.same S68,ok,λp9 H9 S9 n9 h9=>?_⟩;walk_at "w";refine⟨d1,p9,_,_,_,rfl,(S68.trans S9) _ _ h6,h9,qY nd1 nd2 st1 st2 (λn hn=>qJ hn),by omega,λH10 S10=>?_⟩;exact k1 H10 (S08.trans (S9.trans S10))
end
theorem jn {f:Str->Bool} {z:Str}:∀(gs:List (Str × Rl)) (n:Nat),List.Sublist (((gs.zipIdx n).filterMap (bz f z)).map (·.1)) (gs.map (·.1))
 | [],_=>by simp
 | g::gs,n=>by
  rw[List.zipIdx_cons,Q7,Qs];have ih:=jn (f:=f) (z:=z) gs (n+1)
  cases e:bz f z (g,n) with
  | none=>exact ih.cons _
  | some p =>
  have:p.1=g.1:=by
   unfold bz at e
   split at e
   ·cases e
   cases e;rfl
  rw[Qs,this];exact ih.cons₂ _
variable {gs g2:List (Str × Rl)}
theorem pw (nd:(ac ins gs).Nodup) (z:Str):((aJ ins gs z).map (·.1)).Nodup:=by
 unfold ac at nd;exact((List.nodup_append.mp nd).2.1).sublist (jn gs ins.length)
def stV (ps:List (Str × Str)):List (Str × V):=ps.map λp=>(p.1,V.str p.2)
theorem rE (nd:(ac ins gs).Nodup) (h:(n,y)∈aJ ins gs z):bq (bg [] (ed (stV (aJ ins gs z)))) (Sum.inr n:Key)=some (.str y):=by
 refine ce ?_ ?_
 ·have:(ed (stV (aJ ins gs z))).map (·.1)=((aJ ins gs z).map (·.1)).map Sum.inr:=by unfold ed stV;simp
  rw[this];exact eO (pw nd z)
 unfold ed stV;rw[List.map_map];exact Qu.mpr ⟨(n,y),h,rfl⟩
theorem np {H:Hp}:∀{vs:List V} {ps:List (Str × Str)},Paired (km H) vs ps->Paired (ri H) vs (stV ps)
 | _,_,.nil=>.nil
 | _,_,.cons h t=>.cons h (np t)
variable {i j:Nat}
theorem mX (nd:(ac ins gs).Nodup) (hw:(ac ins gs)[i]?=some n) (hn:n∈bJ ins gs z):(n,cH z i)∈aJ ins gs z:=by
 rw[<-di nd]at hn;obtain⟨⟨n',y⟩,hm,rfl⟩:=Qu.mp hn;have hm2:=hm;unfold aJ at hm2;obtain⟨⟨g,p⟩,hp,e⟩:=List.mem_filterMap.mp hm2;obtain⟨h1,h2,h3⟩:=List.mem_zipIdx hp;unfold bz at e
 split at e
 ·cases e
 cases e;have wl:(ac ins gs).length=ins.length+gs.length:=by unfold ac;rw[Qh,Qd]
 have hw2:(ac ins gs)[p]?=some g.1:=by
  unfold ac;rw[QS (by omega),Qk,Qe (by omega),<-h3];rfl
 have hi:i<(ac ins gs).length:=(Qc.mp hw).1;have hp2:p<(ac ins gs).length:=(Qc.mp hw2).1;have:i=p:=(List.getElem_inj nd).mp ((Qc.mp hw).2.trans (Qc.mp hw2).2.symm);rw[this];exact hm
def fl (n:Str) (f:Str->Bool) (m:Str):Bool:=if m=n then !f m else f m
theorem fw (nd:ws.Nodup) (st:StOk ws.length z) (hw:ws[i]?=some n):cH z i=bd (fl n (sgn ws z)) ws:=by
 have hi:i<ws.length:=(Qc.mp hw).1;have en:ws[i]=n:=(Qc.mp hw).2;have e:=turn_list st hi;have zs:=congrArg (λs:Str=>s.cps.toList) (fH nd st);simp only[dG]at zs;have hidx:ws.idxOf n=i:=by rw[<-en];exact List.Nodup.idxOf_getElem nd _ hi
 have es:(z.cps.getD i 0==49)=sgn ws z n:=by unfold sgn;rw[hidx]
 have q:(cH z i).cps.toList=(bd (fl n (sgn ws z)) ws).cps.toList:=by
  rw[e,dG,es,<-zs];refine List.ext_getElem? λj=>?_;have hm:((ws.map λw=>if sgn ws z w then 49 else 48).take i).length=i:=by rw[QL,Qd];omega
  by_cases c1:j<i
  ·rw[QY (by omega),List.getElem?_take,QC c1,Qk,Qk];have hj:j<ws.length:=by omega
   rw[Qe hj]
   have ne:ws[j]≠n:=λh=>by
    have:=(List.getElem_inj nd).mp (h.trans en.symm);omega
   simp[fl,ne]
  rw[QS (by omega),hm,Qk];by_cases c2:j=i
  ·subst c2;rw[Nat.sub_self,hw];cases h:sgn ws z n <;> simp[fl,h]
  rw[show j-i=(j-i-1)+1 by omega,List.getElem?_cons_succ,List.getElem?_drop,Qk,show i+1+(j-i-1)=j by omega]
  cases h:ws[j]? with
  | none=>rfl
  | some m =>
  have hj:j<ws.length:=(Qc.mp h).1;have ej:ws[j]=m:=(Qc.mp h).2
  have ne:m≠n:=λg=>by
   have:=(List.getElem_inj nd).mp ((ej.trans g).trans en.symm);omega
  simp[fl,ne]
 have q':(cH z i).cps=(bd (fl n (sgn ws z)) ws).cps:=Array.toList_inj.mp q;cases h1:cH z i;cases h2:bd (fl n (sgn ws z)) ws;rw[h1,h2]at q';simpa using q'
def jK:Sp:=λvs H Q E=>∃a li lg ins gvs gs z n,vs=[.ref a,.str z,.str n]/\NAt H a li lg ins gvs gs/\NetOk ins gs/\(ac ins gs).Nodup/\StOk (ac ins gs).length z/\n∈ins/\∀H',ar H H'->Q (.str (bd (fl n (sgn (ac ins gs) z)) (ac ins gs))) H'
def fZ:Sp:=λvs H Q E=>∃a li lg ins gvs gs z n,vs=[.ref a,.str z,.str n]/\NAt H a li lg ins gvs gs/\NetOk ins gs/\(ac ins gs).Nodup/\StOk (ac ins gs).length z/\n∈bJ ins gs z/\∀H',ar H H'->Q (.str (bd (fl n (sgn (ac ins gs) z)) (ac ins gs))) H'
section
theorem i0:FnScope ["net", "standing", "name"] ["net", "standing", "name"] (am (top 31)):=by walk_at "k"
theorem qf {f:Addr} {fd:FuncData} (Fu:Fun K "turn_input" "turn_input" (top 31) f fd) (T:Txt K mg TT) (f_check_standing:Fn P w K mg base "check_standing" ["net", "thing"] 3 (cZ .non)) (f_turned_at:Fn P w K mg base "turned_at" ["standing", "place"] 1 fA) :
  FnOk P w K mg base CX0 5 f fd ["net", "standing", "name"] jK:=by
 have S:=i0;refine Fu.ok S (by walk_at "l") (λcdv A outer s H vs Q E hr h=>?_);obtain⟨a,li,lg,ins,gvs,gs,z,n,rfl,NA,ok,nd,st,hn,k⟩:=h
 refine⟨_,(aq (bB (au f_check_standing hr (aa (pv 0) (aa (pv 1) ad))))
  (aq (bI (PW.pt (d9 (bM (bL (aD bp (by rfl) T.n_isinstance QG (aa (pv 2) (aa (cG (v:=.ty "str") (by rfl) T.n_str PyProof.Rows.boot_str rfl) ad))))) (du (aG bE (pv 2) (aA aB (pv 0) ak (λ_ _=>rfl)) rfl)))) dH aV)
  (aw (ax (au f_turned_at hr (aa (pv 1) (aa (d_ QX PySem.F.slot_list_index PySem.F.type_list_index k9 (aA aB (pv 0) ak (λ_ _=>rfl)) (aa (pv 2) ad)) ad))))))),?_⟩
 walk_at "e";walk_at "w";refine⟨a,li,lg,ins,gvs,gs,z,rfl,NA,ok,st,λH1 S1=>?_⟩;have NA1:=NA.same S1;obtain⟨ha,hi,hg,gts⟩:=id NA1;walk_at "w";refine⟨_,_,_,_,rfl,TyOf.str n,bR "str", ?_⟩;refine⟨_,rfl,cz ?_⟩;walk_at "w";refine⟨li,_,rfl,.inl (SqL.of hi),rfl,bx _,?_⟩;refine⟨_,rfl,?_⟩;have i4:=ok.i4;have g7:=ok.g7;have wl:=gP ins gs;have e:inV (.str n) (ins.map V.str)=true:=bt.mpr hn;rw[e];refine ifF (by simp) ?_;have hl:ins.idxOf n<ins.length:=List.idxOf_lt_length_iff.mpr hn;have hidx:ins[ins.idxOf n]?=some n:=by rw[Qe hl,List.getElem_idxOf hl]
 have hno:∀m,m<ins.idxOf n->ins[m]?≠some n:=λm hm h=>by
  have h2:m<ins.length:=by omega
  have h3:ins[m]=n:=(Qc.mp h).2;have h4:=List.not_of_lt_findIdx (p:=(·==n)) hm;simp[h3]at h4
 generalize ins.idxOf n=i at *;have hw:(ac ins gs)[i]?=some n:=by unfold ac;rw[QY hl];exact hidx
 walk_at "w";refine⟨li,ins,n,i,rfl,rfl,hi,hidx,hno,by omega,?_⟩;walk_at "w";refine⟨z,_,i,rfl,st,by omega,by omega,?_⟩;rw[fw nd st hw];exact k H1 S1
theorem ie:FnScope ["net", "standing", "name", "behind"] ["net", "standing", "name"] (am (top 30)):=by walk_at "k"
theorem mn {f:Addr} {fd:FuncData} (Fu:Fun K "switch_gate" "switch_gate" (top 30) f fd) (T:Txt K mg TT) (f_check_standing:Fn P w K mg base "check_standing" ["net", "thing"] 3 (cZ .non)) (f_steps_from:Fn P w K mg base "steps_from" ["net", "standing"] 12 dP) :
  FnOk P w K mg base CX0 14 f fd ["net", "standing", "name"] fZ:=by
 have S:=ie;refine Fu.ok S (by walk_at "l") (λcdv A outer s H vs Q E hr h=>?_);obtain⟨a,li,lg,ins,gvs,gs,z,n,rfl,NA,ok,nd,st,hn,k⟩:=h;have hu:=db hr
 refine⟨_,(aq (bB (au f_check_standing hr (aa (pv 0) (aa (pv 1) ad))))
  (aq (aF 3 S.nd (oh rfl (by rfl) T.n_dict (aa (au f_steps_from hr (aa (pv 0) (aa (pv 1) ad))) ad)))
  (aq (bI (PW.pt (d9 (bM (bL (aD bp (by rfl) T.n_isinstance QG (aa (pv 2) (aa (cG (v:=.ty "str") (by rfl) T.n_str PyProof.Rows.boot_str rfl) ad))))) (du (pJ (jo hu (pv 2) (pv 3)))))) dH aV)
  (aw (ax (cf hu (pv 3) (pv 2) (λ_ _=>rfl))))))),?_⟩
 walk_at "e";have g7:=ok.g7;walk_at "w";refine⟨a,li,lg,ins,gvs,gs,z,rfl,NA,ok,st,λH1 S1=>?_⟩;have NA1:=NA.same S1;walk_at "w";unfold mV;walk_at "w";refine⟨a,li,lg,ins,gvs,gs,z,rfl,NA1,ok,nd,st,λl vs' H4 S4 nl hl pr=>?_⟩;have lv:=aN pr
 have ls:(aJ ins gs z).length<=gs.length:=by
  have:=List.length_filterMap_le (bz (sgn (ac ins gs) z) z) (gs.zipIdx ins.length);rw[List.length_zipIdx]at this;exact this
 refine av ⟨l,vs',stV (aJ ins gs z),rfl,SqL.of hl,by omega,np pr,λd hd=>?_⟩;generalize hE:upd H4 d _=H5;have S5:ar H4 H5:=by rw[<-hE];exact al hd
 have q5:H5 d=some (.dK (bg [] (ed (stV (aJ ins gs z))))):=by rw[<-hE];exact ai
 clear hE;have S05:=S1.trans (S4.trans S5);walk_at "w";refine⟨_,_,_,_,rfl,TyOf.str n,bR "str", ?_⟩;refine⟨_,rfl,cz ?_⟩;walk_at "w";show dE 2 _ _ _;refine ae rfl (ae rfl ?_)
 have hg:n∈ac ins gs:=by
  unfold bJ at hn;obtain⟨g,hg,e⟩:=Qu.mp hn;unfold ac;exact Qt.mpr (.inr (Qu.mpr ⟨g,(List.mem_filter.mp hg).1,e⟩))
 obtain⟨i,hlt,hw'⟩:=QV.mp hg;have hw:(ac ins gs)[i]?=some n:=by rw[Qe hlt,hw']
 have hm:=mX nd hw hn;rw[fw nd st hw]at hm;have vn:=rE nd hm;refine⟨d,some (.str _),rfl,by rw[<-vn];exact cL.k (k:=Sum.inr n) q5,_,rfl,ifF rfl ?_⟩;walk_at "w";refine⟨d,_,rfl,by rw[<-vn];exact cL.k (k:=Sum.inr n) q5,?_⟩;exact k H5 S05
end
theorem f_ {ns:List Str} {f g:Str->Bool} (h:∀n∈ns,f n=g n):∀r:Rl,r.ok ns->r.val f=r.val g
 | .w n=>λq=>h n q
 | .no r=>λq=>by show (!r.val f)=!r.val g;rw[f_ h r q]
 | .an a b=>λq=>by show (a.val f&&b.val f)=(a.val g&&b.val g);rw[f_ h a q.1,f_ h b q.2]
 | .orr a b=>λq=>by show (a.val f || b.val f)=(a.val g || b.val g);rw[f_ h a q.1,f_ h b q.2]
def eU (F:Str->Bool) (gs:List (Str × Rl)):List Str:=(gs.filter λg=>!(g.2.val F==F g.1)).map (·.1)
theorem eS (ok:NetOk ins gs) (F:Str->Bool):bJ ins gs (bd F (ac ins gs))=eU F gs:=by
 unfold bJ eU;congr 1;refine List.filter_congr λg hg=>?_;have hn:g.1∈ac ins gs:=by unfold ac;exact Qt.mpr (.inr (List.mem_map_of_mem hg))
 rw[f_ (ns:=ac ins gs) (λn hn=>dk F hn) g.2 (ok.rules g hg).1,dk F hn]
theorem fo (ins:List Str) (gs:List (Str × Rl)) (z:Str):bJ ins gs z=eU (sgn (ac ins gs) z) gs:=rfl
theorem nN (F:Str->Bool) (g1 g2:List (Str × Rl)):eU F (g1++g2)=eU F g1++eU F g2:=by unfold eU;rw[List.filter_append,Qm]
variable {F f:Str->Bool}
theorem mO (h:n∈eU F gs):n∈gs.map (·.1):=by
 unfold eU at h;obtain⟨g,hg,e⟩:=Qu.mp h;exact Qu.mpr ⟨g,(List.mem_filter.mp hg).1,e⟩
theorem kj (F:Str->Bool) (gs:List (Str × Rl)):(eU F gs).length<=gs.length:=by unfold eU;rw[Qd];exact List.length_filter_le _ _
theorem qQ (n:Str) (F:Str->Bool) (ws:List Str):bd (fl n (sgn ws (bd F ws))) ws=bd (fl n F) ws:=iq λm hm=>by unfold fl;rw[dk F hm]
theorem uH (h:n∉ws):bd (fl n F) ws=bd F ws:=iq λm hm=>by
 unfold fl;have ne:m≠n:=λe=>h (by rw[<-e];exact hm);rw[Qz ne]
theorem ng (h:∀n∈w1,n∈ws):bd (sgn ws (bd F ws)) w1=bd F w1:=iq λm hm=>dk F (h m hm)
theorem kS (f:Str->Bool) (w1 w2:List Str):rl w1 (bd f w1) w2 (bd f w2):=λn h1 h2=>by rw[dk f h1,dk f h2]
theorem kR (h:∀n∈ws,n∈w1\/n∈w2):bd (gm w1 (bd f w1) w2 (bd f w2)) ws=bd f ws:=iq λn hn=>by
 unfold gm;by_cases c:n∈w2
 ·rw[QC c,dk _ c]
 rw[Qz c,dk _ ((h n hn).resolve_right c)]
section
end
def bj (H:Hp) (a:Addr) (sts:List (V × Key)):Prop:=∃vs,H a=some (.lst vs)/\Paired (λv (s:V × Key)=>∃b,v=.ref b/\H b=some (.tup [s.1,kV s.2])) vs sts
variable {a T b li lg aj lj mj a2 l2 m2 a1 l1 m1 a' li' lg':Addr} {H H' H1 H2:Hp}
theorem bj.same {sts:List (V × Key)} (S:ar H H') (h:bj H a sts):bj H' a sts:=by
 obtain⟨vs,h1,h2⟩:=h;exact⟨vs,S _ _ h1,bX (λv s ⟨b,e,q⟩=>⟨b,e,S _ _ q⟩) h2⟩
def sL (F W N:Addr) (H H':Hp):Prop:=∀b o,H b=some o->b≠F->b≠W->b≠N->H' b=some o
def fdK (xs:List Key) (as:List Addr):List (Key × V):=(xs.zip as).map λp=>(p.1,V.ref p.2)
def knK (xs:List Key):List (Key × V):=xs.map λx=>(x,V.bl true)
variable {as:List Addr}
theorem kd {xs:List Key} (h:as.length<=xs.length):(fdK xs as).length=as.length:=by
 unfold fdK;rw[Qd,List.length_zip];omega
theorem lC (xs:List Key) (as:List Addr):(fdK xs as).map (·.1)=xs.take as.length:=by
 unfold fdK;rw[List.map_map];show (xs.zip as).map (λp=>p.1)=_
 induction xs generalizing as with
 | nil=>simp
 | cons x xs ih =>
 cases as with
 | nil=>simp
 | cons a as=>simp[ih]
theorem qS {xs:List Key} {x:Key} (h:xs[as.length]?=some x):fdK xs (as++[a])=fdK xs as++[(x,V.ref a)]:=by
 unfold fdK
 induction xs generalizing as with
 | nil=>simp at h
 | cons y xs ih =>
 cases as with
 | nil=>simp at h;subst h;simp
 | cons b as=>simp at h;simp[ih h]
theorem qT {xs ys:List Key} (h:as.length<=xs.length) (p:xs <+: ys):fdK ys as=fdK xs as:=by
 obtain⟨t,rfl⟩:=p;unfold fdK
 induction xs generalizing as with
 | nil =>
  have:as=[]:=by simpa using h
  subst this;simp
 | cons y xs ih =>
 cases as with
 | nil=>simp
 | cons b as=>simp at h;simpa using ih h
variable {kvs:List (Key × V)}
theorem jh {k:Key}:bq kvs k=none↔k∉kvs.map (·.1):=by
 refine⟨o_,λh=>?_⟩
 cases e:bq kvs k with
 | none=>rfl
 | some v=>exact absurd (ro e) h
theorem nv {xs:List Key} {k:Key}:bq (knK xs) k=none↔k∉xs:=by
 rw[jh];unfold knK;rw[List.map_map];show k∉xs.map (λx=>x)↔_;rw[List.map_id']
def nxK (steps:Key->List (V × Key)) (x:Key):List Key:=(steps x).map (·.2)
def jS (P:Program) (w:World) (K:PySem.W.Frag) (mg:Str->Option Value) (base:Heap) (k:Nat):Sp:=λvs H Q _=>∃(start:Key) (f:Addr) (l:Lm) (cl:List (Str × Addr)) (c:Addr) (r:V->Hp->VK->Prop) (steps:Key->List (V × Key)) (B:Nat),
 vs=[kV start,.ref f]/\H f=some (gi f l cl c)/\Calls P w K mg base k f r/\B<=100000 /\
 (∀x H1 (Q1:VK),Bf.Reach (nxK steps) start x->ar H H1->(∀a H2,ar H1 H2->bj H2 a (steps x)->Q1 (.ref a) H2)->r (kV x) H1 Q1) /\
 (∀xs:List Key,xs.Nodup->(∀x∈xs,Bf.Reach (nxK steps) start x)->xs.length<=B) /\
 ∀(F:Addr) (as:List Addr) (n:Nat) (H':Hp),ar H H'->H F=none->(Bf.bfs (nxK steps) start n).length=n->as.length=n->H' F=some (.dK (fdK (Bf.bfs (nxK steps) start n) as)) ->
  (∀(i:Nat) x a,(Bf.bfs (nxK steps) start n)[i]?=some x->as[i]?=some a->bj H' a (steps x))->Q (.ref F) H'
variable {l:Lm} {Q:VK} {σ:St} {K:PySem.W.Frag}
theorem sC {P:Program} {w:World} {mg:Str->Option Value} {base:Heap} {k:Nat} {te:TE} {f c:Addr} {cl:List (Str × Addr)} {r:V->Hp->VK->Prop} (hi:σ[i]?=some (some (.ref f))) (C:Calls P w K mg base k f r) (hf:H f=some (gi f l cl c))
  (q:te σ H λv H1=>H1 f=some (gi f l cl c)/\r v H1 Q):pi P w K mg base k i te σ H Q:=⟨f,l,cl,c,r,hi,C,hf,q⟩
section
theorem i8:FnScope ["start", "steps_of", "found", "waiting", "known", "at", "here", "steps", "step"] ["start", "steps_of"] (am (top 38)):=by walk_at "k"
theorem qr {kl:Nat} {f:Addr} {fd:FuncData} (Fu:Fun K "found_from" "found_from" (top 38) f fd) (T:Txt K mg TT):FnOk P w K mg base CX0 (kl+1) f fd ["start", "steps_of"] (jS P w K mg base kl):=by
 have S:=i8;refine Fu.ok S (by walk_at "l") (λcdv A outer s H vs Q E hr h=>?_);obtain⟨start,fl,l,cl,c,r,steps,B,rfl,hfl,hC,hB,hst,hfew,k⟩:=h;have hu:=db hr;refine'⟨?_,?bb,?_⟩
 case bb =>
  walk_at "b";exact aF 2 S.nd kQ;exact aF 3 S.nd (pe_lst (aa (pv 0) ad ah));exact aF 4 S.nd (rV (pM (pv 0) cN rO) rfl rfl (by simp) (by decide));exact aF 5 S.nd ak;refine' kO PassesOwn.never ?_ ?_;rotate_left 2;exact(aG kT (pv 5) (aD aK (by rfl) T.n_len QH (aa (pv 3) ad ah)) (aQ _));walk_at "p";exact aF 6 S.nd (aA cR (pv 3) (pv 5) (λ_ _=>rfl));exact aF 7 S.nd (pW (k:=kl) (i:=1) (hr.mono (by omega)) tj (pv 1) (pv 6));exact(nk hu (pv 2) (pv 6) (pv 7) rfl);walk_at "f";exact(bh (pv 7));exact(bW 8 S.nd);walk_at "p";exact(pJ (jo hu (aA aB (pv 8) ak (λ_ _=>rfl)) (pv 4)));exact(nk hu (pv 4) (aA aB (pv 8) ak (λ_ _=>rfl)) cN rfl);exact(bB (d_ QX xb xf bZ (pv 3) (aa (aA aB (pv 8) ak (λ_ _=>rfl)) ad)));exact(uc (i:=5) S.nd rfl (by walk_at "z") ak uB);exact(ax (pv 2))
 walk_at "e";refine s_seq (aU ?_);intro F hF;refine ap ?_;generalize hE:upd H F _=H1;obtain⟨S1,q1⟩:=aI hF hE;clear hE;walk_at "w";refine⟨by simp[sizeLine],λW hW=>?_⟩;generalize hE:upd H1 W _=H2;obtain⟨S2,q2⟩:=aI hW hE;clear hE;walk_at "w";refine λN hN=>?_;refine⟨_,rfl,?_⟩;refine⟨ai,[(start,.bl true)],rfl,by simp,?_⟩;rw[rp];refine ap ?_;generalize hE:upd H2 N _=H3;obtain⟨S3,q3⟩:=aI hN hE;clear hE;walk_at "w";have S03:ar H H3:=S1.trans (S2.trans S3);have FW:F≠W:=ay q1 hW;have FN:F≠N:=ay (S2 _ _ q1) hN;have WN:W≠N:=ay q2 hN
 have W0:H W=none:=by
  cases e:H W with
  | none=>rfl
  | some o=>rw[S1 _ _ e]at hW;cases hW
 have N0:H N=none:=by
  cases e:H N with
  | none=>rfl
  | some o=>rw[(S1.trans S2) _ _ e]at hN;cases hN
 have off:∀{Ha Hb:Hp},ar H Ha->sL F W N Ha Hb->ar H Hb:=λsa o b u e=>o b u (sa b u e) (ay e hF) (ay e W0) (ay e N0);let nx:=nxK steps;let bf:=Bf.bfs nx start;have reach:∀n x,x∈bf n->Bf.Reach nx start x:=λn x h=>Bf.cW n x h;have fewB:∀n,(bf n).length<=B:=λn=>hfew _ (Bf.cC n) (reach n);let I3:IvF:=λm σ H'=>∃(n:Nat) (as:List Addr) (x6 x7 x8:Option V),σ=[some (kV start),some (.ref fl),some (.ref F),some (.ref W),some (.ref N),some (.int (n:Int)),x6,x7,x8]/\m=B+1-n/\n<=(bf n).length/\ar H H'/\H' F=some (.dK (fdK (bf n) as))/\as.length=n/\H' W=some (.lst ((bf n).map kV))/\H' N=some (.dK (knK (bf n)))/\∀(i:Nat) x a,(bf n)[i]?=some x->as[i]?=some a->bj H' a (steps x)
 refine⟨I3,
  ⟨_,0,[],none,none,none,rfl,rfl,QN _,S03,S3 _ _ (S2 _ _ q1),rfl,S3 _ _ q2,q3,λi x a _ e=>nomatch e⟩,?_⟩
 rintro m σ H' ⟨n,as,x6,x7,x8,rfl,rfl,hn,SH,hF',las,hW',hN',hsts⟩;walk_at "w";rw[Qd];by_cases cn:n<(bf n).length
 case neg =>
  refine ifF (Qo (by omega)) ?_;walk_at "w";have e:(bf n).length=n:=by omega
  exact k F as n H' SH hF e las hF' hsts
 refine ifT (Qy (by omega)) ?_;let I4:IvJ:=λσ' H''=>∃(as:List Addr) (x6 x7 x8:Option V),σ'=[some (kV start),some (.ref fl),some (.ref F),some (.ref W),some (.ref N),some (.int ((n+1:Nat):Int)),x6,x7,x8]/\n+1<=(bf (n+1)).length/\ar H H''/\H'' F=some (.dK (fdK (bf (n+1)) as))/\as.length=n+1/\H'' W=some (.lst ((bf (n+1)).map kV))/\H'' N=some (.dK (knK (bf (n+1))))/\∀(i:Nat) x a,(bf (n+1))[i]?=some x->as[i]?=some a->bj H'' a (steps x);refine⟨I4,λσ' H'' h=>?_,?_⟩
 ·obtain⟨as,x6,x7,x8,e1,e2,e3,e4,e5,e6,e7,e8⟩:=h;exact⟨B+1-(n+1),by have:=fewB n;omega,n+1,as,x6,x7,x8,e1,rfl,e2,e3,e4,e5,e6,e7,e8⟩
 obtain⟨x,hx⟩:∃x,(bf n)[n]?=some x:=⟨_,Qe cn⟩;have hbs:bf (n+1)=Bf.aS (bf n) (nx x):=Bf.dO hx;walk_at "w";refine i_ixL (v:=kV x) (SqL.of hW') (d4 (by rw[Qk,hx];rfl)) ?_;walk_at "w";refine sC rfl hC (SH _ _ hfl) (ae rfl ⟨SH _ _ hfl,hst x H' _ (reach n x (Qq hx)) SH λa H4 S4 st4=>?_⟩);walk_at "w";refine pD (ae rfl (ae rfl (ae rfl ?_)));refine⟨F,_,rfl,mS.k (k:=x) (S4 _ _ hF') (by rw[kd (by omega)];have:=fewB n;omega),?_⟩
 have pn:bK (fdK (bf n) as) x (V.ref a)=fdK (bf n) (as++[a]):=by
  rw[qS (by rw[las];exact hx)];refine eB _ (jh.mpr ?_);rw[lC,las];intro hm;obtain⟨i,hi,e⟩:=QV.mp hm;rw[QL]at hi;rw[List.getElem_take]at e;have e2:=(Qc.mp hx).2;have:=(List.getElem_inj (Bf.cC (nx:=nx) (s:=start) n)).mp (e.trans e2.symm);omega
 rw[pn]
 -- what the steps' list is not
 obtain⟨vs,ha,pr⟩:=id st4
 have neW:∀{Hx:Hp} {ws:List Key},Hx W=some (.lst (ws.map kV))->ws≠[]->∀{b:Addr} {sts:List (V × Key)},bj Hx b sts->b≠W:=λ{Hx ws} hw ne {b sts} ⟨us,hb,pu⟩ z=>by
  rw[z,hw]at hb;cases hb
  cases ws with
  | nil=>exact ne rfl
  | cons y ws =>
  cases pu with
  | cons h _ =>
  obtain⟨c,e,_⟩:=h;cases y <;> cases e
 have neD:∀{Hx:Hp} {D:Addr} {kvs:List (Key × V)},Hx D=some (.dK kvs)->∀{b:Addr} {sts:List (V × Key)},bj Hx b sts->b≠D:=λ{Hx D kvs} hd {b sts} ⟨us,hb,_⟩ z=>by
  rw[z,hd]at hb;cases hb
 have keepS:∀{Ha Hb:Hp} {ws:List Key} {k1 k2:List (Key × V)},Ha W=some (.lst (ws.map kV))->ws≠[]->Ha F=some (.dK k1)->Ha N=some (.dK k2)->sL F W N Ha Hb->∀{b:Addr} {sts:List (V × Key)},bj Ha b sts->bj Hb b sts:=λ{Ha Hb ws k1 k2} hw ne h1 h2 o {b sts} st=>by
  have n1:=neW hw ne st;have n2:=neD h1 st;have n3:=neD h2 st;obtain⟨us,hb,pu⟩:=st;refine⟨us,o b _ hb n2 n1 n3,bX (λv s ⟨c,e,q⟩=>⟨c,e,o c _ q (λz=>?_) (λz=>?_) λz=>?_⟩) pu⟩
  ·rw[z,h1]at q;cases q
  ·rw[z,hw]at q;cases q
  rw[z,h2]at q;cases q
 have bne:bf n≠[]:=λz=>by rw[z]at cn;simp at cn
 have hF4:=S4 _ _ hF';have hW4:=S4 _ _ hW';have hN4:=S4 _ _ hN';have off4:sL F W N H4 (upd H4 F (.dK (fdK (bf n) (as++[a])))):=λb o e h1 _ _=>by rw[ao h1];exact e
 have hF5:upd H4 F (.dK (fdK (bf n) (as++[a]))) F=some (.dK (fdK (bf n) (as++[a]))):=ai;have hW5:upd H4 F (.dK (fdK (bf n) (as++[a]))) W=some (.lst ((bf n).map kV)):=by rw[ao FW.symm];exact hW4
 have hN5:upd H4 F (.dK (fdK (bf n) (as++[a]))) N=some (.dK (knK (bf n))):=by rw[ao FN.symm];exact hN4
 have st5:=keepS hW4 bne hF4 hN4 off4 st4
 have sts5:∀(i:Nat) y b,(bf n)[i]?=some y->(as++[a])[i]?=some b->bj (upd H4 F (.dK (fdK (bf n) (as++[a])))) b (steps y):=λi y b e1 e2=>by
  by_cases ci:i<as.length
  ·rw[QY ci]at e2;exact keepS hW4 bne hF4 hN4 off4 ((hsts i y b e1 e2).same S4)
  rw[QS (by omega)]at e2
  have:i=n:=by
   have:=(Qc.mp e2).1;simp at this;omega
  subst this;rw[hx]at e1;cases e1;rw[las,Nat.sub_self]at e2;cases e2;exact st5
 have SH5:ar H (upd H4 F (.dK (fdK (bf n) (as++[a])))):=off (SH.trans S4) off4;generalize upd H4 F (.dK (fdK (bf n) (as++[a])))=H5 at *;obtain⟨vs5,ha5,pr5⟩:=id st5;refine s_seq (s_for (s_list (ae rfl ⟨a,rfl,⟨_,SqL.of ha5⟩,?_⟩)));let I5:IvF:=λi σ' H'=>∃x8,σ'=[some (kV start),some (.ref fl),some (.ref F),some (.ref W),some (.ref N),some (.int (n:Int)),some (kV x),some (.ref a),x8]/\sL F W N H5 H'/\H' F=some (.dK (fdK (bf n) (as++[a])))/\H' W=some (.lst ((Bf.aS (bf n) ((nx x).take i)).map kV))/\H' N=some (.dK (knK (Bf.aS (bf n) ((nx x).take i))));refine dJ (xs:=vs5) I5 ⟨_,rfl,λb o e _ _ _=>e,hF5,hW5,hN5⟩ (λi σ' H' _ pv=>?_) (λi v σ' H' hv pv=>?_) (λσ' H' pv=>?_)
 ·obtain⟨_,_,o,_⟩:=pv;exact SqL.of (o a _ ha5 (neD hF5 st5) (neW hW5 bne st5) (neD hN5 st5))
 ·obtain⟨x8,rfl,o,e1,e2,e3⟩:=pv;obtain⟨⟨nm,y⟩,hy,b,rfl,hb⟩:=paired_get pr5 hv;have hb':H' b=some (.tup [nm,kV y]):=o b _ hb (λz=>by rw[z,hF5]at hb;cases hb) (λz=>by rw[z,hW5]at hb;cases hb) (λz=>by rw[z,hN5]at hb;cases hb)
  have hny:(nx x)[i]?=some y:=by
   show ((steps x).map (·.2))[i]?=_;rw[Qk,hy];rfl
  have ext:Bf.aS (bf n) ((nx x).take (i+1))=Bf.aS (Bf.aS (bf n) ((nx x).take i)) [y]:=by
   rw[Q2,hny,Bf.jb];rfl
  have lenN:(Bf.aS (bf n) ((nx x).take i)).length<=B:=hfew _ (Bf.d5 _ _ (Bf.cC n)) λz hz=>by
   rcases(Bf.d6 _ _ _).mp hz with h|h
   ·exact reach n z h
   exact .step (reach n x (Qq hx)) (List.mem_of_mem_take h)
  walk_at "w";refine qL (aC (ae rfl (i_c (ba hb' rfl (ae rfl ?_)))));refine⟨N,_,rfl,cL.k (k:=y) e3,_,rfl,?_⟩;by_cases cy:y∈Bf.aS (bf n) ((nx x).take i)
  ·rw[Bf.mR cy]at ext;refine ifF ?_ ?_
   ·cases e:bq (knK (Bf.aS (bf n) ((nx x).take i))) y with
    | none=>exact absurd cy (nv.mp e)
    | some v=>rfl
   walk_at "w";refine⟨_,rfl,o,e1,?_,?_⟩
   ·rw[ext];exact e2
   rw[ext];exact e3
  rw[Bf.mQ cy]at ext;have nn:=nv.mpr cy;refine ifT (by rw[nn];rfl) ?_;walk_at "w";refine pD (i_c (ae rfl (aC (ae rfl (i_c (ba hb' rfl ?_))))));refine⟨N,_,rfl,mS.k (k:=y) e3 (by unfold knK;rw[Qd];omega),?_⟩;have e2':upd H' N (.dK (bK (knK (Bf.aS (bf n) ((nx x).take i))) y (.bl true))) W=some (.lst ((Bf.aS (bf n) ((nx x).take i)).map kV)):=by rw[ao WN];exact e2
  have hb'':upd H' N (.dK (bK (knK (Bf.aS (bf n) ((nx x).take i))) y (.bl true))) b=some (.tup [nm,kV y]):=by rw[ao (λz=>by rw[z,e3]at hb';cases hb')];exact hb'
  refine s_drop (i_bm (ae rfl ⟨i_tyL e2',?_⟩));refine af (aC (ae rfl (i_c (ba hb'' rfl (av (jv e2' (by rw[Qd];omega) ?_))))));refine⟨_,rfl,λc u e h1 h2 h3=>by rw[ao h2,ao h3];exact o c u e h1 h2 h3,by rw[ao FW,ao FN];exact e1,?_,?_⟩
  ·rw[ai,ext,Qm];rfl
  rw[ao WN.symm,ai,eB _ nn,ext];unfold knK;rw[Qm];rfl
 obtain⟨x8,rfl,o,e1,e2,e3⟩:=pv
 have lv:vs5.length=(nx x).length:=by
  show _=((steps x).map (·.2)).length;rw[Qd];exact aN pr5
 rw[lv,QF (Qi _),<-hbs]at e2 e3;refine⟨_,rfl,?_⟩;refine i_c ⟨_,_,rfl,rfl,?_⟩;have pre:bf n <+: bf (n+1):=Bf.lN n
 have l1:n+1<=(bf (n+1)).length:=by
  have:=pre.length_le;omega
 refine⟨as++[a],_,_,_,by rw[show ((n+1:Nat):Int)=(n:Int)+1 from rfl];rfl,l1,off SH5 o,?_,by rw[Qh,las];rfl,e2,e3,λi y b h1 h2=>?_⟩
 ·rw[qT (by rw[Qh,las];simp;omega) pre];exact e1
 have hi:i<n+1:=by
  have:=(Qc.mp h2).1;rw[Qh,las]at this;simpa using this
 exact keepS hW5 bne hF5 hN5 o (sts5 i y b (Bf.iu pre (by omega) h1) h2)
end
noncomputable def ek:Lm:=match bT (top 39) with
 | .Return (some (.Call _ [_,.Lambda p b sc pos] _ _)) _::_=>⟨("steps_found" ++ ".<locals>.") ++ "<lambda>", p,b,sc,pos⟩
 | _=>⟨"", { posonlyargs:=[],args:=[],vararg:=none,kwonlyargs:=[],kw_defaults:=[],kwarg:=none,defaults:=[] },.Constant .none 0 ⟨0,0,0,0⟩,am (top 0),⟨0,0,0,0⟩⟩
theorem u7 {ns:List (Str × NameKind)} (h:ns.all (λp=>!(p.2==NameKind.free) || p.1==y)=true) (e:ns.lookup z=some .free):z=y:=by
 have:=QU.mp h _ (c_ e);simpa using this
theorem qF:LmScope "here" "net" ek.scope:=⟨rfl,rfl,rfl,rfl,rfl,by decide,by decide +kernel,λz h=>u7 (by decide +kernel) h⟩
structure Tk (T:Addr) (H H':Hp):Prop where
 old:∀b o,H b=some o->b≠T->H' b=some o
 tab:eV T ek H'
theorem tS (t:eV T l H):∃ps,H T=some (.tbl ps):=by rcases t with e|⟨c,e,_⟩ <;> exact⟨_,e⟩
theorem ji {o:HO} (t:eV T l H) (h:H b=some o) (n:∀ps,o≠.tbl ps):b≠T:=λz=>by
 obtain⟨ps,e⟩:=tS t;rw[z,e]at h;exact n ps (QR h).symm
theorem dh (t:eV T l H) (S:ar H H'):eV T l H':=by
 rcases t with e|⟨c,e,q⟩
 ·exact .inl (S _ _ e)
 exact .inr ⟨c,S _ _ e,S _ _ q⟩
theorem Tk.lst (t:eV T ek H) (k:Tk T H H'):∀b xs,H b=some (.lst xs)->H' b=some (.lst xs):=λb xs e=>k.old b _ e (ji t e λ_ z=>nomatch z)
theorem Tk.tup (t:eV T ek H) (k:Tk T H H'):∀b xs,H b=some (.tup xs)->H' b=some (.tup xs):=λb xs e=>k.old b _ e (ji t e λ_ z=>nomatch z)
theorem Tk.of (t:eV T ek H) (S:ar H H'):Tk T H H':=⟨λb o e _=>S b o e,dh t S⟩
theorem Tk.trans (a:Tk T H H1) (b:Tk T H1 H2):Tk T H H2:=⟨λc o e n=>b.old c o (a.old c o e n) n,b.tab⟩
variable {vs gvs v2 v1:List V}
theorem NAt.mono (hl:∀b xs,H b=some (.lst xs)->H' b=some (.lst xs)) (ht:eN H H') (h:NAt H a li lg ins vs gs):NAt H' a li lg ins vs gs:=⟨ht _ _ h.ha,hl _ _ h.hi,hl _ _ h.hg,bU ht h.gates⟩
def c9 (ps:List (Str × Str)):List (V × Key):=ps.map λp=>(V.str p.1,Sum.inr p.2)
def stN (ins:List Str) (gs:List (Str × Rl)):Key->List (V × Key)
 | .inr z=>c9 (aJ ins gs z)
 | .inl _=>[]
variable {ps:List (Str × Str)}
theorem kr {l:Addr} (hl:H l=some (.lst vs)) (p:Paired (km H) vs ps):bj H l (c9 ps):=by
 refine⟨vs,hl,?_⟩;unfold c9;clear hl
 induction p with
 | nil=>exact .nil
 | cons h _ ih=>exact .cons h ih
variable {p:Str × Str}
theorem ku (h:p∈aJ ins gs z):∃i,ins.length<=i/\i<ins.length+gs.length/\p.2=cH z i/\(∃g,gs[i-ins.length]?=some g/\p.1=g.1):=by
 unfold aJ at h;obtain⟨q,hq,e⟩:=List.mem_filterMap.mp h;obtain⟨j,hj,ej⟩:=QV.mp hq;have e2:=Qe hj;rw[ej,List.getElem?_zipIdx]at e2;unfold bz at e
 split at e
 ·cases e
 cases e;rw[List.length_zipIdx]at hj;rw[Qe hj]at e2;cases e2;exact⟨ins.length+j,by omega,by omega,rfl,gs[j],by rw[Nat.add_sub_cancel_left];exact Qe hj,rfl⟩
theorem fe (ins:List Str) (gs:List (Str × Rl)):(ac ins gs).length=ins.length+gs.length:=by unfold ac;rw[Qh,Qd]
theorem fI (st:StOk (ac ins gs).length z) {x:Key} (r:Bf.Reach (nxK (stN ins gs)) (Sum.inr z) x):∃y:Str,x=Sum.inr y/\StOk (ac ins gs).length y:=by
 induction r with
 | start=>exact⟨z,rfl,st⟩
 | @step a b _ hb ih =>
 obtain⟨y,rfl,sy⟩:=ih;unfold nxK stN c9 at hb;rw[List.map_map]at hb;obtain⟨p,hp,rfl⟩:=Qu.mp hb;obtain⟨i,h1,h2,e,_⟩:=ku hp;refine⟨p.2,rfl,?_⟩;rw[e];exact rB sy (by rw[fe];exact h2)
def lT:Nat->List (List Nat)
 | 0=>[[]]
 | n+1=>(lT n).flatMap λl=>[48::l,49::l]
theorem lR:∀n,(lT n).length=2 ^ n
 | 0=>rfl
 | n+1=>by
  unfold lT;rw[List.length_flatMap];show ((lT n).map λ_=>2).sum=_;rw[List.map_const',List.sum_replicate_nat,lR n,Nat.pow_succ]
theorem lQ:∀n (l:List Nat),l.length=n->(∀c∈l,c=48\/c=49)->l∈lT n
 | 0,l,h,_=>by rw[List.eq_nil_of_length_eq_zero h];simp[lT]
 | n+1,[],h,_=>by simp at h
 | n+1,c::l,h,hc=>by
  unfold lT;rw[List.mem_flatMap];refine⟨l,lQ n l (by simpa using h) (λd hd=>hc d (Qv _ hd)),?_⟩;rcases hc c (by simp) with e|e <;> subst e <;> simp
theorem lq {n:Nat} {xs:List Key} (n11:n<=11) (nd:xs.Nodup) (h:∀x∈xs,∃y:Str,x=Sum.inr y/\StOk n y):xs.length<=2048:=by
 have:=Bf.pN xs ((lT n).map λl=>(Sum.inr ⟨l.toArray⟩:Key)) nd λx hx=>by
  obtain⟨y,rfl,st⟩:=h x hx;exact Qu.mpr ⟨y.cps.toList,lQ n _ (by rw[QA];exact st.len) st.signs,by cases y;simp⟩
 rw[Qd,lR]at this;have h2:2 ^ n<=2 ^ 11:=Nat.pow_le_pow_right (by decide) n11;have h3:(2:Nat) ^ 11=2048:=by decide
 omega
def f6 (TL:Addr):Sp:=λvs H Q _=>∃a li lg ins gvs gs z,vs=[.ref a,.str z]/\NAt H a li lg ins gvs gs/\NetS ins gs/\StOk (ac ins gs).length z/\eV TL ek H /\
 ∀(F:Addr) (as:List Addr) (n:Nat) (H':Hp),Tk TL H H'->H F=none->(Bf.bfs (nxK (stN ins gs)) (Sum.inr z) n).length=n->as.length=n->H' F=some (.dK (fdK (Bf.bfs (nxK (stN ins gs)) (Sum.inr z) n) as)) ->
  (∀(i:Nat) x b,(Bf.bfs (nxK (stN ins gs)) (Sum.inr z) n)[i]?=some x->as[i]?=some b->bj H' b (stN ins gs x))->Q (.ref F) H'
section
theorem re {f c cell:Addr} (f_steps_from:Fn P w K mg base "steps_from" ["net", "standing"] 12 dP):Calls P w K mg base 13 f (s0 f ek "net" cell c (jk dP [] E0 (bP (dE 1) (bP (dE 0) gz)))) :=
 mK (k:=12) qF (λpm ctv u=>rfl) λA outer s H hr=>tf f_steps_from hr (by rfl) (aa (pv 1) (aa (pv 0) ad))
theorem ig:FnScope ["net", "standing"] ["net", "standing"] (am (top 39)):=by walk_at "k"
theorem mo {TL cc:Addr} {f:Addr} {fd:FuncData} (Fu:FunC K "steps_found" "steps_found" (top 39) f fd cc) (T:Txt K mg TT) (CT:PySem.W.CodeHd base cc TL) (BM:fc base mg) (f_found_from:Fn P w K mg base "found_from" ["start", "steps_of"] 14 (jS P w K mg base 13)) (f_steps_from:Fn P w K mg base "steps_from" ["net", "standing"] 12 dP) :
  FnOk P w K mg base CX0 15 f fd ["net", "standing"] (f6 TL):=by
 have S:=ig;refine Fu.ok S (λvs H Q E h=>?_) (λA outer s H vs Q E hr h=>?_)
 ·obtain⟨a,li,lg,ins,gvs,gs,z,rfl,_⟩:=h;rfl
 obtain⟨a,li,lg,ins,gvs,gs,z,rfl,NA,ok,st,tb,k⟩:=h;have hu:=db hr;have HCL:PySem.closureFor ek.scope (PyProof.Rows.envOfC "steps_found" (am (top 39)) s.heap.objs.size f (.ref cc))=pure [(("net" : Str),(s.heap.objs.size+1:Addr))]:=by rfl
 refine'⟨?_,?bb,?_⟩
 case bb =>
  refine' aw ?_;rotate_left 1;walk_at "p";exact(ax (uk (i:=0) f_found_from (hr.mono (by first|decide|omega)) (by rfl) (aa (pv 1) (aa (uh (T:=TL) (cl:=[(("net" : Str),(s.heap.objs.size+1:Addr))]) rfl CT BM HCL) ad) ah) rfl rfl (Or.inr (Or.inl rfl)) rfl rfl))
 walk_at "e";generalize hcell:s.heap.objs.size+1=cell;walk_at "s";show bP (dE 1) (bP (uO TL ek [("net", cell)]) gz) _ _ _;refine af (ae rfl (af ⟨tb,λfl c H2 md=>av ⟨_,rfl,λo uy hd ru hc=>?_⟩⟩));have md:Made TL ek [("net", cell)] H fl c H2:=md;obtain rfl:uy=Value.ref a:=ru;have NA2:NAt H2 a li lg ins gvs gs:=NA.mono (λb xs e=>md.old b _ e (ji tb e λ_ z=>nomatch z)) (λb xs e=>md.old b _ e (ji tb e λ_ z=>nomatch z));have S2c:ar H2 (upd H2 cell (dA o)):=al hc;have hf2:upd H2 cell (dA o) fl=some (gi fl ek [("net", cell)] c):=S2c _ _ md.fn;have hcc2:upd H2 cell (dA o) c=some (gy c ek.qual):=S2c _ _ md.code;have hcl2:upd H2 cell (dA o) cell=some (dA o):=ai;have NA2c:=NA2.same S2c;have k12:∀b u,H b=some u->b≠TL->upd H2 cell (dA o) b=some u:=λb u e n=>S2c _ _ (md.old b u e n);have tb2:eV TL ek (upd H2 cell (dA o)):=.inr ⟨c,S2c _ _ md.tab,hcc2⟩;have nocell:∀{b u},H2 b=some u->b≠cell:=λe z=>by rw[z,hc]at e;cases e
 have H2R:∀{b u},H b=some u->b≠TL->b≠cell:=λ{b u} e n=>nocell (md.old b u e n);have Tcell:TL≠cell:=nocell md.tab;generalize upd H2 cell (dA o)=H2c at *;have w11:(ac ins gs).length<=11:=by rw[fe];have:=ok.i4;have:=ok.g7;omega
 refine⟨Sum.inr z,fl,ek,[("net", cell)],c,_,stN ins gs,2048,rfl,hf2,re (c:=c) (cell:=cell) f_steps_from,by decide,λx H4 Q1 rx S4 q4=>?_,λxs nd h=>lq w11 nd λx hx=>fI st (h x hx),λF as n H3 S3 hF ln3 las hF3 sts=>?_⟩
 ·obtain⟨y,rfl,sy⟩:=fI st rx;have NA4:=NA2c.same S4;have hcl4:=S4 _ _ hcl2;refine⟨o,Value.ref a,.ref a,S4 _ _ hf2,S4 _ _ hcc2,hcl4,hd,rfl,?_⟩;have dl:∀b xs,H4 b=some (.lst xs)->cP H4 cell b=some (.lst xs):=λb xs e=>by rw[bi (λz=>by rw[z,hcl4]at e;cases e)];exact e
  have dt:∀b xs,H4 b=some (.tup xs)->cP H4 cell b=some (.tup xs):=λb xs e=>by rw[bi (λz=>by rw[z,hcl4]at e;cases e)];exact e
  refine aH (af (ae rfl (af (ae rfl (av ?_)))));refine⟨a,li,lg,ins,gvs,gs,y,rfl,NA4.mono dl dt,ok.w,ok.nd,sy,λl vs' H5 S5 hl0 hl5 pr5 hn5=>?_⟩;have kc:eN H5 (upd H5 cell (dA o)):=λb xs e=>by rw[ao (λz=>by rw[z,hn5]at e;cases e)];exact e
  refine q4 l _ (λb u e=>?_) (kr (by rw[ao (λz=>by rw[z,hn5]at hl5;cases hl5)];exact hl5) (cY kc pr5));by_cases cb:b=cell
  ·subst cb;rw[ai,<-hcl4];exact e
  rw[ao cb];exact S5 _ _ (by rw[bi cb];exact e)
 show Q (V.ref F) (cP H3 cell);have hcl3:=S3 _ _ hcl2;have d3:∀{b u},H3 b=some u->b≠cell->cP H3 cell b=some u:=λe n=>by rw[bi n];exact e
 have Fcell:F≠cell:=λz=>by rw[z,hcl2]at hF;cases hF
 have tb3:eV TL ek (cP H3 cell):=by
  rcases tb2 with e|⟨c',e,q⟩
  ·exact .inl (d3 (S3 _ _ e) Tcell)
  have c'cell:c'≠cell:=λz=>by rw[z,hcl2]at q;cases q
  exact .inr ⟨c',d3 (S3 _ _ e) Tcell,d3 (S3 _ _ q) c'cell⟩
 have F0:H F=none:=by
  cases e:H F with
  | none=>rfl
  | some u =>
  by_cases c:F=TL
  ·obtain⟨ps,e2⟩:=tS tb2;rw[c,e2]at hF;cases hF
  rw[k12 _ _ e c]at hF;cases hF
 refine k F as n _ ⟨λb u e nT=>d3 (S3 _ _ (k12 b u e nT)) (H2R e nT),tb3⟩ F0 ln3 las (d3 hF3 Fcell) λi x b e1 e2=>?_;obtain⟨vs,h1,h2⟩:=sts i x b e1 e2;exact⟨vs,d3 h1 (λz=>by rw[z,hcl3]at h1;cases h1),bX (λv st ⟨b,e,q⟩=>⟨b,e,d3 q (λz=>by rw[z,hcl3]at q;cases q)⟩) h2⟩
end
theorem eK {p:Addr} (h:SqL K H p (ns.map V.str)) (q:Q (.bl (!decide (x∈ns))) H):rIn K true (.str x) (.ref p) H Q:=by
 refine⟨p,_,rfl,.inl h,rfl,bx _,?_⟩
 have e:inV (.str x) (ns.map V.str)=decide (x∈ns):=by
  by_cases c:x∈ns
  ·rw[bt.mpr c,Qy c]
  rw[Qo c];exact Bool.eq_false_iff.mpr λz=>c (bt.mp z)
 rw[QC rfl,e];exact q
theorem cL.same {k:Key} {o:Option V} (S:ar H H') (h:cL H a (kV k) o):cL H' a (kV k) o:=by
 rcases h with⟨kvs,k',r,e,q⟩|⟨kvs,k',b,r,e,_⟩
 ·refine .inl ⟨kvs,k',?_,e,q⟩;rcases r with r|⟨ob,r⟩
  ·exact .inl (S _ _ r)
  exact .inr ⟨ob,S _ _ r⟩
 cases k <;> cases e
section
variable (ins:List Str) (gs:List (Str × Rl))
def iU (y:Str):List Str:=(aJ ins gs y).map (·.1)
def fS (y:Str) (c:Str) (p:Str × Str):Option (Str × Str):=if p.1≠c/\c∉iU ins gs p.2 then some (c,p.1) else none
def eg (y:Str):List (Str × Str):=(iU ins gs y).flatMap λc=>(aJ ins gs y).filterMap (fS ins gs y c)
end
theorem fh (ins:List Str) (gs:List (Str × Rl)) (y:Str):(aJ ins gs y).length<=gs.length:=by
 unfold aJ;have:=List.length_filterMap_le (bz (sgn (ac ins gs) y) y) (gs.zipIdx ins.length);rwa [List.length_zipIdx]at this
def FAt (H:Hp) (F:Addr) (ins:List Str) (gs:List (Str × Rl)) (R:Str->Prop):Prop:=∀y,R y->∃b,cL H F (kV (Sum.inr y)) (some (.ref b))/\bj H b (c9 (aJ ins gs y))
theorem FAt.same {F:Addr} {R:Str->Prop} (S:ar H H') (h:FAt H F ins gs R):FAt H' F ins gs R:=λy r=>let ⟨b,g,s⟩:=h y r;⟨b,cL.same S g,s.same S⟩
def l5:Sp:=λvs H Q _=>∃(F li:Addr) (ins:List Str) (gs:List (Str × Rl)) (R:Str->Prop) (y:Str),vs=[.ref F,.str y,.ref li]/\FAt H F ins gs R/\R y/\H li=some (.lst (ins.map V.str))/\NetS ins gs/\∀l H',ar H H'->H l=none->H' l=some (.lst ((iU ins gs y).map V.str))->Q (.ref l) H'
def vY (H:Hp):Option (Str × Str)->V->Prop
 | none,v=>v=.non
 | some p,v=>∃t,v=.ref t/\H t=some (.tup [.str p.1,.str p.2])
def l7:Sp:=λvs H Q _=>∃(F li:Addr) (ins:List Str) (gs:List (Str × Rl)) (R:Str->Prop) (y:Str),vs=[.ref F,.str y,.ref li]/\FAt H F ins gs R/\R y/\(∀y,R y->∀p∈aJ ins gs y,R p.2)/\H li=some (.lst (ins.map V.str))/\NetS ins gs/\∀v H',ar H H'->vY H' (eg ins gs y).head? v->Q v H'
theorem fg (pv:Paired (λv (s:V × Key)=>∃b,v=.ref b/\H b=some (.tup [s.1,kV s.2])) vs (c9 ps)) {v:V} (e:vs[i]?=some v):∃p b,ps[i]?=some p/\v=.ref b/\H b=some (.tup [.str p.1,.str p.2]):=by
 obtain⟨st,e1,b,e2,h⟩:=paired_get pv e;unfold c9 at e1;rw[Qk]at e1
 cases e3:ps[i]? with
 | none=>rw[e3]at e1;cases e1
 | some p=>rw[e3]at e1;cases e1;exact⟨p,b,rfl,e2,h⟩
theorem ly (ok:NetS ins gs) (h:p∈aJ ins gs y):p.1∉ins:=by
 obtain⟨i,_,_,_,g,hg,e⟩:=ku h;rw[e];have nd:=ok.nd;unfold ac at nd;intro hm;exact(List.nodup_append.mp nd).2.2 _ hm _ (Qu.mpr ⟨g,Qq hg,rfl⟩) rfl
theorem gr {α β:Type} {g:α->Option β} {r:β}:∀{ys:List α} {j:Nat} {y:α},ys[j]?=some y->(∀j'<j,∀y',ys[j']?=some y'->g y'=none)->g y=some r->(ys.filterMap g).head?=some r
 | [],_,_,e,_,_=>by simp at e
 | y0::ys,0,y,e,_,hr=>by simp at e;subst e;rw[Q7,hr];rfl
 | y0::ys,j+1,y,e,hn,hr=>by
  rw[Q7,hn 0 (by omega) y0 rfl];exact gr (j:=j) (by simpa using e) (λj' h y' e'=>hn (j'+1) (by omega) y' (by simpa using e')) hr
theorem jw {α β:Type} {f:α->List β} {r:β}:∀{xs:List α} {i:Nat} {x:α},xs[i]?=some x->(∀i'<i,∀x',xs[i']?=some x'->f x'=[])->(f x).head?=some r->(xs.flatMap f).head?=some r
 | [],_,_,e,_,_=>by simp at e
 | x0::xs,0,x,e,_,hr=>by
  simp at e;subst e;rw[List.flatMap_cons]
  cases h:f x0 with
  | nil=>rw[h]at hr;cases hr
  | cons a l=>rw[h]at hr;exact hr
 | x0::xs,i+1,x,e,hn,hr=>by
  rw[List.flatMap_cons,hn 0 (by omega) x0 rfl,List.nil_append];exact jw (i:=i) (by simpa using e) (λi' h x' e'=>hn (i'+1) (by omega) x' (by simpa using e')) hr
section
theorem il:FnScope ["steps", "here", "inputs"] ["steps", "here", "inputs"] (am (top 42)):=by walk_at "k"
theorem r_ {f:Addr} {fd:FuncData} (Fu:Fun K "names_asked" "names_asked" (top 42) f fd) (T:Txt K mg TT):FnOk P w K mg base CX0 1 f fd ["steps", "here", "inputs"] l5:=by
 have S:=il;refine Fu.ok S (by walk_at "l") (λcdv A outer s H vs Q E hr h=>?_);obtain⟨F,li,ins,gs,R,y,rfl,fa,ry,hli,ok,k⟩:=h;have hu:=db hr;refine⟨_,(aw (ax (cM (tgs:=["step"]) (cap:=[("inputs", 2)]) rfl ⟨rfl,rfl,rfl,rfl,rfl,rfl⟩ (bh (cf hu (pv 0) (pv 1) (λ_ _=>rfl))) (λ_ _ _ _=>(aZ (i:=0) (show List.Nodup [("step" : Str),("inputs" : Str)] by decide +kernel) rfl (by walk_at "z"))) (λ_ _ _ _=>(iy (aG (eX (K:=K) rfl) (aA (fN (K:=K) rfl) (pv 0) ak (λ_ _=>rfl)) (pv 1) rfl))) (λ_ _ _ _=>(aA (fN (K:=K) rfl) (pv 0) ak (λ_ _=>rfl)))))),?_⟩;walk_at "e";obtain⟨b,dg,vs,hvs,pvs⟩:=fa y ry;have few:=fh ins gs y;have g7:=ok.g7;have lvs:vs.length=(aJ ins gs y).length:=by have:=aN pvs;unfold c9 at this;rwa [Qd]at this
 refine s_ret (i_comp (s_list (i_dget (ae rfl (ae rfl ⟨F,_,rfl,dg,b,rfl,⟨_,SqL.of hvs⟩,λL hL=>?_⟩)))));refine fm (xs:=vs) (λm H' ys=>ar H H'/\H' L=some (.lst ys)/\ys=(((aJ ins gs y).take m).map (·.1)).map V.str) ⟨al hL,ai,by simp⟩ (λm H' ys p=>⟨p.2.1,SqL.of (p.1 _ _ hvs)⟩) (λm v H' ys e p=>?_) (λH' ys p=>?_)
 ·obtain⟨Sm,hd,rfl⟩:=p;obtain⟨p,b2,hp,rfl,hb2⟩:=fg pvs e;have hm:m<vs.length:=(Qc.mp e).1;have nin:=ly ok (Qq hp);refine ap ⟨by repeat' (first|exact trivial|refine⟨rfl,?_⟩),?_⟩;have hb3:=Sm _ _ hb2;refine i_test (aC (aC (ae rfl (i_c (ba hb3 rfl (ae rfl ?_))))));refine eK (SqL.of (Sm _ _ hli)) ⟨_,rfl,?_⟩;refine ifT (by rw[Qo nin];rfl) ?_;refine aC (ae rfl (i_c (ba hb3 rfl ?_)));refine bS.mk hd hm (by rw[Qd,Qd,QL];omega) ⟨aX Sm hL,ai,?_⟩;rw[Q2,hp,Qm,Qm];rfl
 obtain⟨Sm,hd,rfl⟩:=p;rw[lvs,QF (Qi _)]at hd;exact k L H' Sm hL hd
theorem gA:FnScope ["steps", "here", "inputs", "calmed", "by", "behind"] ["steps", "here", "inputs"] (am (top 43)):=by walk_at "k"
theorem sj {f:Addr} {fd:FuncData} (Fu:Fun K "first_calmed" "first_calmed" (top 43) f fd) (T:Txt K mg TT) (f_names_asked:Fn P w K mg base "names_asked" ["steps", "here", "inputs"] 1 l5):FnOk P w K mg base CX0 2 f fd ["steps", "here", "inputs"] l7:=by
 have S:=gA;refine Fu.ok S (by walk_at "l") (λcdv A outer s H vs Q E hr h=>?_);obtain⟨F,li,ins,gs,R,y,rfl,fa,ry,cl,hli,ok,k⟩:=h;have hu:=db hr;refine'⟨?_,?bb,?_⟩
 case bb =>
  walk_at "b";walk_at "f";exact(bh (au f_names_asked hr (aa (pv 0) (aa (pv 1) (aa (pv 2) ad ah) ah) ah)));exact(bW 3 S.nd);walk_at "p";walk_at "f";exact(bh (cf hu (pv 0) (pv 1) (λ_ _=>rfl)));exact(gf rfl (aY (bW 4 S.nd) (aY (bW 5 S.nd) cE)));walk_at "p";exact(PW.pt (gc (aG gp (pv 4) (pv 3) (aQ _)) (fJ (aG bE (pv 3) (au f_names_asked hr (aa (pv 0) (aa (pv 5) (aa (pv 2) ad ah) ah) ah)) rfl))));exact(ax (pe_tup (aa (pv 3) (aa (pv 4) ad ah) ah)));exact(ax iz)
 walk_at "e";obtain⟨b,dg,vs,hvs,pvs⟩:=fa y ry;have few:=fh ins gs y;have g7:=ok.g7;have lvs:vs.length=(aJ ins gs y).length:=by have:=aN pvs;unfold c9 at this;rwa [Qd]at this
 walk_at "s";refine s_for (s_list (aH (af (ae rfl (af (ae rfl (af (ae rfl (av ?_)))))))));refine⟨F,li,ins,gs,R,y,rfl,fa,ry,hli,ok,λl H1 S1 hl0 hl1=>?_⟩;refine⟨l,rfl,⟨_,SqL.of hl1⟩,?_⟩;let I6:IvF:=λi σ' H'=>(∃x3 x4 x5,σ'=[some (.ref F),some (.str y),some (.ref li),x3,x4,x5])/\ar H1 H'/\∀i'<i,∀c,(iU ins gs y)[i']?=some c->(aJ ins gs y).filterMap (fS ins gs y c)=[]
 refine dJ (xs:=(iU ins gs y).map V.str) I6
  ⟨⟨_,_,_,rfl⟩,ar.refl _,λi' h=>absurd h (Nat.not_lt_zero _)⟩ (λi σ' H' _ pv=>SqL.of (pv.2.1 _ _ hl1)) (λi v σ' H' hv pv=>?_) (λσ' H' pv=>?_)
 ·obtain⟨⟨x3,x4,x5,rfl⟩,SS,none0⟩:=pv;rw[Qk]at hv
  cases ec:(iU ins gs y)[i]? with
  | none=>rw[ec]at hv;cases hv
  | some c =>
  rw[ec]at hv;cases hv;refine ap ?_;have S0:=S1.trans SS;refine s_for (s_list (i_dget (ae rfl (ae rfl ⟨F,_,rfl,cL.same S0 dg,b,rfl,⟨_,SqL.of (S0 _ _ hvs)⟩,?_⟩))));let I7:IvF:=λj σ' H''=>(∃x4 x5,σ'=[some (.ref F),some (.str y),some (.ref li),some (.str c),x4,x5])/\ar H' H''/\∀j'<j,∀p,(aJ ins gs y)[j']?=some p->fS ins gs y c p=none
  refine dJ (xs:=vs) I7
   ⟨⟨_,_,rfl⟩,ar.refl _,λj' h=>absurd h (Nat.not_lt_zero _)⟩ (λj σ' H'' _ pv=>SqL.of (pv.2.1 _ _ (S0 _ _ hvs))) (λj v σ' H'' hv pv=>?_) (λσ' H'' pv=>?_)
  ·obtain⟨⟨x4,x5,rfl⟩,S2,none1⟩:=pv;have S02:=S0.trans S2;obtain⟨p,b2,hp,rfl,hb2⟩:=fg pvs hv;have hb3:=S02 _ _ hb2;refine⟨b2,_,rfl,SqT.of hb3,rfl,_,_,rfl,ap ⟨_,_,rfl,ap ⟨rfl,?_⟩⟩⟩;walk_at "s";with_reducible refine i_and ?_
   refine i_test (aC (ae rfl (ae rfl (i_ne rfl ⟨_,rfl,?_⟩))))
   have nx:∀(H4:Hp),ar H'' H4->fS ins gs y c p=none->(∃x4 x5,([some (.ref F),some (.str y),some (.ref li),some (.str c),some (.str p.1),some (.str p.2)]:St)=[some (.ref F),some (.str y),some (.ref li),some (.str c),x4,x5])/\ar H' H4/\∀j'<j+1,∀p,(aJ ins gs y)[j']?=some p->fS ins gs y c p=none:=λH4 S4 hn=>⟨⟨_,_,rfl⟩,S2.trans S4,λj' h q e=>by
    by_cases cj:j'<j
    ·exact none1 j' cj q e
    have:j'=j:=by omega
    subst this;rw[hp]at e;cases e
    exact hn⟩
   by_cases c1:p.1=c
   ·refine ifF (by rw[Qy (by rw[c1])];rfl) (cz ?_);walk_at "w";exact nx H'' (ar.refl _) (by unfold fS;rw[Qz (λz=>z.1 c1)])
   refine ifT (by rw[Qo (λz=>c1 (V.str.inj z))];rfl) ?_;refine i_test (aC (ae rfl (aH (af (ae rfl (af (ae rfl (af (ae rfl (av ?_))))))))));refine⟨F,li,ins,gs,R,p.2,rfl,fa.same S02,cl y ry p (Qq hp),S02 _ _ hli,ok,λl2 H3 S3 hl20 hl23=>?_⟩;refine eK (SqL.of hl23) ⟨_,rfl,?_⟩;by_cases c2:c∈iU ins gs p.2
   ·refine ifF (by rw[Qy c2];rfl) ?_;walk_at "w";exact nx H3 S3 (by unfold fS;rw[Qz (λz=>z.2 c2)])
   refine ifT (by rw[Qo c2];rfl) ?_;walk_at "w";refine⟨by simp[sizeLine],λt ht=>?_⟩;refine k _ _ (S02.trans (S3.trans (al ht))) ?_;have e:(eg ins gs y).head?=some (c,p.1):=jw ec none0 (gr hp none1 (by unfold fS;rw[QC ⟨c1,c2⟩]));rw[e];exact⟨t,rfl,ai⟩
  obtain⟨⟨x4,x5,rfl⟩,S2,none1⟩:=pv;refine⟨⟨_,_,_,rfl⟩,SS.trans S2,λi' h c' e=>?_⟩;by_cases ci:i'<i
  ·exact none0 i' ci c' e
  have:i'=i:=by omega
  subst this;rw[ec]at e;cases e;rw[List.filterMap_eq_nil_iff];intro p hp;obtain⟨j,hj,ej⟩:=QV.mp hp;exact none1 j (by omega) p (by rw[Qe hj,ej])
 obtain⟨⟨x3,x4,x5,rfl⟩,SS,none0⟩:=pv;rw[Qd]at none0;walk_at "w";refine k _ _ (S1.trans SS) ?_
 have e:eg ins gs y=[]:=by
  unfold eg;rw[List.flatMap_eq_nil_iff];intro c hc;obtain⟨i,hi,ei⟩:=QV.mp hc;exact none0 i hi c (by rw[Qe hi,ei])
 rw[e];rfl
end
section
variable (st:Str->List (Str × Str))
def evs (xs:List Str):List (Str × (Str × Str)):=xs.flatMap λh=>(st h).map λp=>(p.2,(p.1,h))
def cQ (es:List (Str × (Str × Str))) (x:Str):Option (Str × Str):=(es.find? λe=>e.1==x).map (·.2)
inductive Path (xs:List Str) (s:Str):Str->List Str->Prop
 | nil:Path xs s s []
 | snoc {x h nm:Str} {ns:List Str}:x≠s->cQ (evs st xs) x=some (nm,h)->Path xs s h ns->Path xs s x (ns++[nm])
end
variable {st:Str->List (Str × Str)}
theorem Path.det (a:Path st xs s x ns):Path st xs s x ms->ns=ms:=by
 induction a generalizing ms with
 | nil=>intro b;cases b with
  | nil=>rfl
  | snoc h _ _=>exact absurd rfl h
 | snoc h c _ ih=>intro b;cases b with
  | nil=>exact absurd rfl h
  | snoc h' c' p' =>
   rw[c]at c';cases c';rw[ih p']
theorem Path.start (a:Path st xs s s ns):ns=[]:=a.det .nil
theorem dZ {es:List (Str × (Str × Str))} {e:Str × (Str × Str)}:cQ (es++[e]) x=match cQ es x with|some r=>some r|none=>if e.1=x then some e.2 else none:=by
 unfold cQ;rw[List.find?_append]
 cases h:es.find? (λe=>e.1==x) with
 | some r=>rfl
 | none =>
 rw[Option.none_or];by_cases c:e.1=x
 ·rw[QC c,List.find?_cons,show (e.1==x)=true from by simpa using c];rfl
 rw[Qz c,List.find?_cons,show (e.1==x)=false from by simpa using c];rfl
structure CAt (H:Hp) (C:Addr) (kvs:List (Key × V)) (es:List (Str × (Str × Str))):Prop where
 hC:H C=some (.dK kvs)
 some:∀x r,cQ es x=some r->∃t,bq kvs (Sum.inr x)=some (.ref t)/\H t=some (.tup [.str r.1,.str r.2])
 none:∀x,cQ es x=none->bq kvs (Sum.inr x)=none
 len:kvs.length<=es.length
def bn (xs:List Str):List Key:=xs.map Sum.inr
def pB:Sp:=λvs H Q _=>∃(F:Addr) (as:List Addr) (st:Str->List (Str × Str)) (xs:List Str) (s x:Str) (ns:List Str),vs=[.ref F,.str s,.str x]/\Rd H F (.dK (fdK (bn xs) as))/\as.length=xs.length/\xs.length<=2048/\xs.Nodup/\(∀h,(st h).length<=7) /\
 (∀(i:Nat) h b,xs[i]?=some h->as[i]?=some b->bj H b (c9 (st h)))/\Path st xs s x ns/\ns.length<=3000/\∀l H',ar H H'->H l=none->H' l=some (.lst (ns.map V.str))->Q (.ref l) H'
theorem qR {k:Key} {v:V} (h:(fdK (bn xs) as)[j]?=some (k,v)):∃x b,xs[j]?=some x/\as[j]?=some b/\k=Sum.inr x/\v=.ref b:=by
 unfold fdK bn at h;rw[Qk]at h
 cases q:((xs.map Sum.inr:List Key).zip as)[j]? with
 | none=>rw[q]at h;cases h
 | some p =>
 obtain⟨p1,p2⟩:=p;rw[q]at h;cases h;obtain⟨h1,h2⟩:=List.getElem?_zip_eq_some.mp q;rw[Qk]at h1
 cases e:xs[j]? with
 | none=>rw[e]at h1;cases h1
 | some x=>rw[e]at h1;cases h1;exact⟨x,p2,rfl,h2,rfl,rfl⟩
theorem gk (nd:(kvs.map (·.1)).Nodup):∀{i:Nat} {k:Key} {v:V},kvs[i]?=some (k,v)->bq kvs k=some v:=by
 induction kvs with
 | nil=>intro i k v e;simp at e
 | cons p r ih =>
 intro i k v e;rw[Qs,xg]at nd
 cases i with
 | zero =>
  simp at e;subst e;exact bG (p:=(k,v)) rfl
 | succ i =>
 simp at e;rw[bH (λz:p.1=k=>nd.1 (by rw[z];exact Qu.mpr ⟨(k,v),Qq e,rfl⟩))];exact ih nd.2 e
theorem iH (nd:xs.Nodup):((fdK (bn xs) as).map (·.1)).Nodup:=by
 rw[lC];refine(List.take_sublist _ _).nodup ?_;unfold bn;exact List.Pairwise.map _ (λa b h z=>h (Sum.inr.inj z)) nd
theorem uC {ta:TA} (q:ta σ H λvs H1=>∃l xs,vs=[.ref l]/\SqL K H1 l xs/\∀p,H1 p=none->Q (.ref p) (upd H1 p (.lst xs.reverse))):sQ K ta σ H Q:=q
section
theorem kG:FnScope ["found", "start", "other", "came", "here", "name", "behind", "names"] ["found", "start", "other"] (am (top 40)):=by walk_at "k"
theorem uq {f:Addr} {fd:FuncData} (Fu:Fun K "order_to" "order_to" (top 40) f fd) (T:Txt K mg TT):FnOk P w K mg base CX0 1 f fd ["found", "start", "other"] pB:=by
 have S:=kG;refine Fu.ok S (by walk_at "l") (λcdv A outer s H vs Q E hr h=>?_);obtain⟨F,as,st,xs,z,x,ns,rfl,rd,las,lxs,nd,few,sts,pth,lns,k⟩:=h;have hu:=db hr;refine'⟨?_,?bb,?_⟩
 case bb =>
  walk_at "b";exact aF 3 S.nd kQ;refine' pK ?_;rotate_left 1;walk_at "f";exact(kP (pv 0));exact(bW 4 S.nd);walk_at "p";walk_at "f";exact(bh (cf hu (pv 0) (pv 4) (λ_ _=>rfl)));exact(gf rfl (aY (bW 5 S.nd) (aY (bW 6 S.nd) cE)));walk_at "p";exact(bB (pU (pv 3) (pv 6) (pe_tup (aa (pv 5) (aa (pv 4) ad ah) ah)) ⟨rfl,rfl,rfl,rfl⟩));exact aF 7 S.nd (pe_lst ad);exact aF 4 S.nd (pv 2);refine' kO PassesOwn.never ?_ ?_;rotate_left 2;exact(aG gp (pv 4) (pv 1) (aQ _));walk_at "p";exact(bB (d_ QX xb xf bZ (pv 7) (aa (aA aB (cf hu (pv 3) (pv 4) (λ_ _=>rfl)) ak (λ_ _=>rfl)) ad)));exact aF 4 S.nd (aA aB (cf hu (pv 3) (pv 4) (λ_ _=>rfl)) ak (λ_ _=>rfl));exact(ax (rT rfl (by rfl) T.n_list (by rfl) T.n_reversed (aa (pv 7) ad ah)))
 walk_at "e";refine s_seq (aU ?_);intro C hC;refine ap ?_;generalize hE:upd H C _=H1;obtain⟨S1,q1⟩:=aI hC hE;clear hE;obtain⟨uF,hF⟩:=gI rd;have FC:F≠C:=ay hF hC
 have rd1:Rd H1 F (.dK (fdK (bn xs) as)):=by
  rcases rd with e|⟨o,e⟩
  ·exact .inl (S1 _ _ e)
  exact .inr ⟨o,S1 _ _ e⟩
 walk_at "s";refine sW (a:=F) (u:=.dK (fdK (bn xs) as)) rd1 trivial λob=>?_;have h2:∀b,b≠F->upd H1 F (.frz ob (.dK (fdK (bn xs) as))) b=H1 b:=λb n=>ao n;have hF2:upd H1 F (.frz ob (.dK (fdK (bn xs) as))) F=some (.frz ob (.dK (fdK (bn xs) as))):=ai;generalize upd H1 F (.frz ob (.dK (fdK (bn xs) as)))=H2 at *
 have nFl:∀{b xs'},H b=some (.lst xs')->b≠F:=λ{b xs'} e zz=>by
  rw[zz]at e;rcases rd with e'|⟨o,e'⟩ <;> rw[e]at e' <;> cases e'
 have nFt:∀{b xs'},H b=some (.tup xs')->b≠F:=λ{b xs'} e zz=>by
  rw[zz]at e;rcases rd with e'|⟨o,e'⟩ <;> rw[e]at e' <;> cases e'
 have sts2:∀(i:Nat) h b,xs[i]?=some h->as[i]?=some b->bj H2 b (c9 (st h)):=λi h b e1 e2=>by
  obtain⟨vs,v1,v2⟩:=sts i h b e1 e2;exact⟨vs,by rw[h2 _ (nFl v1)];exact S1 _ _ v1,bX (λv s ⟨b,e,q⟩=>⟨b,e,by rw[h2 _ (nFt q)];exact S1 _ _ q⟩) v2⟩
 have hC2:H2 C=some (.dK []):=by rw[h2 C FC.symm];exact q1
 have lfd:(fdK (bn xs) as).length=xs.length:=by rw[kd (by unfold bn;rw[Qd];omega)];exact las
 have levs:∀ys:List Str,(evs st ys).length<=7*ys.length:=λys=>by
  unfold evs
  induction ys with
  | nil=>simp
  | cons y ys ih =>
  rw[List.flatMap_cons,Qh,Qd,QM];have:=few y;omega
 refine s_for (nc (ae rfl ⟨F,ob,_,rfl,hF2,?_⟩));let I8:IvF:=λj σ' H'=>∃(kvs:List (Key × V)) (x4 x5 x6:Option V),σ'=[some (.ref F),some (.str z),some (.str x),some (.ref C),x4,x5,x6,none]/\(∀b u,H2 b=some u->b≠C->H' b=some u)/\CAt H' C kvs (evs st (xs.take j))
 refine lA I8
  ⟨_,_,_,_,rfl,λb u e _=>e,⟨hC2,λx r e=>by simp[evs,cQ]at e,λx _=>rfl,Qi _⟩⟩ (λj σ' H' _ pv=>?_) (λj ky vl σ' H' hj pv=>?_) (λσ' H' pv=>?_)
 ·obtain⟨_,_,_,_,_,o2,_⟩:=pv;exact o2 F _ hF2 FC
 ·obtain⟨kvs,x4,x5,x6,rfl,o2,ca⟩:=pv;obtain⟨h,b,hx,hb,rfl,rfl⟩:=qR hj;obtain⟨vs,hvs,pvs⟩:=sts2 j h b hx hb;have bC:b≠C:=λzz=>by rw[zz,hC2]at hvs;cases hvs
  have lvs:vs.length=(st h).length:=by have:=aN pvs;unfold c9 at this;rwa [Qd]at this
  have dg:cL H' F (kV (Sum.inr h)) (some (.ref b)):=.inl ⟨_,Sum.inr h,.inr ⟨ob,o2 F _ hF2 FC⟩,rfl,(gk (iH nd) hj).symm⟩;have hjx:j<xs.length:=(Qc.mp hx).1;refine ap ?_;refine s_for (s_list (i_dget (ae rfl (ae rfl ⟨F,_,rfl,dg,b,rfl,⟨_,SqL.of (o2 _ _ hvs bC)⟩,?_⟩))));let I9:IvF:=λi σ' H'=>∃(kvs:List (Key × V)) (x5 x6:Option V),σ'=[some (.ref F),some (.str z),some (.str x),some (.ref C),some (.str h),x5,x6,none]/\(∀b u,H2 b=some u->b≠C->H' b=some u)/\CAt H' C kvs (evs st (xs.take j)++((st h).take i).map λp=>(p.2,(p.1,h)))
  refine dJ (xs:=vs) I9
   ⟨kvs,_,_,rfl,o2,by simpa using ca⟩ (λi σ' H' _ pv=>?_) (λi v σ' H' hv pv=>?_) (λσ' H' pv=>?_)
  ·obtain⟨_,_,_,_,o3,_⟩:=pv;exact SqL.of (o3 _ _ hvs bC)
  ·obtain⟨kvs,x5,x6,rfl,o3,ca3⟩:=pv;obtain⟨p,b2,hp,rfl,hb2⟩:=fg pvs hv;have hb3:H' b2=some (.tup [.str p.1,.str p.2]):=o3 _ _ hb2 (λzz=>by rw[zz,hC2]at hb2;cases hb2);have hi:i<vs.length:=(Qc.mp hv).1;refine⟨b2,_,rfl,SqT.of hb3,rfl,_,_,rfl,ap ⟨_,_,rfl,ap ⟨rfl,?_⟩⟩⟩;refine s_drop (sx (ae rfl ⟨C,rfl,.inl ⟨_,.inl ca3.hC⟩,ae rfl ?_⟩));refine i_tup (af (ae rfl (af (ae rfl (av ⟨by simp[sizeLine],λt ht=>?_⟩)))))
   have hev:evs st (xs.take j)++((st h).take (i+1)).map (λp=>(p.2,(p.1,h)))=(evs st (xs.take j)++((st h).take i).map λp=>(p.2,(p.1,h)))++[(p.2,(p.1,h))]:=by
    rw[Q2,hp,Qm,List.append_assoc];rfl
   have lk:=ca3.len
   have lev:(evs st (xs.take j)++((st h).take i).map λp=>(p.2,(p.1,h))).length<=7*2048+7:=by
    rw[Qh,Qd,QL];have h1:=levs (xs.take j);have h2:=few h;rw[QL]at h1;omega
   have St:ar H' (upd H' t (.tup [.str p.1,.str h])):=al ht;have tC:t≠C:=kZ ca3.hC ht;refine⟨kvs,Sum.inr p.2,St _ _ ca3.hC,rfl,λv hv=>?_,λhn=>⟨by omega,?_⟩⟩
   ·refine⟨kvs,_,_,rfl,λb u e n=>St _ _ (o3 b u e n),?_⟩;rw[hev]
    have hs:∃r,cQ (evs st (xs.take j)++((st h).take i).map λp=>(p.2,(p.1,h))) p.2=some r:=by
     cases e:cQ (evs st (xs.take j)++((st h).take i).map λp=>(p.2,(p.1,h))) p.2 with
     | some r=>exact⟨r,rfl⟩
     | none=>rw[ca3.none _ e]at hv;cases hv
    obtain⟨r0,hr0⟩:=hs;refine⟨St _ _ ca3.hC,λy r e=>?_,λy e=>?_,by rw[Qh];exact QK lk (Nat.le_add_right _ _)⟩
    ·rw[dZ]at e
     cases c:cQ (evs st (xs.take j)++((st h).take i).map λp=>(p.2,(p.1,h))) y with
     | some r' =>
      rw[c]at e;cases e;obtain⟨t',a1,a2⟩:=ca3.some y _ c;exact⟨t',a1,St _ _ a2⟩
     | none =>
     rw[c]at e;by_cases cy:p.2=y
     ·rw[<-cy,hr0]at c;cases c
     simp[cy]at e
    rw[dZ]at e
    cases c:cQ (evs st (xs.take j)++((st h).take i).map λp=>(p.2,(p.1,h))) y with
    | some r'=>rw[c]at e;cases e
    | none=>exact ca3.none y c
   have upd3:∀b u,upd H' t (.tup [.str p.1,.str h]) b=some u->b≠C->upd (upd H' t (.tup [.str p.1,.str h])) C (.dK (bK kvs (Sum.inr p.2) (.ref t))) b=some u:=λb u e n=>by rw[ao n];exact e
   refine⟨bK kvs (Sum.inr p.2) (.ref t),_,_,rfl,λb u e n=>upd3 _ _ (St _ _ (o3 b u e n)) n,?_⟩;rw[hev];refine⟨ai,λy r e=>?_,λy e=>?_,?_⟩
   ·rw[dZ]at e
    cases c:cQ (evs st (xs.take j)++((st h).take i).map λp=>(p.2,(p.1,h))) y with
    | some r' =>
     rw[c]at e;cases e;obtain⟨t',a1,a2⟩:=ca3.some y _ c;refine⟨t',?_,upd3 _ _ (St _ _ a2) (λzz=>by rw[zz,ca3.hC]at a2;cases a2)⟩;rw[dC,Qz (λzz=>by rw[zz,hn]at a1;cases a1)];exact a1
    | none =>
    rw[c]at e;by_cases cy:p.2=y
    ·subst cy;simp at e;subst e;exact⟨t,by rw[dC,QC rfl],upd3 _ _ ai tC⟩
    simp[cy]at e
   ·rw[dZ]at e
    cases c:cQ (evs st (xs.take j)++((st h).take i).map λp=>(p.2,(p.1,h))) y with
    | some r'=>rw[c]at e;cases e
    | none =>
    rw[c]at e;by_cases cy:p.2=y
    ·simp[cy]at e
    rw[dC,Qz (λzz=>cy (Sum.inr.inj zz).symm)];exact ca3.none y c
   rw[eB _ hn,Qh,Qh];show kvs.length+1<=_+1;omega
  obtain⟨kvs,x5,x6,rfl,o3,ca3⟩:=pv;refine⟨kvs,_,_,_,rfl,o3,?_⟩;rw[lvs,QF (Qi _)]at ca3
  have e:evs st (xs.take (j+1))=evs st (xs.take j)++(st h).map λp=>(p.2,(p.1,h)):=by
   unfold evs;rw[Q2,hx,List.flatMap_append];simp
  rw[e];exact ca3
 obtain⟨kvs,x4,x5,x6,rfl,o2,ca⟩:=pv;refine⟨o2 F _ hF2 FC,?_⟩;rw[lfd,QF (Qi _)]at ca;have hC3:back H1 F H' C=some (.dK kvs):=by rw[bw FC.symm];exact ca.hC
 have ca':CAt (back H1 F H') C kvs (evs st xs):=⟨hC3,λy r e=>by
  obtain⟨t,a1,a2⟩:=ca.some y r e;refine⟨t,a1,?_⟩;rw[bw (λzz=>by rw[zz,o2 F _ hF2 FC]at a2;cases a2)]
  exact a2,ca.none,ca.len⟩
 have S3:ar H (back H1 F H'):=λb u e=>by
  have nC:b≠C:=ay e hC;by_cases cF:b=F
  ·subst cF;rw[eR];exact S1 _ _ e
  rw[bw cF];exact o2 b u (by rw[h2 b cF];exact S1 _ _ e) nC
 generalize back H1 F H'=H3 at *;walk_at "s";refine aU (i_lst (av ⟨by simp[sizeLine],λN hN=>ap ?_⟩));generalize hE:upd H3 N _=H4;obtain⟨S4,q4⟩:=aI hN hE;clear hE;walk_at "s";refine aU (ae rfl (ap ?_));walk_at "s";let I10:IvF:=λm σ' H'=>∃(y:Str) (ys ms:List Str) (x5 x6:Option V),σ'=[some (.ref F),some (.str z),some (.str x),some (.ref C),some (.str y),x5,x6,some (.ref N)]/\m=ms.length/\(∀b u,H3 b=some u->H' b=some u)/\H' N=some (.lst (ys.map V.str))/\Path st xs z y ms/\ns=ms++ys.reverse;refine⟨I10,⟨_,x,[],ns,_,_,rfl,rfl,S4,q4,pth,by simp⟩,λm σ' H' pv=>?_⟩;obtain⟨y,ys,ms,x5,x6,rfl,rfl,o4,hN4,py,ens⟩:=pv;have lens:ns.length=ms.length+ys.length:=by rw[ens,Qh,List.length_reverse]
 refine i_test (aC (ae rfl (ae rfl (i_ne rfl ⟨_,rfl,?_⟩))));by_cases cy:y=z
 ·subst cy;refine ifF (by rw[Qy rfl];rfl) ?_;have e0:=py.start;subst e0;rw[List.nil_append]at ens;refine s_ret (uC (af (ae rfl (av ⟨N,_,rfl,SqL.of hN4,λp hp=>?_⟩))));have Sf:ar H (upd H' p (.lst (ys.map V.str).reverse)):=λb u e=>al hp _ _ (o4 _ _ (S3 _ _ e))
  have p0:H p=none:=by
   cases e:H p with
   | none=>rfl
   | some u=>rw[o4 _ _ (S3 _ _ e)]at hp;cases hp
  exact k p _ Sf p0 (by rw[ai,ens,List.map_reverse])
 refine ifT (by rw[Qo (λzz=>cy (V.str.inj zz))];rfl) ⟨_,λ_ _ h=>h,?_⟩
 cases py with
 | nil=>exact absurd rfl cy
 | @snoc _ h nm ms' _ cm ph =>
 obtain⟨t,a1,a2⟩:=ca'.some y _ cm
 have dgC:∀{H5:Hp},H5 C=some (.dK kvs)->cL H5 C (.str y) (some (.ref t)):=λ{H5} e=>by
  have:=cL.k (k:=Sum.inr y) e;rw[a1]at this;exact this
 have hCt:=o4 _ _ hC3;have ht:=o4 _ _ a2;have tN:t≠N:=λzz=>by rw[zz,hN]at a2;cases a2
 have CN:C≠N:=λzz=>by rw[zz,hN]at hC3;cases hC3
 rw[Qh]at lens;walk_at "s";refine s_drop (i_bm (ae rfl ⟨i_tyL hN4,af (aC (i_dget (ae rfl (ae rfl ⟨C,_,rfl,dgC hCt,i_c (ba ht rfl (av (jv hN4 (by rw[Qd];simp at lens;omega) ?_)))⟩))))⟩));have hC5:upd H' N (.lst (ys.map V.str++[.str nm])) C=some (.dK kvs):=by rw[ao CN];exact hCt
 have ht5:upd H' N (.lst (ys.map V.str++[.str nm])) t=some (.tup [.str nm,.str h]):=by rw[ao tN];exact ht
 refine aU (aC (i_dget (ae rfl (ae rfl ⟨C,_,rfl,dgC hC5,i_c (ba ht5 rfl (ap ?_))⟩))));refine⟨ms'.length,by rw[Qh];simp,h,ys++[nm],ms',_,_,rfl,rfl,λb u e=>?_,by rw[ai,Qm];rfl,ph,?_⟩
 ·rw[ao (λzz=>by rw[zz,hN]at e;cases e)];exact o4 _ _ e
 rw[ens,List.reverse_append];simp
end
theorem lh:∀{ks:List Key},(∀k∈ks,∃y:Str,k=Sum.inr y)->∃xs:List Str,ks=bn xs
 | [],_=>⟨[],rfl⟩
 | k::ks,h=>by
  obtain⟨y,rfl⟩:=h k (by simp);obtain⟨xs,rfl⟩:=lh λk hk=>h k (Qv _ hk);exact⟨y::xs,rfl⟩
theorem cV {k:Key}:(bn xs)[i]?=some k↔∃x,xs[i]?=some x/\k=Sum.inr x:=by
 unfold bn;rw[Qk]
 cases xs[i]? with
 | none=>simp
 | some x=>simp[eq_comm]
structure Met (ins:List Str) (gs:List (Str × Rl)) (z:Str) (xs:List Str):Prop where
 bfs:bn xs=Bf.bfs (nxK (stN ins gs)) (Sum.inr z) xs.length
 st:∀x∈xs,StOk (ac ins gs).length x
theorem qx {k:Key}:k∈nxK (stN ins gs) (Sum.inr h)↔∃p∈aJ ins gs h,k=Sum.inr p.2:=by
 unfold nxK stN c9;rw[List.map_map]
 constructor
 ·intro q;obtain⟨p,hp,e⟩:=Qu.mp q;exact⟨p,hp,e.symm⟩
 rintro⟨p,hp,rfl⟩;exact Qu.mpr ⟨p,hp,rfl⟩
section
variable {ins:List Str} {gs:List (Str × Rl)} {z:Str} {xs:List Str}
theorem Met.len (m:Met ins gs z xs):(Bf.bfs (nxK (stN ins gs)) (Sum.inr z) xs.length).length=xs.length:=by rw[<-m.bfs];unfold bn;rw[Qd]
theorem Met.nd (m:Met ins gs z xs):xs.Nodup:=by
 have:=Bf.cC (nx:=nxK (stN ins gs)) (s:=(Sum.inr z:Key)) xs.length;rw[<-m.bfs]at this;unfold bn at this;exact(List.pairwise_map.mp this).imp λh e=>h (by rw[e])
theorem Met.zero (m:Met ins gs z xs):xs[0]?=some z:=by
 have:=Bf.rh (nx:=nxK (stN ins gs)) (s:=(Sum.inr z:Key)) xs.length;rw[<-m.bfs]at this;obtain⟨x,h1,h2⟩:=cV.mp this;cases h2;exact h1
theorem Met.pred (m:Met ins gs z xs) {j:Nat} {x:Str} (hj:0<j) (e:xs[j]?=some x):∃i h p,i<j/\xs[i]?=some h/\p∈aJ ins gs h/\p.2=x:=by
 obtain⟨i,k,h1,_,h3,h4⟩:=Bf.iT (nx:=nxK (stN ins gs)) (s:=(Sum.inr z:Key)) xs.length j (Sum.inr x) hj (by rw[<-m.bfs];exact cV.mpr ⟨x,e,rfl⟩);rw[<-m.bfs]at h3;obtain⟨h,e1,rfl⟩:=cV.mp h3;obtain⟨p,hp,e2⟩:=qx.mp h4;exact⟨i,h,p,h1,e1,hp,(Sum.inr.inj e2).symm⟩
theorem Met.closed (m:Met ins gs z xs) {h:Str} (hh:h∈xs) {p:Str × Str} (hp:p∈aJ ins gs h):p.2∈xs:=by
 obtain⟨i,hi,e⟩:=QV.mp hh;have:=Bf.mN (nx:=nxK (stN ins gs)) (s:=(Sum.inr z:Key)) (n:=xs.length) (i:=i) hi (by rw[<-m.bfs];exact cV.mpr ⟨h,by rw[Qe hi,e],rfl⟩) (Sum.inr p.2) (qx.mpr ⟨p,hp,rfl⟩);rw[<-m.bfs]at this;unfold bn at this;obtain⟨y,hy,e⟩:=Qu.mp this;cases e;exact hy
theorem iR {st:Str->List (Str × Str)}:∀{xs:List Str} {i:Nat} {h:Str} {p:Str × Str},xs[i]?=some h->p∈st h->∃i' h' nm,i'<=i/\xs[i']?=some h'/\cQ (evs st xs) p.2=some (nm,h')
 | [],_,_,_,e,_=>by simp at e
 | x0::xs,i,h,p,e,hp=>by
  have split:evs st (x0::xs)=((st x0).map λp=>(p.2,(p.1,x0)))++evs st xs:=rfl
  cases q:((st x0).map λp=>(p.2,(p.1,x0))).find? λe=>e.1==p.2 with
  | some r =>
   have hm:=List.mem_of_find?_eq_some q;obtain⟨p',_,rfl⟩:=Qu.mp hm;refine⟨0,x0,p'.1,QN _,rfl,?_⟩;unfold cQ;rw[split,List.find?_append,q];rfl
  | none =>
  cases i with
  | zero =>
   simp at e;subst e;have:=List.find?_eq_none.mp q (p.2,(p.1,x0)) (Qu.mpr ⟨p,hp,rfl⟩);simp at this
  | succ i =>
  obtain⟨i',h',nm,a,b,c⟩:=iR (xs:=xs) (i:=i) (by simpa using e) hp;refine⟨i'+1,h',nm,by omega,by simpa using b,?_⟩;unfold cQ at c ⊢;rw[split,List.find?_append,q,Option.none_or];exact c
theorem Met.path (m:Met ins gs z xs):∀(j:Nat) (x:Str),xs[j]?=some x->∃ns,Path (aJ ins gs) xs z x ns/\ns.length<=j:=by
 intro j
 induction j using Nat.strongRecOn with
 | _ j ih =>
 intro x e;by_cases hj:j=0
 ·subst hj;rw[m.zero]at e;cases e;exact⟨[],.nil,Qi _⟩
 obtain⟨i,h,p,h1,h2,h3,rfl⟩:=m.pred (by omega) e;obtain⟨i',h',nm,a,b,c⟩:=iR h2 h3;obtain⟨ns,pn,ln⟩:=ih i' (by omega) h' b;refine⟨ns++[nm],.snoc (λq=>?_) c pn,by rw[Qh];simp;omega⟩;rw[q]at e;have e0:=m.zero;have hl:=(Qc.mp e).1;have:=(List.getElem?_inj (i:=0) (j:=j) (by omega) m.nd).mp (by rw[e0,e]);omega
end
def tL (ins:List Str) (gs:List (Str × Rl)) (z:Str) (r:Option (List Str × Str × Str)):Prop:=∃xs,Met ins gs z xs/\match r with
 | none=>∀h∈xs,(eg ins gs h).head?=none
 | some (ns,c,b)=>∃(j:Nat) (h:Str),xs[j]?=some h/\(∀j'<j,∀h',xs[j']?=some h'->(eg ins gs h').head?=none)/\(eg ins gs h).head?=some (c,b)/\Path (aJ ins gs) xs z h ns
def vW (H H':Hp):Option (List Str × Str × Str)->V->Prop
 | none,v=>v=.non
 | some (ns,c,b),v=>∃t l,v=.ref t/\H t=none/\H l=none/\H' t=some (.tup [.ref l,.str c,.str b])/\H' l=some (.lst (ns.map V.str))
def jM (TL:Addr):Sp:=λvs H Q _=>∃a li lg ins gvs gs z,vs=[.ref a,.str z]/\NAt H a li lg ins gvs gs/\NetS ins gs/\StOk (ac ins gs).length z/\eV TL ek H /\
 ∀r v H',Tk TL H H'->tL ins gs z r->vW H H' r v->Q v H'
section
theorem i9:FnScope ["net", "standing", "found", "here", "pair"] ["net", "standing"] (am (top 44)):=by walk_at "k"
theorem r8 {TL:Addr} {f:Addr} {fd:FuncData} (Fu:Fun K "first_race" "first_race" (top 44) f fd) (T:Txt K mg TT) (f_check_standing:Fn P w K mg base "check_standing" ["net", "thing"] 3 (cZ .non)) (f_steps_found:Fn P w K mg base "steps_found" ["net", "standing"] 15 (f6 TL)) (f_first_calmed:Fn P w K mg base "first_calmed" ["steps", "here", "inputs"] 2 l7) (f_order_to:Fn P w K mg base "order_to" ["found", "start", "other"] 1 pB) :
  FnOk P w K mg base CX0 16 f fd ["net", "standing"] (jM TL):=by
 have S:=i9;refine Fu.ok S (by walk_at "l") (λcdv A outer s H vs Q E hr h=>?_);obtain⟨a,li,lg,ins,gvs,gs,z,rfl,NA,ok,st,tb,k⟩:=h;have hu:=db hr;refine'⟨?_,?bb,?_⟩
 case bb =>
  walk_at "b";exact(bB (au f_check_standing hr (aa (pv 0) (aa (pv 1) ad ah) ah)));exact aF 2 S.nd (au f_steps_found hr (aa (pv 0) (aa (pv 1) ad ah) ah));refine' pK ?_;rotate_left 1;walk_at "f";exact(kP (pv 2));exact(bW 3 S.nd);walk_at "p";exact aF 4 S.nd (au f_first_calmed hr (aa (pv 2) (aa (pv 3) (aa (aA aB (pv 0) ak (λ_ _=>rfl)) ad) ah) ah));exact(aG rX (pv 4) iz rfl);exact(ax (pe_tup (aa (au f_order_to hr (aa (pv 2) (aa (pv 1) (aa (pv 3) ad ah) ah) ah)) (aa (aA aB (pv 4) ak (λ_ _=>rfl)) (aa (aA aB (pv 4) ak (λ_ _=>rfl)) ad)) se_call)));exact(ax iz)
 walk_at "e";walk_at "w";refine⟨a,li,lg,ins,gvs,gs,z,rfl,NA,ok.w,st,λH0 S0=>?_⟩;have NA0:=NA.same S0;have tb0:=dh tb S0;walk_at "w";refine⟨a,li,lg,ins,gvs,gs,z,rfl,NA0,ok,st,tb0,λF as n H1 t1 hF0 ln las hF1 sts=>?_⟩;have w11:(ac ins gs).length<=11:=by rw[fe];have:=ok.i4;have:=ok.g7;omega
 obtain⟨xs,exs⟩:=lh (ks:=Bf.bfs (nxK (stN ins gs)) (Sum.inr z) n) λk hk=>by
  obtain⟨y,e,_⟩:=fI st (Bf.cW n k hk);exact⟨y,e⟩
 have lxs:xs.length=n:=by rw[<-ln,exs];unfold bn;rw[Qd]
 have met:Met ins gs z xs:=⟨by rw[lxs];exact exs.symm,λx hx=>by
  obtain⟨y,e,sy⟩:=fI st (Bf.cW n (Sum.inr x) (by rw[exs];exact Qu.mpr ⟨x,hx,rfl⟩));cases e
  exact sy⟩
 have few:xs.length<=2048:=by
  have:=lq w11 (xs:=bn xs) (by rw[<-exs];exact Bf.cC n) λx hx=>by
   obtain⟨y,hy,rfl⟩:=Qu.mp hx;exact⟨y,rfl,met.st y hy⟩
  unfold bn at this;rwa [Qd]at this
 rw[exs]at hF1 sts;have sts:∀(i:Nat) h b,xs[i]?=some h->as[i]?=some b->bj H1 b (c9 (aJ ins gs h)):=λi h b e1 e2=>sts i (Sum.inr h) b (cV.mpr ⟨h,e1,rfl⟩) e2;have NA1:NAt H1 a li lg ins gvs gs:=NA0.mono (t1.lst tb0) (t1.tup tb0);walk_at "s";walk_at "s";refine sW (a:=F) (u:=.dK (fdK (bn xs) as)) (.inl hF1) trivial λob=>?_;have h2:∀b,b≠F->upd H1 F (.frz ob (.dK (fdK (bn xs) as))) b=H1 b:=λb n=>ao n;have hF2:upd H1 F (.frz ob (.dK (fdK (bn xs) as))) F=some (.frz ob (.dK (fdK (bn xs) as))):=ai;generalize upd H1 F (.frz ob (.dK (fdK (bn xs) as)))=H2 at *;have l2:∀b ys,H1 b=some (.lst ys)->H2 b=some (.lst ys):=λb ys e=>by rw[h2 b (λzz=>by rw[zz,hF1]at e;cases e)];exact e
 have t2:∀b ys,H1 b=some (.tup ys)->H2 b=some (.tup ys):=λb ys e=>by rw[h2 b (λzz=>by rw[zz,hF1]at e;cases e)];exact e
 have NA2:=NA1.mono l2 t2
 have sts2:∀(i:Nat) h b,xs[i]?=some h->as[i]?=some b->bj H2 b (c9 (aJ ins gs h)):=λi h b e1 e2=>by
  obtain⟨vs,v1,v2⟩:=sts i h b e1 e2;exact⟨vs,l2 _ _ v1,bX (λv s ⟨b,e,q⟩=>⟨b,e,t2 _ _ q⟩) v2⟩
 have fa:FAt H2 F ins gs (λy=>y∈xs):=λy hy=>by
  obtain⟨i,hi,e⟩:=QV.mp hy;have e1:xs[i]?=some y:=by rw[Qe hi,e]
  have hia:i<as.length:=by omega
  have hk:(fdK (bn xs) as)[i]?=some (Sum.inr y,.ref as[i]):=by
   have hz:((bn xs).zip as)[i]?=some (Sum.inr y,as[i]):=List.getElem?_zip_eq_some.mpr ⟨cV.mpr ⟨y,e1,rfl⟩,Qe hia⟩;unfold fdK;rw[Qk,hz];rfl
  exact⟨as[i],.inl ⟨_,Sum.inr y,.inr ⟨ob,hF2⟩,rfl,(gk (iH met.nd) hk).symm⟩,sts2 i y _ e1 (Qe hia)⟩
 have F0:H F=none:=by
  cases e:H F with
  | none=>rfl
  | some u=>rw[S0 _ _ e]at hF0;cases hF0
 have t01:Tk TL H H1:=(Tk.of tb S0).trans t1
 have fin:∀H',ar H2 H'->Tk TL H (back H1 F H'):=λH' S'=>by
  have bk:∀{b u},H1 b=some u->back H1 F H' b=some u:=λ{b u} e=>by
   by_cases c:b=F
   ·subst c;rw[eR];exact e
   rw[bw c];exact S' b u (by rw[h2 b c];exact e)
  refine⟨λb u e n=>bk (t01.old b u e n),?_⟩;rcases t01.tab with e|⟨c,e,q⟩
  ·exact .inl (bk e)
  exact .inr ⟨c,bk e,bk q⟩
 have free2:∀{b:Addr},H2 b=none->H b=none:=λ{b} e=>by
  cases eb:H b with
  | none=>rfl
  | some u =>
  exfalso;by_cases c:b=TL
  ·obtain⟨ps,e2⟩:=tS t01.tab;have:b≠F:=λzz=>by rw[zz,F0]at eb;cases eb
   rw[h2 b this,c,e2]at e;cases e
  have:b≠F:=λzz=>by rw[zz,F0]at eb;cases eb
  rw[h2 b this,t01.old _ _ eb c]at e;cases e
 have lfd:(fdK (bn xs) as).length=xs.length:=by rw[kd (by unfold bn;rw[Qd];omega)];omega
 refine s_for (nc (ae rfl ⟨F,ob,_,rfl,hF2,?_⟩));let I11:IvF:=λj σ' H'=>(∃x3 x4:Option V,σ'=[some (.ref a),some (.str z),some (.ref F),x3,x4])/\ar H2 H'/\∀j'<j,∀h,xs[j']?=some h->(eg ins gs h).head?=none;refine lA I11 ⟨⟨_,_,rfl⟩,ar.refl _,λj' h=>absurd h (Nat.not_lt_zero _)⟩ (λj σ' H' _ pv=>pv.2.1 _ _ hF2) (λj ky vl σ' H' hj pv=>?_) (λσ' H' pv=>?_)
 ·obtain⟨⟨x3,x4,rfl⟩,S',no⟩:=pv;obtain⟨h,b,hx,hb,rfl,rfl⟩:=qR hj;have NA':=NA2.same S';have ha':=NA'.ha;have hm:=Qq hx;refine ap ?_;walk_at "w";refine⟨F,li,ins,gs,_,h,rfl,fa.same S',hm,λy hy p hp=>met.closed hy hp,NA'.hi,ok,λv H3 S3 cv=>?_⟩;have S23:=S'.trans S3;walk_at "s"
  cases hc:(eg ins gs h).head? with
  | none =>
   rw[hc]at cv;have cv:v=.non:=cv;subst cv;walk_at "w";refine⟨rfl,_,rfl,?_⟩;refine ifF rfl ?_;walk_at "w";refine⟨⟨_,_,rfl⟩,S23,λj' hj' h' e=>?_⟩;by_cases c:j'<j
   ·exact no j' c h' e
   have:j'=j:=by omega
   subst this;rw[hx]at e;cases e;exact hc
  | some p =>
  rw[hc]at cv;obtain⟨t,rfl,ht⟩:=cv;obtain⟨ns,pth,lns⟩:=met.path j h hx;have hjx:=(Qc.mp hx).1;walk_at "w";refine⟨rfl,_,rfl,?_⟩;refine ifT (by rw[Qo (λz=>nomatch z)];rfl) ?_;refine s_ret (i_tup (af (aH (af (ae rfl (af (ae rfl (af (ae rfl (av ?_)))))))))) ;refine⟨F,as,aJ ins gs,xs,z,h,ns,rfl,.inr ⟨ob,S23 _ _ hF2⟩,by omega,few,met.nd,λh=>QK (fh ins gs h) ok.g7,λi h' b' e1 e2=>(sts2 i h' b' e1 e2).same S23,pth,by omega,λl H4 S4 hl0 hl4=>?_⟩;have ht4:=S4 _ _ ht;refine af (aC (ae rfl (i_c (ba ht4 rfl (af (aC (ae rfl (i_c (ba ht4 rfl (av ⟨by simp[sizeLine],λt' ht'=>?_⟩))))))))));have S24:=S23.trans S4;generalize hE:upd H4 t' _=H5;obtain⟨S5,q5⟩:=aI ht' hE;clear hE;have S25:=S24.trans S5
  have nl:H2 l=none:=by
   cases e:H2 l with
   | none=>rfl
   | some u=>rw[S23 _ _ e]at hl0;cases hl0
  have nt:H2 t'=none:=by
   cases e:H2 t' with
   | none=>rfl
   | some u=>rw[S24 _ _ e]at ht';cases ht'
  have lF:l≠F:=λzz=>by rw[zz,hF2]at nl;cases nl
  have tF:t'≠F:=λzz=>by rw[zz,hF2]at nt;cases nt
  refine⟨S25 _ _ hF2,k (some (ns,p.1,p.2)) _ _ (fin _ S25) ⟨xs,met,j,h,hx,no,hc,pth⟩ ⟨t',l,rfl,free2 nt,free2 nl,by rw[bw tF];exact q5,by rw[bw lF];exact S5 _ _ hl4⟩⟩
 obtain⟨⟨x3,x4,rfl⟩,S',no⟩:=pv;rw[lfd]at no;refine⟨S' _ _ hF2,?_⟩;walk_at "w";refine k none _ _ (fin _ S') ⟨xs,met,λh hh=>?_⟩ rfl;obtain⟨i,hi,e⟩:=QV.mp hh;exact no i hi h (by rw[Qe hi,e])
end
def hU (K:PySem.W.Frag):Sp:=λvs H Q _=>∃(s:Addr) (ns:List Int) (k:Nat),vs=[.ref s,.int (k:Int)]/\SqL K H s (ns.map V.int)/\k<=100/\∀(c:Int),Q (.int c) H
theorem nM {ws:List Str} {r:Int} (h0:0<=r) (h1:r<ws.length):∃n∈ws,atI (ws.map V.str) r=some (.str n):=by
 have hr:r.toNat<ws.length:=by omega
 refine⟨ws[r.toNat],List.getElem_mem hr,?_⟩;have e:r=((r.toNat:Nat):Int):=by omega
 have q:=d4 (xs:=ws.map V.str) (j:=r.toNat) (v:=.str ws[r.toNat]) (by rw[Qk,Qe hr];rfl);rw[<-e]at q;exact q
def jQ:Sp:=λvs H Q _=>∃(c:Int) (k:Nat),vs=[.int c,.int (k:Int)]/\k<=100/\∀c':Int,Q (.int c') H
def lZ:Sp:=λvs H Q _=>∃n:Str,vs=[.str n]/\∀t H',ar H H'->H' t=some (.tup [.str "wire", .str n])->Q (.ref t) H'
def gE (d:Nat):Sp:=λvs H Q _=>∃(c:Int) (l:Addr) (ns:List Str) (m:Nat),vs=[.int c,.ref l,.int (m:Int)]/\m+1<=d/\H l=some (.lst (ns.map V.str))/\ns≠[]/\ns.length<=100/\∀t u (r:Rl) (e:Int) H',ar H H'->H' t=some (.tup [u,.int e])->RAt H' u r->r.dep<=m+1->r.ok ns->Q (.ref t) H'
section
theorem kL:FnScope ["script", "k"] ["script", "k"] (am (top 46)):=by walk_at "k"
variable {fd:FuncData}
theorem si {f:Addr} (Fu:Fun K "_law_cell" "_law_cell" (top 46) f fd) (T:Txt K mg TT):FnOk P w K mg base CX0 1 f fd ["script", "k"] (hU K):=by
 have S:=kL;refine Fu.ok S (by walk_at "l") (λcdv A outer s H vs Q E hr h=>?_);obtain⟨s,ns,k,rfl,hS,k100,q⟩:=h
 refine⟨_,(aq (bI (aG kT (pv 1) (aD aK (by rfl) T.n_len QH (aa (pv 0) ad ah)) (aQ _)) (aw (ax (aA cR (pv 0) (pv 1) (λ_ _=>rfl)))) aV)
  (aw (ax (aE bN (aE bN (aE dv (aE dv ak (pv 1)) (pv 1)) (aE dv ak (pv 1))) ak)))),?_⟩
 walk_at "e";walk_at "w";refine⟨_,_,rfl,Or.inl hS,?_⟩;walk_at "w";rw[Qd];by_cases c:k<ns.length
 ·refine ifT (Qy (by omega)) ?_;walk_at "w";refine i_ixL (v:=.int ns[k]) hS (d4 (by rw[Qk,Qe c];rfl)) ?_;exact q _
 refine ifF (Qo (by omega)) ?_;walk_at "w"
 first
 | exact q _
 | (refine i_rI (.inl ⟨by omega,by omega⟩) ?_;walk_at "w";exact q _)
theorem jY:FnScope ["cell", "k", "number"] ["cell", "k"] (am (top 47)):=by walk_at "k"
theorem qk {f:Addr} (Fu:Fun K "_law_mixed" "_law_mixed" (top 47) f fd) (T:Txt K mg TT):FnOk P w K mg base CX0 1 f fd ["cell", "k"] jQ:=by
 have S:=jY;refine Fu.ok S (by walk_at "l") (λcdv A outer s H vs Q E hr h=>?_);obtain⟨c,k,rfl,k100,q⟩:=h
 refine⟨_,(aq (aF 2 S.nd (aE cu (aE bN (aE bN (aE bN (aE dv (pv 0) ak) (aE dv (aE dv ak (pv 1)) (pv 1))) (aE dv ak (pv 1))) ak) ak))
  (aq (aF 2 S.nd (aE cu (aE dv (pv 2) (pv 2)) ak))
  (aw (ax (aE bN (aE dv (pv 2) ak) (aE cu (pv 0) ak)))))),?_⟩
 walk_at "e";walk_at "w";exact q _
theorem kH:FnScope ["name"] ["name"] (am (top 48)):=by walk_at "k"
theorem rZ {f:Addr} (Fu:Fun K "_law_wire" "_law_wire" (top 48) f fd) (T:Txt K mg TT):FnOk P w K mg base CX0 1 f fd ["name"] lZ:=by
 have S:=kH;refine Fu.ok S (by walk_at "l") (λcdv A outer s H vs Q E hr h=>?_);obtain⟨n,rfl,q⟩:=h;refine⟨_,(aw (ax (pe_tup (aa aM (aa (pv 0) ad ah) be)))),?_⟩;walk_at "e";walk_at "w";exact⟨by simp[sizeLine],λt ht=>q t _ (al ht) ai⟩
theorem kI:FnScope ["cell", "names", "depth", "kind", "rest", "one", "other"] ["cell", "names", "depth"] (am (top 49)):=by walk_at "k"
theorem kU {f:Addr} {fd:FuncData} (Fu:Fun K "_law_rule" "_law_rule" (top 49) f fd) (T:Txt K mg TT) (f_law_wire:Fn P w K mg base "_law_wire" ["name"] 1 lZ) (hm:mg "_law_rule" = some (.ref f)) (hk:PySem.W.keepIn K (.ref f)=true) (hb:fb K fd ["cell", "names", "depth"] []):∀d,FnOk P w K mg base CX0 (d+1) f fd ["cell", "names", "depth"] (gE d)
 | 0=>dX λvs H Q E ⟨c,l,ns,m,_,h,_⟩=>by omega
 | d+1=>by
  have S:=kI;have f_law_rule:Fn P w K mg base "_law_rule" ["cell", "names", "depth"] (d+1) (gE d):=⟨f,fd,kU Fu T f_law_wire hm hk hb d,hm,hk,hb⟩;refine Fu.ok S (λvs H Q E h=>?_) (λcdv A outer s H vs Q E hr h=>?_)
  ·obtain⟨c,l,ns,m,rfl,_⟩:=h;rfl
  obtain⟨c,l,ns,m,rfl,hd,hl,ne,few,q⟩:=h;have hu:=db hr;refine'⟨?_,?bb,?_⟩
  case bb =>
   walk_at "b";exact aF 3 S.nd (aE cu (pv 0) ak);exact aF 4 S.nd (aE dn (pv 0) ak);exact(PW.pt (d9 (aG cO (pv 2) ak (aQ _)) (du (aG kT (pv 3) ak (aQ _)))));exact(ax (pe_tup (aa (au f_law_wire hr (aa (aA cR (pv 1) (aE cu (pv 4) (aD aK (by rfl) T.n_len QH (aa (pv 1) ad ah))) (λ_ _=>rfl)) ad)) (aa (aE dn (pv 4) (aD aK (by rfl) T.n_len QH (aa (pv 1) ad ah))) ad) se_call)));exact(mi (au f_law_rule hr (aa (pv 4) (aa (pv 1) (aa (aE j5 (pv 2) ak) ad) ah) ah)) (gf rfl (aY (bW 5 S.nd) (aY (bW 4 S.nd) cE))));exact(aG kT (pv 3) ak (aQ _));refine' ax ?e
   case e =>
    walk_at "q";exact(pv 5);exact(pv 4)
   exact(mi (au f_law_rule hr (aa (pv 4) (aa (pv 1) (aa (aE j5 (pv 2) ak) ad) ah) ah)) (gf rfl (aY (bW 6 S.nd) (aY (bW 4 S.nd) cE))));refine' ax ?e
   case e =>
    walk_at "q";exact(aA cR (pe_lst (aa aM (aa aM ad be) be)) (aE j5 (pv 3) ak) (λ_ _=>rfl));exact(pv 5);exact(pv 6);exact(pv 4)
  walk_at "e";have k0:0<=c % 5:=Int.emod_nonneg _ (by decide);have k5:c % 5<5:=Int.emod_lt_of_pos _ (by decide);have lp:0<(ns.length:Int):=by have:=List.length_pos_iff.mpr ne;omega
  walk_at "w";generalize hkk:c % 5=kk at *;generalize c / 5=rest at *;have m0:=Int.emod_nonneg rest (show (ns.length:Int)≠0 by omega);have m1:=Int.emod_lt_of_pos rest lp;obtain⟨n,hn,en⟩:=nM (ws:=ns) m0 m1;by_cases h0:m=0
  ·refine ifT (by rw[h0];rfl) (bO ?_);walk_at "w";show rI _ _ _ _ _ _;rw[Qd];refine i_rI lp (i_ixL (SqL.of hl) en ?_);walk_at "w";refine⟨n,rfl,λt1 H1 S1 h1=>?_⟩;have hl1:=S1 _ _ hl;walk_at "w";show rI _ _ _ _ _ _;rw[Qd];refine i_rI ⟨by omega,by omega⟩ ?_;walk_at "w";refine⟨by simp[sizeLine],λt2 h2=>?_⟩;exact q t2 _ (.w n) _ _ (S1.trans (al h2)) ai (.w (al h2 _ _ h1)) (by simp only[Rl.dep];omega) hn
  refine ifF (Qo λz=>h0 (by injection z with z;omega)) ?_;walk_at "w";by_cases h1:kk<1
  ·refine ifT (Qy h1) ?_;walk_at "w";show rI _ _ _ _ _ _;rw[Qd];refine i_rI lp (i_ixL (SqL.of hl) en ?_);walk_at "w";refine⟨n,rfl,λt1 H1 S1 h1=>?_⟩;have hl1:=S1 _ _ hl;walk_at "w";show rI _ _ _ _ _ _;rw[Qd];refine i_rI ⟨by omega,by omega⟩ ?_;walk_at "w";refine⟨by simp[sizeLine],λt2 h2=>?_⟩;exact q t2 _ (.w n) _ _ (S1.trans (al h2)) ai (.w (al h2 _ _ h1)) (by simp only[Rl.dep];omega) hn
  refine ifF (Qo h1) ?_;walk_at "w";refine⟨rest,l,ns,m-1,by rw[show ((m:Int)-1)=((m-1:Nat):Int) by omega],by omega,hl,ne,few,λt1 u1 r1 e1 H1 S1 ht1 ru1 d1 k1=>?_⟩;refine⟨t1,_,rfl,SqT.of ht1,rfl,?_⟩;refine⟨_,_,rfl,ap ⟨_,_,rfl,ap ⟨rfl,?_⟩⟩⟩;have hl1:=S1 _ _ hl;walk_at "w";by_cases h3:kk<3
  ·refine ifT (Qy h3) ?_;walk_at "w";refine⟨by simp[sizeLine],λt2 h2=>?_⟩;walk_at "w";refine⟨by simp[sizeLine],λt3 h3=>?_⟩;have S2:=al (o:=.tup [.str "not", u1]) h2;have S3:=S2.trans (al (o:=.tup [.ref t2,.int e1]) h3);exact q t3 _ (.no r1) _ _ (S1.trans S3) ai (.no (al h3 _ _ ai) (ru1.mono (ar.tups S3))) (by simp only[Rl.dep];omega) k1
  refine ifF (Qo h3) ?_;walk_at "w";refine⟨e1,l,ns,m-1,by rw[show ((m:Int)-1)=((m-1:Nat):Int) by omega],by omega,hl1,ne,few,λt2 u2 r2 e2 H2 S2 ht2 ru2 d2 k2=>?_⟩;refine⟨t2,_,rfl,SqT.of ht2,rfl,?_⟩;refine⟨_,_,rfl,ap ⟨_,_,rfl,ap ⟨rfl,?_⟩⟩⟩;walk_at "w";refine⟨by simp[sizeLine],λp hp=>?_⟩;generalize hE:upd H2 p _=H3;obtain⟨S3,q3⟩:=aI hp hE;clear hE;have S13:=S2.trans S3;walk_at "w";by_cases h4:kk=3
  ·subst h4;refine i_ixL (v:=.str "and") (SqL.of q3) rfl ?_;walk_at "w";refine⟨by simp[sizeLine],λt3 h3=>?_⟩;walk_at "w";refine⟨by simp[sizeLine],λt4 h4=>?_⟩;have S4:=al (o:=.tup [.str "and", u1,u2]) h3;have S5:=S4.trans (al (o:=.tup [.ref t3,.int e2]) h4);exact q t4 _ (.an r1 r2) _ _ (S1.trans (S13.trans S5)) ai (.an (al h4 _ _ ai) (ru1.mono (ar.tups (S13.trans S5))) (ru2.mono (ar.tups (S3.trans S5)))) (by simp only[Rl.dep];omega) ⟨k1,k2⟩
  have h5:kk=4:=by omega
  subst h5;refine i_ixL (v:=.str "or") (SqL.of q3) rfl ?_;walk_at "w";refine⟨by simp[sizeLine],λt3 h3=>?_⟩;walk_at "w";refine⟨by simp[sizeLine],λt4 h4=>?_⟩;have S4:=al (o:=.tup [.str "or", u1,u2]) h3;have S5:=S4.trans (al (o:=.tup [.ref t3,.int e2]) h4);exact q t4 _ (.orr r1 r2) _ _ (S1.trans (S13.trans S5)) ai (.orr (al h4 _ _ ai) (ru1.mono (ar.tups (S13.trans S5))) (ru2.mono (ar.tups (S3.trans S5)))) (by simp only[Rl.dep];omega) ⟨k1,k2⟩
end
def s1 (b:Bool):Str:=if b then "1" else "0"
theorem sU (b:Bool):sg b=.str (s1 b):=by cases b <;> rfl
theorem pG (b:Bool):intText? (s1 b)=some (if b then 1 else 0):=by
 cases b
 ·decide +kernel
 decide +kernel
theorem qy (b:Bool):atI ("10" : Str).cps.toList (if b then 1 else 0)=some (if (!b) then 49 else 48):=by
 cases b
 ·decide +kernel
 decide +kernel
theorem o5 (b:Bool):atI ("01" : Str).cps.toList (if b then 1 else 0)=some (if b then 49 else 48):=by
 cases b
 ·decide +kernel
 decide +kernel
theorem pF (b:Bool):(s1 b).length=1:=by
 cases b
 ·decide +kernel
 decide +kernel
theorem qM {b1 b2:Bool} (h1:σ[i]?=some (some (.bl b1))) (h2:σ[j]?=some (some (.bl b2))) (q:Q (.bl (b1&&b2)) H):pk (dE i) (dE j) σ H Q:=by
 refine i_andV (ae h1 ⟨b1,rfl,?_⟩)
 cases b1 with
 | true=>exact bO (ae h2 q)
 | false=>exact cz q
theorem tG {b1 b2:Bool} (h1:σ[i]?=some (some (.bl b1))) (h2:σ[j]?=some (some (.bl b2))) (q:Q (.bl (b1 || b2)) H):tV (dE i) (dE j) σ H Q:=by
 refine i_orV (ae h1 ⟨b1,rfl,?_⟩)
 cases b1 with
 | true=>exact bO q
 | false=>exact cz (ae h2 q)
theorem rR (b c:V):atI [b,c] (if (decide (V.str "and" = V.str "or"))=true then 1 else 0)=some b:=by rw[show decide (V.str "and" = V.str "or")=false by decide +kernel];rfl
theorem rQ (b c:V):atI [b,c] (if (decide (V.str "or" = V.str "or"))=true then 1 else 0)=some c:=by rw[show decide (V.str "or" = V.str "or")=true by decide +kernel];rfl
theorem oR {g:Str × Rl} (f:Str × Rl->Bool) (h:gs[i]?=some g):((gs.take (i+1)).filter f).map (·.1)=((gs.take i).filter f).map (·.1)++(if f g=true then [g.1] else []):=by
 rw[Q2,h,List.filter_append,Qm];cases hf:f g <;> simp[hf]
def fD (d:Nat):Sp:=λvs H Q _=>∃v a kvs r ns g,vs=[v,.ref a]/\RAt H v r/\r.dep<=d/\r.ok ns/\H a=some (.dK kvs)/\DFn kvs ns g/\∀H',ar H H'->Q (sg (r.val g)) H'
theorem kf {te:TE} (hte:∀R:VK,R (.ref lg) H->te σ H R) (hg:H lg=some (.lst gvs)) (gts:Paired (GAt H) gvs gs) (few:gs.length<=1000)
  (q:∀D H',H D=none->ar H H'->H' D=some (.lst ((gs.map (·.1)).map V.str))->Q (.ref D) H') :
  jj (lx K te) (uG K 2 (qP (ee 0) (qP (ee 1) vS))) fz (dE 0) (bF [x,y] []) σ H Q:=by
 have big:10000<sizeLine:=by decide
 have lgv:=aN gts;refine i_comp (s_list (hte _ ⟨lg,rfl,⟨_,SqL.of hg⟩,λD hD=>?_⟩));refine cB (xs:=gvs) (λn H' ys=>ar H H'/\H' D=some (.lst ys)/\ys=((gs.map (·.1)).map V.str).take n) ⟨al hD,ai,by simp⟩ (λn H' ys p=>⟨p.2.1,SqL.of (p.1 _ _ hg)⟩) (λn x H' ys e p=>?_) (λH1 ys p=>?_)
 ·obtain⟨Sm,hd,rfl⟩:=p;obtain⟨g,hgi,b,rv,rfl,hb,hrv⟩:=bY gts n x e;have hn:n<gvs.length:=(Qc.mp e).1;refine⟨b,_,rfl,SqT.of (Sm _ _ hb),rfl,?_⟩;refine⟨_,_,rfl,ap ⟨_,_,rfl,ap ⟨rfl,⟨trivial,i_yes (bO ?_)⟩⟩⟩⟩;refine ae rfl (bS.mk hd hn (by rw[QL];omega) ⟨aX Sm hD,ai,?_⟩);rw[Q2,Qk,Qk,hgi];rfl
 obtain⟨S1,hD1,rfl⟩:=p;rw[QF (by rw[Qd,Qd];omega)]at hD1;exact q D H1 hD S1 hD1
section
theorem jW:FnScope ["rule", "signs", "one", "other"] ["rule", "signs"] (am (top 50)):=by walk_at "k"
theorem jp {f:Addr} {fd:FuncData} (Fu:Fun K "_law_worth" "_law_worth" (top 50) f fd) (T:Txt K mg TT) (hm:mg "_law_worth" = some (.ref f)) (hk:PySem.W.keepIn K (.ref f)=true) (hb:fb K fd ["rule", "signs"] []):∀d,FnOk P w K mg base CX0 d f fd ["rule", "signs"] (fD d)
 | 0=>dX λvs H Q E ⟨v,a,kvs,r,ns,g,_,_,h,_⟩=>by have:=gL r;omega
 | d+1=>by
  have S:=jW;have f_law_worth:Fn P w K mg base "_law_worth" ["rule", "signs"] d (fD d):=⟨f,fd,jp Fu T hm hk hb d,hm,hk,hb⟩;refine Fu.ok S (λvs H Q E h=>?_) (λcdv A outer s H vs Q E hr h=>?_)
  ·obtain⟨v,a,kvs,r,ns,g,rfl,_⟩:=h;rfl
  obtain⟨v,a,kvs,r,ns,g,rfl,ra,hd,rok,ha,hf,q⟩:=h;have hu:=db hr
  refine⟨_,(aq (bI (aG cO (aA aB (pv 0) ak (λ_ _=>rfl)) aM (aQ _)) (aw (ax (cf hu (pv 1) (aA aB (pv 0) ak (λ_ _=>rfl)) (λ_ _=>rfl)))) aV)
  (aq (bI (aG cO (aA aB (pv 0) ak (λ_ _=>rfl)) aM (aQ _)) (aw (ax (aA fj aM (cU e_ (by rfl) T.n_int PyProof.Rows.boot_int (aa (au f_law_worth hr (aa (aA aB (pv 0) ak (λ_ _=>rfl)) (aa (pv 1) ad ah))) ad se_call)) (λ_ _=>rfl)))) aV)
  (aq (aF 2 S.nd (bD cO (au f_law_worth hr (aa (aA aB (pv 0) ak (λ_ _=>rfl)) (aa (pv 1) ad ah))) aM (aQ _)))
  (aq (aF 3 S.nd (bD cO (au f_law_worth hr (aa (aA aB (pv 0) ak (λ_ _=>rfl)) (aa (pv 1) ad ah))) aM (aQ _)))
  (aw (ax (aA fj aM (cU jB (by rfl) T.n_int PyProof.Rows.boot_int (aa (aA cR (pe_lst (aa (eC (pv 2) (c7 (pv 3))) (aa (pS (pv 2) (c7 (pv 3))) ad))) (cU jB (by rfl) T.n_int PyProof.Rows.boot_int (aa (bD cO (aA aB (pv 0) ak (λ_ _=>rfl)) aM (aQ _)) ad)) (λ_ _=>rfl)) ad)) (λ_ _=>rfl)))))))),?_⟩
  walk_at "e"
  cases ra with
  | @w b n hb =>
   walk_at "w";refine ifT (by decide +kernel) ?_;walk_at "w";have hv:bq kvs (Sum.inr n:Key)=some (sg (g n)):=hf n rok;refine⟨a,sg (g n),rfl,by rw[<-hv];exact cL.k (k:=Sum.inr n) ha,?_⟩;exact q H (ar.refl _)
  | @no b u r hb hr1 =>
   walk_at "w";refine ifF (by decide +kernel) ?_;walk_at "w";refine ifT (by decide +kernel) ?_;walk_at "w";refine⟨u,a,kvs,r,ns,g,rfl,hr1,by simp only[Rl.dep]at hd;omega,rok,ha,hf,λH1 S1=>?_⟩;have e:Rl.val g (Rl.no r)=!r.val g:=rfl;rw[e]at q;walk_at "w";refine⟨s1 (r.val g),_,by rw[sU],pG _,by rw[pF];decide,?_⟩;refine gq (by decide +kernel) (qy _) ?_;rw[<-rF];exact q H1 S1
  | @an b u x r1 r2 hb hr1 hr2 =>
   walk_at "w";refine ifF (by decide +kernel) ?_;walk_at "w";refine ifF (by decide +kernel) ?_;simp only[Rl.dep]at hd;have e:Rl.val g (Rl.an r1 r2)=(r1.val g&&r2.val g):=rfl;rw[e]at q;walk_at "s";walk_at "s";refine aU (aC (aH (af (aC (ae rfl (i_c (ba hb rfl (af (ae rfl (av ⟨u,a,kvs,r1,ns,g,rfl,hr1,by omega,rok.1,ha,hf,λH1 S1=>i_c (i_eq (by cases r1.val g <;> rfl) ?_)⟩))))))))));rw[ib];refine ap ?_;walk_at "s";refine aU (aC (aH (af (aC (ae rfl (i_c (ba (S1 _ _ hb) rfl (af (ae rfl (av ⟨x,a,kvs,r2,ns,g,rfl,hr2.mono (ar.tups S1),by omega,rok.2,S1 _ _ ha,hf,λH2 S2=>i_c (i_eq (by cases r2.val g <;> rfl) ?_)⟩))))))))));rw[ib];refine ap ?_;generalize r1.val g=b1 at *;generalize r2.val g=b2 at *
   try dsimp only
   refine s_ret (aC (i_c (i_cb (af (aC (i_lst (af ?_)))))));refine qM rfl rfl (af (tG rfl rfl (av ⟨by simp[sizeLine],λp hp=>?_⟩)));have S3:=al (o:=.lst [.bl (b1&&b2),.bl (b1 || b2)]) hp;have S13:=S1.trans (S2.trans S3);refine i_cb (af (aC (aC (ae rfl (i_c (ba (S13 _ _ hb) rfl (i_c (i_eq rfl (av (.inr ⟨_,rfl,?_⟩))))))))));refine i_ixL (SqL.of ai) (rR _ _) ?_;refine av (.inr ⟨_,rfl,gq (by decide +kernel) (o5 _) ?_⟩);rw[<-rF];exact q _ S13
  | @orr b u x r1 r2 hb hr1 hr2 =>
  walk_at "w";refine ifF (by decide +kernel) ?_;walk_at "w";refine ifF (by decide +kernel) ?_;simp only[Rl.dep]at hd;have e:Rl.val g (Rl.orr r1 r2)=(r1.val g || r2.val g):=rfl;rw[e]at q;walk_at "s";walk_at "s";refine aU (aC (aH (af (aC (ae rfl (i_c (ba hb rfl (af (ae rfl (av ⟨u,a,kvs,r1,ns,g,rfl,hr1,by omega,rok.1,ha,hf,λH1 S1=>i_c (i_eq (by cases r1.val g <;> rfl) ?_)⟩))))))))));rw[ib];refine ap ?_;walk_at "s";refine aU (aC (aH (af (aC (ae rfl (i_c (ba (S1 _ _ hb) rfl (af (ae rfl (av ⟨x,a,kvs,r2,ns,g,rfl,hr2.mono (ar.tups S1),by omega,rok.2,S1 _ _ ha,hf,λH2 S2=>i_c (i_eq (by cases r2.val g <;> rfl) ?_)⟩))))))))));rw[ib];refine ap ?_;generalize r1.val g=b1 at *;generalize r2.val g=b2 at *
  try dsimp only
  refine s_ret (aC (i_c (i_cb (af (aC (i_lst (af ?_)))))));refine qM rfl rfl (af (tG rfl rfl (av ⟨by simp[sizeLine],λp hp=>?_⟩)));have S3:=al (o:=.lst [.bl (b1&&b2),.bl (b1 || b2)]) hp;have S13:=S1.trans (S2.trans S3);refine i_cb (af (aC (aC (ae rfl (i_c (ba (S13 _ _ hb) rfl (i_c (i_eq rfl (av (.inr ⟨_,rfl,?_⟩))))))))));refine i_ixL (SqL.of ai) (rQ _ _) ?_;refine av (.inr ⟨_,rfl,gq (by decide +kernel) (o5 _) ?_⟩);rw[<-rF];exact q _ S13
theorem jX:FnScope ["net"] ["net"] (am (top 51)):=by walk_at "k"
theorem oy {f:Addr} {fd:FuncData} (Fu:Fun K "_law_names" "_law_names" (top 51) f fd) (T:Txt K mg TT):FnOk P w K mg base CX0 1 f fd ["net"] bA:=by
 have S:=jX;refine Fu.ok S (by walk_at "l") (λcdv A outer s H vs Q E hr h=>?_);obtain⟨a,li,lg,ins,gvs,gs,rfl,NA,ok,k⟩:=h;have g7:=ok.g7;refine⟨_,(aw (ax (aE c8 (cU fT (by rfl) T.n_list PyProof.Rows.boot_list (aa (aA aB (pv 0) ak (λ_ _=>rfl)) ad)) (cM (tgs:=["name", "rule"]) (cap:=[]) rfl ⟨rfl,rfl,rfl,rfl,rfl,rfl⟩ (bh (aA aB (pv 0) ak (λ_ _=>rfl))) (λ_ _ _ _=>(gK (K:=K) (n:=2) rfl rfl (aY (aZ (i:=0) (show List.Nodup [("name" : Str),("rule" : Str)] by decide +kernel) rfl (by walk_at "z")) (aY (aZ (i:=1) (show List.Nodup [("name" : Str),("rule" : Str)] by decide +kernel) rfl (by walk_at "z")) cE)))) (λ_ _ _ _=>br) (λ_ _ _ _=>(pv 0)))))),?_⟩;walk_at "e";refine s_ret (aC (i_cb (af (aC (ae rfl (i_c (ba NA.ha rfl (av ⟨li,_,rfl,.inl (SqL.of NA.hi),λl hl=>?_⟩))))))));have s1:=al (o:=.lst (ins.map V.str)) hl;have NA1:=NA.same s1;refine kf (λR q=>aC (ae rfl (i_c (ba NA1.ha rfl q)))) NA1.hg NA1.gates (by omega) λD H2 hD s2 h2=>?_;have hl2:H2 l=some (.lst (ins.map V.str)):=s2 _ _ ai;refine eL hl2 h2 (je ok) λp hp=>?_;have hs:ar H (upd H2 p (HO.lst (ins.map V.str++(gs.map (·.1)).map V.str))):=s1.trans (s2.trans (al hp));refine k p _ hs (ar.free (s1.trans s2) hp) ?_;rw[ai,jd]
theorem j0:FnScope ["net", "standing", "signs"] ["net", "standing"] (am (top 52)):=by walk_at "k"
theorem oA {f:Addr} {fd:FuncData} (Fu:Fun K "_law_asked" "_law_asked" (top 52) f fd) (T:Txt K mg TT) (f_law_names:Fn P w K mg base "_law_names" ["net"] 1 bA) (f_law_worth:Fn P w K mg base "_law_worth" ["rule", "signs"] 10 (fD 10)) :
  FnOk P w K mg base CX0 11 f fd ["net", "standing"] dj:=by
 have S:=j0;refine Fu.ok S (by walk_at "l") (λcdv A outer s H vs Q E hr h=>?_);obtain⟨a,li,lg,ins,gvs,gs,z,rfl,NA,ok,nd,st,k⟩:=h;have hu:=db hr
 refine⟨_,(aq (aF 2 S.nd (j4 rfl (by rfl) T.n_dict (by rfl) T.n_zip (aa (au f_law_names hr (aa (pv 0) ad ah)) (aa (pv 1) ad ah) se_call)))
  (aw (ax (cM (tgs:=["name", "rule"]) (cap:=[("signs", 2)]) rfl ⟨rfl,rfl,rfl,rfl,rfl,rfl⟩ (bh (aA aB (pv 0) ak (λ_ _=>rfl))) (λ_ _ _ _=>(gK (K:=K) (n:=2) rfl rfl (aY (aZ (i:=0) (show List.Nodup [("name" : Str),("rule" : Str),("signs" : Str)] by decide +kernel) rfl (by walk_at "z")) (aY (aZ (i:=1) (show List.Nodup [("name" : Str),("rule" : Str),("signs" : Str)] by decide +kernel) rfl (by walk_at "z")) cE)))) (λ_ _ _ _=>(iy (aG gp (au f_law_worth hr (aa (pv 1) (aa (pv 2) ad ah) ah)) (cf hu (pv 2) (pv 0) (λ_ _=>rfl)) (aQ _)))) (λ_ _ _ _=>(pv 0)))))),?_⟩
 walk_at "e"
 have wl:(ac ins gs).length<1000:=by
  have i4:=ok.i4;have g7:=ok.g7;unfold ac;rw[Qh,Qd];omega
 walk_at "w";show bP _ _ _ _ _;walk_at "w";refine⟨a,li,lg,ins,gvs,gs,rfl,NA,ok,λl H0 S0 hl h1=>?_⟩;walk_at "w";refine⟨l,ac ins gs,z,rfl,SqL.of h1,by rw[st.len];omega,wl,λd hd0=>?_⟩;have df:=fP nd st;generalize hkv:bg [] (bu (ac ins gs) z)=kvs at *;generalize hE:upd H0 d _=H1;obtain⟨Sd,hd⟩:=aI hd0 hE;clear hE;have S1:=S0.trans Sd;have NA1:=NA.same S1;have g7:=ok.g7;have lgn:=aN NA.gates;have big:1000<sizeLine:=by decide
 refine ap ?_;refine s_ret (i_comp (s_list (aC (ae rfl (i_c (ba NA1.ha rfl ⟨lg,rfl,⟨_,SqL.of NA1.hg⟩,λD hD=>?_⟩))))));let I12:IvC:=λn H' ys=>ar H1 H'/\H' D=some (.lst ys)/\ys.length<=n/\ys=(((gs.take n).filter λg=>!(g.2.val (sgn (ac ins gs) z)==sgn (ac ins gs) z g.1)).map (·.1)).map V.str;refine fm (xs:=gvs) I12 ⟨al hD,ai,by simp,by simp⟩ (λn H' ys p=>⟨p.2.1,SqL.of (p.1 _ _ NA1.hg)⟩) (λn x H' ys e p=>?_) (λH' ys p=>?_)
 ·obtain⟨Sm,hDl,hys,he⟩:=p;obtain⟨g,hgi,b,rv,rfl,hb,hrv⟩:=bY NA1.gates n x e;have hn:n<gvs.length:=(Qc.mp e).1;have gm:g∈gs:=Qq hgi;obtain⟨rok,rdep⟩:=ok.rules g gm;have ft:=oR (λg=>!(g.2.val (sgn (ac ins gs) z)==sgn (ac ins gs) z g.1)) hgi
  have gw:g.1∈ac ins gs:=by
   unfold ac;exact Qw _ (List.mem_map_of_mem gm)
  have hv:bq kvs (Sum.inr g.1:Key)=some (sg (sgn (ac ins gs) z g.1)):=df g.1 gw;refine⟨b,_,rfl,SqT.of (Sm _ _ hb),rfl,?_⟩;refine⟨_,_,rfl,ap ⟨_,_,rfl,ap ⟨rfl,⟨⟨rfl,trivial⟩,?_⟩⟩⟩⟩;show mT _ [some (.str g.1),some rv,some (.ref d)] _ _;refine i_test (aC (aH (af (ae rfl (af (ae rfl (av ⟨rv,d,kvs,g.2,_,_,rfl,hrv.mono (ar.tups Sm),rdep,rok,Sm _ _ hd,df,λH2 S2=>i_dget (ae rfl (ae rfl ⟨d,_,rfl,by rw[<-hv];exact cL.k (k:=Sum.inr g.1) ((Sm.trans S2) _ _ hd),?_⟩))⟩)))))));generalize hb1:g.2.val (sgn (ac ins gs) z)=b1 at *;generalize hb2:sgn (ac ins gs) z g.1=b2 at *;refine i_ne (by cases b1 <;> cases b2 <;> rfl) ?_;rw[sV];refine⟨_,rfl,?_⟩
  cases hc:(b1==b2) with
  | true =>
   rw[hc]at ft;refine cz ⟨_,by omega,rfl,by omega,Sm.trans S2,S2 _ _ hDl,by omega,?_⟩;rw[ft,he];simp
  | false =>
  rw[hc]at ft;refine bO (ae rfl ?_);refine bS.mk (S2 _ _ hDl) hn (by omega) ⟨aX (Sm.trans S2) hD,ai,by simp;omega,?_⟩;rw[ft,he];simp
 obtain⟨Sm,hDl,hys,rfl⟩:=p;refine k D H' (S1.trans Sm) (ar.free S1 hD) ?_;rw[hDl,QF (by omega)];rfl
end
def fY:Sp:=λvs H Q _=>∃a li lg ins gvs gs z n,vs=[.ref a,.str z,.str n]/\NAt H a li lg ins gvs gs/\NetOk ins gs/\(ac ins gs).Nodup/\StOk (ac ins gs).length z/\n∈ac ins gs/\∀H',ar H H'->Q (.str (bd (fl n (sgn (ac ins gs) z)) (ac ins gs))) H'
def jO:Sp:=λvs H Q _=>∃(a li lg:Addr) (ins:List Str) (gvs:List V) (gs:List (Str × Rl)) (l:Addr) (ws:List Str) (z:Str),vs=[.ref a,.ref l,.str z]/\NAt H a li lg ins gvs gs/\NetOk ins gs/\H l=some (.lst (ws.map V.str))/\ws.Nodup/\StOk ws.length z/\ws.length<100/\(∀n∈ac ins gs,n∈ws) /\
 ∀H',ar H H'->Q (.str (bd (sgn ws z) (ac ins gs))) H'
def tZ:Sp:=λvs H Q _=>∃a li lg ins gvs gs F n,vs=[.ref a,.str (bd F (ac ins gs)),.str n]/\NAt H a li lg ins gvs gs/\NetOk ins gs/\(ac ins gs).Nodup/\(n∈gs.map (·.1)->n∈eU F gs)/\∀H',ar H H'->Q (.str (bd (fl n F) (ac ins gs))) H'
section
theorem i7:FnScope ["net", "standing", "name", "at"] ["net", "standing", "name"] (am (top 53)):=by walk_at "k"
variable {fd:FuncData}
theorem mq {f:Addr} (Fu:Fun K "_law_turned" "_law_turned" (top 53) f fd) (T:Txt K mg TT) (f_law_names:Fn P w K mg base "_law_names" ["net"] 1 bA):FnOk P w K mg base CX0 2 f fd ["net", "standing", "name"] fY:=by
 have S:=i7;refine Fu.ok S (by walk_at "l") (λcdv A outer s H vs Q E hr h=>?_);obtain⟨a,li,lg,ins,gvs,gs,z,n,rfl,NA,ok,nd,st,hn,k⟩:=h
 refine⟨_,(aq (aF 3 S.nd (d_ QX PySem.F.slot_list_index PySem.F.type_list_index k9 (au f_law_names hr (aa (pv 0) ad ah)) (aa (pv 2) ad ah)))
  (aw (ax (aE dU (aE dU (c6 jU (pv 1) dS (dR (pv 3))) (aA fj aM (cU e_ (by rfl) T.n_int PyProof.Rows.boot_int (aa (aA fj (pv 1) (pv 3) (λ_ _=>rfl)) ad)) (λ_ _=>rfl))) (c6 jU (pv 1) (dR (aE bN (pv 3) ak)) dS))))),?_⟩
 walk_at "e";have i4:=ok.i4;have g7:=ok.g7;have wl:=gP ins gs;have hz:z.length=(ac ins gs).length:=st.len;have hl:(ac ins gs).idxOf n<(ac ins gs).length:=List.idxOf_lt_length_iff.mpr hn;have hw:(ac ins gs)[(ac ins gs).idxOf n]?=some n:=by rw[Qe hl,List.getElem_idxOf hl]
 have hno:∀m,m<(ac ins gs).idxOf n->(ac ins gs)[m]?≠some n:=λm hm h=>by
  have h3:(ac ins gs)[m]'(by omega)=n:=(Qc.mp h).2;have h4:=List.not_of_lt_findIdx (p:=(·==n)) hm;simp[h3]at h4
 generalize (ac ins gs).idxOf n=i at *;walk_at "s";refine aU (i_bm (aH (af (ae rfl (av ⟨a,li,lg,ins,gvs,gs,rfl,NA,ok,λl H1 S1 _ h1=>⟨i_tyL h1,af (ae rfl (av ⟨l,_,n,i,rfl,rfl,h1,hw,hno,by omega,ap ?_⟩))⟩⟩)))));have s1':=Txt.slice_le z none (some (i:Int));have s2:=Txt.slice_le z (some ((i:Int)+1)) none;have e:=fF st hl;unfold dF at e
 try dsimp only
 refine s_ret (aC (aC (i_sl (ae rfl (i_nopart (i_part (ae rfl ⟨_,rfl,z,rfl,by omega,?_⟩)))))));refine aC (i_c (i_cb (af (aC (ae rfl (ae rfl (gq (by omega) (kh st hl) (av ?_))))))));rw[e,sU];refine⟨_,_,rfl,pG _,by rw[pF];decide,gq (by decide +kernel) (qy _) ?_⟩
 have ef:(⟨#[if (!(z.cps.getD i 0==49))=true then 49 else 48]⟩:Str)=b_ z i:=by
  unfold b_;cases (z.cps.getD i 0==49) <;> decide +kernel
 rw[ef]
 have fl:(b_ z i).length=1:=by
  unfold b_
  split
  ·decide +kernel
  decide +kernel
 have l1:(Txt.slice z none (some (i:Int))++b_ z i).length=(Txt.slice z none (some (i:Int))).length+(b_ z i).length:=Array.size_append;refine⟨_,_,rfl,rfl,by omega,?_⟩;refine i_sl (ae rfl (i_part (aC (ae rfl (i_c (i_rI0 ⟨_,rfl,i_nopart ⟨z,rfl,by omega,⟨_,_,rfl,rfl,by omega,?_⟩⟩⟩))))));have et:Txt.slice z none (some (i:Int))++b_ z i++Txt.slice z (some ((i:Int)+1)) none=cH z i:=rfl;rw[et,fw nd st hw];exact k H1 S1
theorem kJ:FnScope ["net", "names", "standing", "signs"] ["net", "names", "standing"] (am (top 56)):=by walk_at "k"
theorem ql {f:Addr} (Fu:Fun K "_law_part" "_law_part" (top 56) f fd) (T:Txt K mg TT) (f_law_names:Fn P w K mg base "_law_names" ["net"] 1 bA):FnOk P w K mg base CX0 2 f fd ["net", "names", "standing"] jO:=by
 have S:=kJ;refine Fu.ok S (by walk_at "l") (λcdv A outer s H vs Q E hr h=>?_);obtain⟨a,li,lg,ins,gvs,gs,l,ws,z,rfl,NA,ok,hl,nd,st,lw,sub,k⟩:=h;have hu:=db hr
 refine⟨_,(aq (aF 3 S.nd (j4 rfl (by rfl) T.n_dict (by rfl) T.n_zip (aa (pv 1) (aa (pv 2) ad ah) ah)))
  (aw (ax (d_ PySem.F.plainAttrs_str PySem.F.slot_str_join PySem.F.type_str_join j6 aM (aa (cM (tgs:=["name"]) (cap:=[("signs", 3)]) rfl ⟨rfl,rfl,rfl,rfl,rfl,rfl⟩ (bh (au f_law_names hr (aa (pv 0) ad ah))) (λ_ _ _ _=>(aZ (i:=0) (show List.Nodup [("name" : Str),("signs" : Str)] by decide +kernel) rfl (by walk_at "z"))) (λ_ _ _ _=>br) (λ_ _ _ _=>(cf hu (pv 1) (pv 0) (λ_ _=>rfl)))) ad))))),?_⟩
 walk_at "e";have i4:=ok.i4;have g7:=ok.g7;have wl:=gP ins gs;have df:=fP nd st;walk_at "w";show bP _ _ _ _ _;walk_at "w";refine⟨l,ws,z,rfl,SqL.of hl,by rw[st.len];omega,by omega,λd hd=>?_⟩;generalize hE:upd H d _=H1;obtain⟨S1,q1⟩:=aI hd hE;clear hE;walk_at "w";refine⟨qK,?_⟩;refine af (i_comp (s_list ?_));walk_at "w";refine⟨a,li,lg,ins,gvs,gs,rfl,NA.same S1,ok,λl9 H9 S9 n9 h9=>?_⟩;refine⟨l9,rfl,⟨_,SqL.of h9⟩,?_⟩;refine' lK (f:=sgn ws z) ?h1 (S9 _ _ q1) h9 (λn hn=>df n (sub n hn)) (by omega) ?h2 ?h3
 case h1=>intro x;exact⟨rfl,trivial⟩
 case h2=>intro x H' Q' h;exact i_dget (ae rfl (ae rfl h))
 intro D10 H10 hD10 S10 hl10;refine av ⟨"", D10,_,rfl,rfl,SqL.of hl10,?_,?_⟩
 ·rw[gS];have:("" : Str).length=0:=by decide +kernel
  rw[this];omega
 have e0:("" : Str)=Str.empty:=by decide +kernel
 rw[e0,lr];exact k _ ((S1.trans S9).trans S10)
theorem nX:FnScope ["net", "standing", "name"] ["net", "standing", "name"] (am (top 57)):=by walk_at "k"
theorem vE {f:Addr} (Fu:Fun K "_law_on" "_law_on" (top 57) f fd) (T:Txt K mg TT) (f_switch_gate:Fn P w K mg base "switch_gate" ["net", "standing", "name"] 14 fZ) (f_turn_input:Fn P w K mg base "turn_input" ["net", "standing", "name"] 5 jK) :
  FnOk P w K mg base CX0 15 f fd ["net", "standing", "name"] tZ:=by
 have S:=nX;refine Fu.ok S (by walk_at "l") (λcdv A outer s H vs Q E hr h=>?_);obtain⟨a,li,lg,ins,gvs,gs,F,n,rfl,NA,ok,nd,ask,k⟩:=h
 refine⟨_,(aq (bI (aG dI (pv 2) (cM (tgs:=["gate", "rule"]) (cap:=[]) rfl ⟨rfl,rfl,rfl,rfl,rfl,rfl⟩ (bh (aA aB (pv 0) ak (λ_ _=>rfl))) (λ_ _ _ _=>(gK (K:=K) (n:=2) rfl rfl (aY (aZ (i:=0) (show List.Nodup [("gate" : Str),("rule" : Str)] by decide +kernel) rfl (by walk_at "z")) (aY (aZ (i:=1) (show List.Nodup [("gate" : Str),("rule" : Str)] by decide +kernel) rfl (by walk_at "z")) cE)))) (λ_ _ _ _=>br) (λ_ _ _ _=>(pv 0))) rfl) (aw (ax (au f_switch_gate hr (aa (pv 0) (aa (pv 1) (aa (pv 2) ad ah) ah) ah)))) aV)
  (aq (bI (aG dI (pv 2) (aA aB (pv 0) ak (λ_ _=>rfl)) rfl) (aw (ax (au f_turn_input hr (aa (pv 0) (aa (pv 1) (aa (pv 2) ad ah) ah) ah)))) aV)
  (aw (ax (pv 1))))),?_⟩
 walk_at "d";have g7:=ok.g7;generalize hz:bd F (ac ins gs)=z;have st:StOk (ac ins gs).length z:=by rw[<-hz];exact fi _ _
 rw[show L2.start ["net", "standing", "name"] [V.ref a,V.str z,V.str n]=[some (.ref a),some (.str z),some (.str n)] from rfl];walk_at "s";refine s_if (i_test (aC (ae rfl ?_)));refine kf (λR q=>aC (ae rfl (i_c (ba NA.ha rfl q)))) NA.hg NA.gates (by omega) λD H1 hD S1 h1=>?_;have NA1:=NA.same S1;refine⟨D,_,rfl,.inl (SqL.of h1),rfl,bx _,?_⟩;refine⟨_,rfl,?_⟩;by_cases c1:n∈gs.map (·.1)
 ·rw[bt.mpr c1];refine bO ?_;walk_at "w";refine⟨a,li,lg,ins,gvs,gs,z,n,rfl,NA1,ok,nd,st,by rw[<-hz,eS ok];exact ask c1,λH2 S2=>?_⟩;rw[<-hz,qQ];exact k H2 (S1.trans S2)
 have e1:inV (.str n) ((gs.map (·.1)).map V.str)=false:=by
  cases q:inV (.str n) ((gs.map (·.1)).map V.str) with
  | false=>rfl
  | true=>exact absurd (bt.mp q) c1
 refine ifF e1 ?_;walk_at "w";refine ba NA1.ha rfl ?_;refine⟨li,_,rfl,.inl (SqL.of NA1.hi),rfl,bx _,?_⟩;refine⟨_,rfl,?_⟩;by_cases c2:n∈ins
 ·rw[bt.mpr c2];refine bO ?_;walk_at "w";refine⟨a,li,lg,ins,gvs,gs,z,n,rfl,NA1,ok,nd,st,c2,λH2 S2=>?_⟩;rw[<-hz,qQ];exact k H2 (S1.trans S2)
 have e2:inV (.str n) (ins.map V.str)=false:=by
  cases q:inV (.str n) (ins.map V.str) with
  | false=>rfl
  | true=>exact absurd (bt.mp q) c2
 refine ifF e2 ?_;walk_at "w"
 have out:n∉ac ins gs:=λh=>by
  unfold ac at h;exact(Qt.mp h).elim c2 c1
 rw[<-hz,<-uH out];exact k H1 S1
end
theorem ur (h:(decide (1<=z.length)&&decide (z.length<=8)&&z.cps.toList.all (λc=>decide (97<=c)&&decide (c<=122)))=true):Low z:=by
 simp only[xj,decide_eq_true_eq,QU]at h;exact⟨h.1.1,h.1.2,h.2⟩
def uu (z:Str):Bool:=decide (1<=z.length)&&decide (z.length<=8)&&z.cps.toList.all (λc=>decide (97<=c)&&decide (c<=122))
theorem nr (h:zs.all uu=true):∀z∈zs,Low z:=λz hz=>ur (QU.mp h z hz)
structure Two (H:Hp) (a1 l1 m1:Addr) (i1:List Str) (v1:List V) (g1:List (Str × Rl)) (a2 l2 m2:Addr) (i2:List Str) (v2:List V) (g2:List (Str × Rl)) (aj lj mj:Addr):Prop where
 N1:NAt H a1 l1 m1 i1 v1 g1
 N2:NAt H a2 l2 m2 i2 v2 g2
 J:NAt H aj lj mj (aL i1 i2 g1 g2) (v1++v2) (g1++g2)
theorem Two.same {g1:List (Str × Rl)} (S:ar H H') (h:Two H a1 l1 m1 i1 v1 g1 a2 l2 m2 i2 v2 g2 aj lj mj):Two H' a1 l1 m1 i1 v1 g1 a2 l2 m2 i2 v2 g2 aj lj mj:=⟨h.N1.same S,h.N2.same S,h.J.same S⟩
theorem Two.keep {g1:List (Str × Rl)} (kl:∀b xs,H b=some (.lst xs)->H' b=some (.lst xs)) (kt:eN H H') (h:Two H a1 l1 m1 i1 v1 g1 a2 l2 m2 i2 v2 g2 aj lj mj):Two H' a1 l1 m1 i1 v1 g1 a2 l2 m2 i2 v2 g2 aj lj mj:=⟨h.N1.mono kl kt,h.N2.mono kl kt,h.J.mono kl kt⟩
structure TwoOk (i1:List Str) (g1:List (Str × Rl)) (i2:List Str) (g2:List (Str × Rl)):Prop where
 o1:NetOk i1 g1
 o2:NetOk i2 g2
 li:i1.length+i2.length<=20
 lg:g1.length+g2.length<=20
 isn:gx (aL i1 i2 g1 g2) (g1++g2)
 nd1:(ac i1 g1).Nodup
 nd2:(ac i2 g2).Nodup
theorem sqs {xs:List V} (S:ar H H') (h:SqL K H a xs):SqL K H' a xs:=h.imp (λr=>r.imp (λe=>S _ _ e) λ⟨o,e⟩=>⟨o,S _ _ e⟩) id
def g_ (K:PySem.W.Frag):Sp:=λvs H Q _=>∃(s:Addr) (cs:List Int) (st:Nat) (ln le:Addr) (ns es:List Str),vs=[.ref s,.int (st:Int),.ref ln,.ref le]/\SqL K H s (cs.map V.int)/\st<=10/\H ln=some (.lst (ns.map V.str))/\ns.length<=3/\H le=some (.lst (es.map V.str))/\es≠[]/\es.length<=100 /\
 ∀l gvs gs H',ar H H'->H l=none->H' l=some (.lst gvs)->Paired (GAt H') gvs gs->gs.map (·.1)=ns->(∀g∈gs,g.2.ok es/\g.2.dep<=3)->Q (.ref l) H'
def MkS (σ:St) (te:TE) (xs:List Str):Prop:=∀(H:Hp) (Q:VK),(∀p H',ar H H'->H p=none->H' p=some (.lst (xs.map V.str))->Q (.ref p) H')->te σ H Q
theorem vG:MkS σ (kq (bP (tC (.str x)) gz)) [x]:=λH Q q=>i_lst (af (i_c (av ⟨by simp[sizeLine],λp hp=>q p _ (al hp) hp ai⟩)))
theorem qD:MkS σ (kq (bP (tC (.str x)) (bP (tC (.str y)) gz))) [x,y]:=λH Q q=>i_lst (af (i_c (af (i_c (av ⟨by simp[sizeLine],λp hp=>q p _ (al hp) hp ai⟩)))))
theorem nz {t1 t2 t3 ti:TE} {j:Int} (m1:MkS σ t1 x1) (m2:MkS σ t2 x2) (m3:MkS σ t3 x3) (hj:j=0\/j=1\/j=2) (hi:∀H (Q:VK),Q (.int j) H->ti σ H Q)
  (q:∀p x H',ar H H'->H p=none->H' p=some (.lst (x.map V.str))->(x=x1\/x=x2\/x=x3)->Q (.ref p) H'):tOp (t9 K) (kq (bP t1 (bP t2 (bP t3 gz)))) ti σ H Q:=by
 refine aC (i_lst (af (m1 H _ λp1 H1 S1 n1 q1=>af (m2 H1 _ λp2 H2 S2 n2 q2=>af (m3 H2 _ λp3 H3 S3 n3 q3=>av ⟨by simp[sizeLine],λp hp=>hi _ _ ?_⟩)))));have S4:=al (o:=.lst [.ref p1,.ref p2,.ref p3]) hp;have S14:=S1.trans (S2.trans (S3.trans S4));rcases hj with e|e|e <;> subst e
 ·exact i_ixL (v:=.ref p1) (SqL.of ai) rfl (q p1 x1 _ S14 n1 ((S2.trans (S3.trans S4)) _ _ q1) (.inl rfl))
 ·exact i_ixL (v:=.ref p2) (SqL.of ai) rfl (q p2 x2 _ S14 (ar.free S1 n2) ((S3.trans S4) _ _ q2) (.inr (.inl rfl)))
 exact i_ixL (v:=.ref p3) (SqL.of ai) rfl (q p3 x3 _ S14 (ar.free (S1.trans S2) n3) (S4 _ _ q3) (.inr (.inr rfl)))
theorem ny {th:TO} {j:Int} (hj:j=1\/j=2) (hi:∀H (Q:Option Int->Hp->Prop),Q (some j) H->th σ H Q)
  (q:∀p xs H',ar H H'->H p=none->H' p=some (.lst (xs.map V.str))->(xs=[x]\/xs=[x,y])->Q (.ref p) H'):tSl (t8 K) (kq (bP (tC (.str x)) (bP (tC (.str y)) gz))) jI th σ H Q:=by
 refine i_sl (qD H _ λp H1 S1 n1 q1=>i_nopart (hi _ _ (vL (SqL.of q1) λr hr=>?_)));have S2:=al (o:=.lst (ja (([x,y]:List Str).map V.str) none (some j))) hr;rcases hj with e|e <;> subst e
 ·exact q r [x] _ (S1.trans S2) (ar.free S1 hr) ai (.inl rfl)
 exact q r [x,y] _ (S1.trans S2) (ar.free S1 hr) ai (.inr rfl)
theorem tR {g1:List (Str × Rl)} (h1:i1=(["p", "c"]:List Str)\/i1=(["c"]:List Str)\/i1=(["c", "p"]:List Str)) (h2:i2=(["a", "q"]:List Str)\/i2=(["a"]:List Str)\/i2=(["a", "p"]:List Str)) (e1:g1.map (·.1)=(["a"]:List Str)\/g1.map (·.1)=(["a", "b"]:List Str)) (e2:g2.map (·.1)=(["c"]:List Str)\/g2.map (·.1)=(["c", "d"]:List Str))
  (r1:∀g∈g1,g.2.ok (i1++g1.map (·.1))/\g.2.dep<=3) (r2:∀g∈g2,g.2.ok (i2++g2.map (·.1))/\g.2.dep<=3):TwoOk i1 g1 i2 g2:=by
 have l1:g1.length=(g1.map (·.1)).length:=(Qd _).symm;have l2:g2.length=(g2.map (·.1)).length:=(Qd _).symm
 have key:∀(n1 n2:List Str),(n1=(["a"]:List Str)\/n1=(["a", "b"]:List Str))->(n2=(["c"]:List Str)\/n2=(["c", "d"]:List Str))->(n1.length<=2/\1<=n1.length/\n2.length<=2/\i1.length<=2/\i2.length<=2)/\((i1++n1).all uu=true/\(i2++n2).all uu=true)/\((bQ (n1++n2) (i1++i2)).length<=4/\(bQ (n1++n2) (i1++i2)++(n1++n2)).Nodup)/\(i1++n1).Nodup/\(i2++n2).Nodup:=by
  intro n1 n2 hn1 hn2;rcases h1 with e|e|e <;> rcases h2 with e'|e'|e' <;> rcases hn1 with f|f <;> rcases hn2 with f'|f' <;> subst e <;> subst e' <;> subst f <;> subst f' <;> decide +kernel
 obtain⟨⟨a1,a2,a3,a4,a5⟩,⟨b1,b2⟩,⟨c1,c2⟩,d1,d2⟩:=key _ _ e1 e2;refine⟨⟨by omega,by omega,λg hg=>⟨(r1 g hg).1,by have:=(r1 g hg).2;omega⟩,nr b1⟩,⟨by omega,by omega,λg hg=>⟨(r2 g hg).1,by have:=(r2 g hg).2;omega⟩,nr b2⟩,by omega,by omega,⟨?_,?_,?_,?_⟩,d1,d2⟩
 ·unfold aL;rw[Qm];exact c1
 ·rw[Qh];omega
 ·rw[Qh];omega
 unfold ac aL;rw[Qm];exact c2
def jP (K:PySem.W.Frag):Sp:=λvs H Q _=>∃(s:Addr) (cs:List Int),vs=[.ref s]/\SqL K H s (cs.map V.int) /\
 ∀l a1 l1 m1 i1 v1 g1 a2 l2 m2 i2 v2 g2 H',ar H H'->H' l=some (.lst [.ref a1,.ref a2])->NAt H' a1 l1 m1 i1 v1 g1->NAt H' a2 l2 m2 i2 v2 g2->TwoOk i1 g1 i2 g2->Q (.ref l) H'
section
theorem jZ:FnScope ["script", "start", "names", "every", "gates", "k", "cell"] ["script", "start", "names", "every"] (am (top 54)):=by walk_at "k"
theorem oz {f:Addr} {fd:FuncData} (Fu:Fun K "_law_gates" "_law_gates" (top 54) f fd) (T:Txt K mg TT) (f_law_cell:Fn P w K mg base "_law_cell" ["script", "k"] 1 (hU K)) (f_law_mixed:Fn P w K mg base "_law_mixed" ["cell", "k"] 1 jQ) (f_law_rule:Fn P w K mg base "_law_rule" ["cell", "names", "depth"] 4 (gE 3)) :
  FnOk P w K mg base CX0 5 f fd ["script", "start", "names", "every"] (g_ K):=by
 have S:=jZ;refine Fu.ok S (by walk_at "l") (λcdv A outer s H vs Q E hr h=>?_);obtain⟨sc,cs,st,ln,le,ns,es,rfl,hS,st10,hn,ln3,he,ene,ele,k⟩:=h;refine'⟨?_,?bb,?_⟩
 case bb =>
  walk_at "b";exact aF 4 S.nd (pe_lst ad);walk_at "f";exact(ge (by rfl) T.n_range (aa (aD aK (by rfl) T.n_len QH (aa (pv 2) ad ah)) ad se_call));exact(bW 5 S.nd);walk_at "p";exact aF 6 S.nd (au f_law_cell hr (aa (pv 0) (aa (aE bN (pv 1) (pv 5)) ad) ah));exact(aG cO (aE cu (au f_law_cell hr (aa (pv 0) (aa ak ad be) ah)) ak) ak (aQ _));exact aF 6 S.nd (au f_law_mixed hr (aa (pv 6) (aa (aE bN (pv 1) (pv 5)) ad) ah));refine' bB ?e
  case e =>
   refine' d_ QX xb xf bZ (pv 4) ?a
   case a =>
    with_reducible refine' aa ?e13 ?s13 se_tup
    case e13 =>
     with_reducible refine' pe_tup ?a14
     case a14 =>
      with_reducible refine' aa ?e15 ?s15 se_sub
      case e15 =>
       with_reducible refine' aA ?r16 ?v16 ?b16 ?p16
       case r16=>exact cR
       case p16=>exact(λ_ _=>rfl)
       case v16 =>
        exact(pv 2)
       case b16 =>
        exact(pv 5)
      case s15 =>
       with_reducible refine' aa ?e19 ?s19 se_sub
       case e19 =>
        exact(aA aB (au f_law_rule hr (aa (pv 6) (aa (pv 3) (aa ak ad be) ah) ah)) ak (λ_ _=>rfl))
       case s19 =>
        exact ad
    case s13 =>
     exact ad
  exact(ax (pv 4))
 walk_at "e";walk_at "s";refine aU (i_lst (av ⟨by simp[sizeLine],λG hG=>ap ?_⟩));generalize hE:upd H G _=H1;obtain⟨S1,q1⟩:=aI hG hE;clear hE;walk_at "s";refine s_for (s_rng1 (af (i_cb (af (ae rfl (av ⟨ln,_,rfl,.inl (SqL.of (S1 _ _ hn)),av ⟨_,rfl,by rw[Qd];omega,by rw[Qd];omega,?_⟩⟩))))));rw[Qd,Int.toNat_natCast];let I13:IvF:=λi σ H'=>(∃x5 x6,σ=[some (.ref sc),some (.int (st:Int)),some (.ref ln),some (.ref le),some (.ref G),x5,x6])/\ar H H'/\∃gvs gs,H' G=some (.lst gvs)/\Paired (GAt H') gvs gs/\gs.length=i/\gs.map (·.1)=ns.take i/\∀g∈gs,g.2.ok es/\g.2.dep<=3;refine jy (n:=ns.length) I13 ⟨⟨_,_,rfl⟩,S1,[],[],q1,.nil,rfl,rfl,λg h=>nomatch h⟩ (λi σ H' hi pv=>?_) (λσ H' pv=>?_)
 ·obtain⟨⟨x5,x6,rfl⟩,SH,gvs,gs,hG',gts,lgs,nms,ok⟩:=pv;obtain⟨x,ex⟩:∃x,ns[i]?=some x:=⟨_,Qe hi⟩;refine ap ?_;walk_at "s";refine aU (aH (af (ae rfl (af (aC (ae rfl (ae rfl (i_rI0 (av ⟨sc,cs,st+i,?_,sqs SH hS,by omega,λc=>ap ?_⟩)))))))))
  ·congr 2;congr 1;congr 1;omega
  let I14:IvJ:=λσ' H2=>(∃c:Int,σ'=[some (.ref sc),some (.int (st:Int)),some (.ref ln),some (.ref le),some (.ref G),some (.int (0+(i:Int))),some (.int c)])/\H2=H';with_reducible refine ic I14 (λR hR=>?_) (λσ' H2 pv=>?_)
  ·walk_at "s";refine i_test (aC (aC (aH (af (ae rfl (af (i_c (av ⟨sc,cs,1,rfl,sqs SH hS,by omega,λc1=>i_c (i_rI (by decide) (i_c (i_eq rfl ⟨_,rfl,?_⟩)))⟩))))))));generalize decide (V.int (c1 % 2)=V.int 1)=bb
   cases bb with
   | false=>exact ifF rfl (s_next (hR _ _ ⟨⟨_,rfl⟩,rfl⟩))
   | true =>
   refine ifT rfl ?_;refine aU (aH (af (ae rfl (af (aC (ae rfl (ae rfl (i_rI0 (av ⟨c,st+i,?_,by omega,λc'=>ap (hR _ _ ⟨⟨_,rfl⟩,rfl⟩)⟩)))))))));congr 2;congr 1;congr 1;omega
  obtain⟨⟨c,rfl⟩,rfl⟩:=pv;refine s_drop (i_bm (ae rfl ⟨i_tyL hG',af (i_tup (af (aC (ae rfl (ae rfl (i_ixL (v:=.str x) (SqL.of (SH _ _ hn)) (by rw[Int.zero_add];exact d4 (by rw[Qk,ex];rfl)) ?_))))))⟩));refine af (aC (aH (af (ae rfl (af (ae rfl (af (i_c (av ⟨c,le,es,2,rfl,by omega,SH _ _ he,ene,ele,λt u r e H3 S3 ht hu rd rok=>i_c (ba ht rfl (av ⟨by simp[sizeLine],λb hb=>av ?_⟩))⟩)))))))));generalize hE:upd H3 b _=H4;obtain⟨S4,q4⟩:=aI hb hE;clear hE;have lgv:=aN gts;have S34:=S3.trans S4;have hG4:=S34 _ _ hG';refine jv hG4 (by omega) ?_;have kt:eN H4 (upd H4 G (.lst (gvs++[.ref b]))):=λc us e=>by rw[ao λzz=>by rw[zz,hG4]at e;cases e];exact e
  refine⟨⟨_,_,rfl⟩,aX (SH.trans S34) hG,gvs++[.ref b],gs++[(x,r)],ai,?_,by simp[lgs],?_,λg hg=>?_⟩
  ·exact gn (bU (λc us e=>kt _ _ (S34 _ _ e)) gts) ⟨b,u,rfl,kt _ _ q4,(hu.mono λc us e=>S4 _ _ e).mono kt⟩
  ·rw[Qm,nms,Q2,ex];rfl
  rcases Qt.mp hg with h|h
  ·exact ok g h
  rw[QJ]at h;rw[h];exact⟨rok,rd⟩
 obtain⟨⟨x5,x6,rfl⟩,SH,gvs,gs,hG',gts,lgs,nms,ok⟩:=pv
 try dsimp only
 rw[QF (Qi _)]at nms;exact s_ret (ae rfl (k G gvs gs H' SH hG hG' gts nms ok))
end
section
theorem kK:FnScope ["script", "cell", "first", "second", "one_in", "other_in", "one", "other"] ["script"] (am (top 55)):=by walk_at "k"
theorem qm {f:Addr} {fd:FuncData} (Fu:Fun K "_law_nets" "_law_nets" (top 55) f fd) (T:Txt K mg TT) (f_law_cell:Fn P w K mg base "_law_cell" ["script", "k"] 1 (hU K)) (f_law_gates:Fn P w K mg base "_law_gates" ["script", "start", "names", "every"] 5 (g_ K)) :
  FnOk P w K mg base CX0 6 f fd ["script"] (jP K):=by
 have S:=kK;refine Fu.ok S (by walk_at "l") (λcdv A outer s H vs Q E hr h=>?_);obtain⟨sc,cs,rfl,hS,k⟩:=h;refine'⟨?_,?bb,?_⟩
 case bb =>
  walk_at "b";exact aF 1 S.nd (au f_law_cell hr (aa (pv 0) (aa ak ad be) ah));exact aF 2 S.nd (c6 mZ (pe_lst (aa aM (aa aM ad be) be)) dS (dR (aE bN ak (aE cu (pv 1) ak))));exact aF 3 S.nd (c6 mZ (pe_lst (aa aM (aa aM ad be) be)) dS (dR (aE bN ak (aE cu (aE dn (pv 1) ak) ak))));exact aF 4 S.nd (aA cR (pe_lst (aa (pe_lst (aa aM (aa aM ad be) be)) (aa (pe_lst (aa aM ad be)) (aa (pe_lst (aa aM (aa aM ad be) be)) ad se_lst) se_lst) se_lst)) (aE cu (aE dn (pv 1) ak) ak) (λ_ _=>rfl));exact aF 5 S.nd (aA cR (pe_lst (aa (pe_lst (aa aM (aa aM ad be) be)) (aa (pe_lst (aa aM ad be)) (aa (pe_lst (aa aM (aa aM ad be) be)) ad se_lst) se_lst) se_lst)) (aE cu (aE dn (pv 1) ak) ak) (λ_ _=>rfl));exact aF 6 S.nd (pe_tup (aa (pv 4) (aa (au f_law_gates hr (aa (pv 0) (aa ak (aa (pv 2) (aa (aE c8 (pv 4) (pv 2)) ad) ah) be) ah)) ad se_call) ah));exact aF 7 S.nd (pe_tup (aa (pv 5) (aa (au f_law_gates hr (aa (pv 0) (aa ak (aa (pv 3) (aa (aE c8 (pv 5) (pv 3)) ad) ah) be) ah)) ad se_call) ah));exact(ax (pe_lst (aa (pv 6) (aa (pv 7) ad ah) ah)))
 walk_at "e";walk_at "s";refine aU (aH (af (ae rfl (af (i_c (av ⟨sc,cs,0,rfl,hS,by omega,λc=>ap ?_⟩))))));walk_at "s";refine aU (ny (j:=1+c % 2) (by omega) (λH Q q=>i_part (aC (i_c (aC (ae rfl (i_c (i_rI (by decide) (i_rI0 ⟨_,rfl,q⟩)))))))) λp1 f1 H1 S1 _ q1 hf1=>ap ?_);walk_at "s";refine aU (ny (j:=1+c / 2 % 2) (by omega) (λH Q q=>i_part (aC (i_c (aC (aC (ae rfl (i_c (i_rI ⟨by decide,by decide⟩ (i_c (i_rI (by decide) (i_rI0 ⟨_,rfl,q⟩))))))))))) λp2 f2 H2 S2 _ q2 hf2=>ap ?_);walk_at "s";refine aU (nz (j:=c / 4 % 3) qD vG qD (by omega) (λH Q q=>aC (aC (ae rfl (i_c (i_rI ⟨by decide,by decide⟩ (i_c (i_rI (by decide) q))))))) λp3 i1 H3 S3 _ q3 hi1=>ap ?_);walk_at "s";refine aU (nz (j:=c / 12 % 3) qD vG qD (by omega) (λH Q q=>aC (aC (ae rfl (i_c (i_rI ⟨by decide,by decide⟩ (i_c (i_rI (by decide) q))))))) λp4 i2 H4 S4 _ q4 hi2=>ap ?_);have lf1:1<=f1.length/\f1.length<=2:=by rcases hf1 with e|e <;> rw[e] <;> decide
 have lf2:1<=f2.length/\f2.length<=2:=by rcases hf2 with e|e <;> rw[e] <;> decide
 have li1:1<=i1.length/\i1.length<=2:=by rcases hi1 with e|e|e <;> rw[e] <;> decide
 have li2:1<=i2.length/\i2.length<=2:=by rcases hi2 with e|e|e <;> rw[e] <;> decide
 have q14:=(S2.trans (S3.trans S4)) _ _ q1;have q24:=(S3.trans S4) _ _ q2;have q34:=S4 _ _ q3;have S04:=S1.trans (S2.trans (S3.trans S4));have hS4:=sqs S04 hS;walk_at "s";refine aU (i_tup (af (ae rfl (af (aH (af (ae rfl (af (i_c (af (ae rfl (af (aC (ae rfl (ae rfl (eL q34 q14 (by simp only[Qd];omega) λe5 he5=>av ?_))))))))))))))));rw[<-Qm];generalize hE:upd H4 e5 _=H5;obtain⟨S5,q5⟩:=aI he5 hE;clear hE;refine⟨sc,cs,2,p1,e5,f1,i1++f1,rfl,sqs S5 hS4,by omega,S5 _ _ q14,by omega,q5,λe=>by rw[(List.append_eq_nil_iff.mp e).1]at li1;simp at li1,by rw[Qh];omega,λm1 v1 g1 H6 S6 _ hm1 gt1 en1 ok1=>av ⟨by simp[sizeLine],λa1 ha1=>ap ?_⟩⟩;generalize hE:upd H6 a1 _=H7;obtain⟨S7,q7⟩:=aI ha1 hE;clear hE;have S47:=S5.trans (S6.trans S7);have N1:NAt H7 a1 p3 m1 i1 v1 g1:=⟨q7,S47 _ _ q34,S7 _ _ hm1,bU (λb us e=>S7 _ _ e) gt1⟩;have q47:=S47 _ _ q4;have q27:=S47 _ _ q24;have hS7:=sqs S47 hS4;walk_at "s";refine aU (i_tup (af (ae rfl (af (aH (af (ae rfl (af (i_c (af (ae rfl (af (aC (ae rfl (ae rfl (eL q47 q27 (by simp only[Qd];omega) λe8 he8=>av ?_))))))))))))))));rw[<-Qm];generalize hE:upd H7 e8 _=H8;obtain⟨S8,q8⟩:=aI he8 hE;clear hE;refine⟨sc,cs,4,p2,e8,f2,i2++f2,rfl,sqs S8 hS7,by omega,S8 _ _ q27,by omega,q8,λe=>by rw[(List.append_eq_nil_iff.mp e).1]at li2;simp at li2,by rw[Qh];omega,λm2 v2 g2 H9 S9 _ hm2 gt2 en2 ok2=>av ⟨by simp[sizeLine],λa2 ha2=>ap ?_⟩⟩;generalize hE:upd H9 a2 _=H10;obtain⟨S10,q10⟩:=aI ha2 hE;clear hE;have S710:=S8.trans (S9.trans S10);have N2:NAt H10 a2 p4 m2 i2 v2 g2:=⟨q10,S710 _ _ q47,S10 _ _ hm2,bU (λb us e=>S10 _ _ e) gt2⟩;refine s_ret (i_lst (af (ae rfl (af (ae rfl (av ⟨by simp[sizeLine],λl hl=>?_⟩))))));have S11:=al (o:=.lst [.ref a1,.ref a2]) hl;subst en1;subst en2;exact k l a1 p3 m1 i1 v1 g1 a2 p4 m2 i2 v2 g2 _ (S04.trans (S47.trans (S710.trans S11))) ai (N1.same (S710.trans S11)) (N2.same S11) (tR hi1 hi2 hf1 hf2 ok1 ok2)
end
theorem jl:∀(j:Nat) u v,[V.str x,V.str y][j]?=some u->[V.str x,V.str y][j]?=some v->EqD K H 8 u v true:=λj u v e1 e2=>by
 match j with
 | 0=>cases e1;cases e2;exact iL rfl
 | 1=>cases e1;cases e2;exact iL rfl
 | j+2=>simp at e1
theorem gT (ns:List Str):∀(j:Nat) x y,(ns.map V.str)[j]?=some x->(ns.map V.str)[j]?=some y->EqD K H 8 x y true:=jz (bx ns)
theorem lP (n:Nat):(n==n&&(List.range n).all λ_=>true)=true:=by simp
def jL:Sp:=λvs H Q _=>∃a1 l1 m1 i1 v1 g1 a2 l2 m2 i2 v2 g2 aj lj mj z n,vs=[.ref a1,.ref a2,.ref aj,.str z,.str n,.str (bd (fl n (sgn (ac (aL i1 i2 g1 g2) (g1++g2)) z)) (ac (aL i1 i2 g1 g2) (g1++g2)))]/\Two H a1 l1 m1 i1 v1 g1 a2 l2 m2 i2 v2 g2 aj lj mj/\TwoOk i1 g1 i2 g2/\StOk (ac (aL i1 i2 g1 g2) (g1++g2)).length z /\
 (n∈aL i1 i2 g1 g2\/n∈bJ (aL i1 i2 g1 g2) (g1++g2) z)/\∀H',ar H H'->Q (.bl true) H'
def gY:Sp:=λvs H Q _=>∃a1 l1 m1 i1 v1 g1 a2 l2 m2 i2 v2 g2 aj lj mj z,vs=[.ref a1,.ref a2,.ref aj,.str z]/\Two H a1 l1 m1 i1 v1 g1 a2 l2 m2 i2 v2 g2 aj lj mj/\TwoOk i1 g1 i2 g2/\StOk (ac (aL i1 i2 g1 g2) (g1++g2)).length z/\∀H',ar H H'->Q (.bl true) H'
section
theorem f9:FnScope ["one", "other", "both", "standing", "name", "later", "names", "parts", "ahead", "due"] ["one", "other", "both", "standing", "name", "later"] (am (top 58)):=by walk_at "k"
theorem qh {f:Addr} {fd:FuncData} (Fu:Fun K "_law_step_good" "_law_step_good" (top 58) f fd) (T:Txt K mg TT) (f_law_names:Fn P w K mg base "_law_names" ["net"] 1 bA) (f_both_of:Fn P w K mg base "both_of" ["one", "other", "standing"] 13 fE) (f_law_part:Fn P w K mg base "_law_part" ["net", "names", "standing"] 2 jO) (f_law_on:Fn P w K mg base "_law_on" ["net", "standing", "name"] 15 tZ) (f_standing_of:Fn P w K mg base "standing_of" ["one", "other", "first", "second"] 13 jN) :
  FnOk P w K mg base CX0 16 f fd ["one", "other", "both", "standing", "name", "later"] jL:=by
 have S:=f9;refine Fu.ok S (by walk_at "l") (λcdv A outer s H vs Q E hr h=>?_);obtain⟨a1,l1,m1,i1,v1,g1,a2,l2,m2,i2,v2,g2,aj,lj,mj,z,n,rfl,tw,tok,st,hn,k⟩:=h;obtain⟨o1,o2,li,lg,isn,nd1,nd2⟩:=tok;refine'⟨?_,?bb,?_⟩
 case bb =>
  walk_at "b";exact aF 6 S.nd (au f_law_names hr (aa (pv 2) ad ah));exact aF 7 S.nd (au f_both_of hr (aa (pv 0) (aa (pv 1) (aa (pv 5) ad ah) ah) ah));exact aF 8 S.nd (pe_tup (aa (au f_law_part hr (aa (pv 0) (aa (pv 6) (aa (pv 3) ad ah) ah) ah)) (aa (au f_law_part hr (aa (pv 1) (aa (pv 6) (aa (pv 3) ad ah) ah) ah)) ad se_call) se_call));exact aF 9 S.nd (pe_tup (aa (au f_law_on hr (aa (pv 0) (aa (aA aB (pv 8) ak (λ_ _=>rfl)) (aa (pv 4) ad ah)) ah)) (aa (au f_law_on hr (aa (pv 1) (aa (aA aB (pv 8) ak (λ_ _=>rfl)) (aa (pv 4) ad ah)) ah)) ad se_call) se_call));exact(ax (eC (bD (p_ hr.units) (pv 7) (pv 9) (aQ _)) (c7 (bD cO (au f_standing_of hr (aa (pv 0) (aa (pv 1) (aa (aA aB (pv 7) ak (λ_ _=>rfl)) (aa (aA aB (pv 7) ak (λ_ _=>rfl)) ad)) ah) ah)) (pv 5) (aQ _)))))
 walk_at "d";have oj:=jok o1 o2 li lg;have ndj:=isn.2.2.2;have wl:=gP (aL i1 i2 g1 g2) (g1++g2);have ij:=isn.1;have gj:=isn.2.2.1;have sub1:∀m∈ac i1 g1,m∈ac (aL i1 i2 g1 g2) (g1++g2):=λm hm=>eJ (.inl hm);have sub2:∀m∈ac i2 g2,m∈ac (aL i1 i2 g1 g2) (g1++g2):=λm hm=>eJ (.inr hm);have back:∀m∈ac (aL i1 i2 g1 g2) (g1++g2),m∈ac i1 g1\/m∈ac i2 g2:=λm hm=>qJ hm;have zs:=fH ndj st;rw[fo,nN,Qt]at hn;have thS:StOk (ac (aL i1 i2 g1 g2) (g1++g2)).length (bd (fl n (sgn (ac (aL i1 i2 g1 g2) (g1++g2)) z)) (ac (aL i1 i2 g1 g2) (g1++g2))):=fi _ _;generalize hF:sgn (ac (aL i1 i2 g1 g2) (g1++g2)) z=F at *
 have ndg:((g1++g2).map (·.1)).Nodup:=by
  have h:=ndj;unfold ac at h;exact(List.nodup_append.mp h).2.1
 have apart:∀m,m∈aL i1 i2 g1 g2->m∉(g1++g2).map (·.1):=λm hm hg=>by
  have h:=ndj;unfold ac at h;exact(List.nodup_append.mp h).2.2 m hm m hg rfl
 have apart2:∀m,m∈g1.map (·.1)->m∉g2.map (·.1):=λm h1 h2=>by
  rw[Qm]at ndg;exact(List.nodup_append.mp ndg).2.2 m h1 m h2 rfl
 have as1:n∈g1.map (·.1)->n∈eU F g1:=λh=>by
  rcases hn with q|q|q
  ·exact absurd (by rw[Qm];exact Qt.mpr (.inl h)) (apart n q)
  ·exact q
  exact absurd (mO q) (apart2 n h)
 have as2:n∈g2.map (·.1)->n∈eU F g2:=λh=>by
  rcases hn with q|q|q
  ·exact absurd (by rw[Qm];exact Qt.mpr (.inr h)) (apart n q)
  ·exact absurd h (apart2 n (mO q))
  exact q
 generalize hth:bd (fl n F) (ac (aL i1 i2 g1 g2) (g1++g2))=there at *;rw[show L2.start ["one", "other", "both", "standing", "name", "later", "names", "parts", "ahead", "due"] [V.ref a1,V.ref a2,V.ref aj,V.str z,V.str n,V.str there]=[some (.ref a1),some (.ref a2),some (.ref aj),some (.str z),some (.str n),some (.str there),none,none,none,none] from rfl];walk_at "s";refine aU (aH (af (ae rfl (av ⟨aj,lj,mj,_,_,_,rfl,tw.J,oj,λl H1 S1 _ hl=>ap ?_⟩))));have tw1:=tw.same S1;walk_at "s";refine aU (aH (af (ae rfl (af (ae rfl (af (ae rfl (av ⟨a1,l1,m1,i1,v1,g1,a2,l2,m2,i2,v2,g2,there,rfl,tw1.N1,tw1.N2,o1,o2,li,lg,isn,thS,λpp H2 S2 hp=>ap ?_⟩))))))));rw[<-hth,ng sub1,ng sub2]at hp;have tw2:=tw1.same S2;walk_at "s";refine aU (i_tup (af (aH (af (ae rfl (af (ae rfl (af (ae rfl (av ⟨a1,l1,m1,i1,v1,g1,l,_,z,rfl,tw2.N1,o1,S2 _ _ hl,ndj,st,by omega,sub1,λH3 S3=>?_⟩))))))))));have tw3:=tw2.same S3;refine af (aH (af (ae rfl (af (ae rfl (af (ae rfl (av ⟨a2,l2,m2,i2,v2,g2,l,_,z,rfl,tw3.N2,o2,(S2.trans S3) _ _ hl,ndj,st,by omega,sub2,λH4 S4=>av ⟨by simp[sizeLine],λt ht=>ap ?_⟩⟩))))))));rw[hF];generalize hE:upd H4 t _=H5;obtain⟨S5,q5⟩:=aI ht hE;clear hE;have S35:=S4.trans S5;have tw5:=tw3.same S35;walk_at "s";refine aU (i_tup (af (aH (af (ae rfl (af (aC (ae rfl (i_c (ba q5 rfl (af (ae rfl (av ⟨a1,l1,m1,i1,v1,g1,F,n,rfl,tw5.N1,o1,nd1,as1,λH6 S6=>?_⟩)))))))))))));have tw6:=tw5.same S6;refine af (aH (af (ae rfl (af (aC (ae rfl (i_c (ba (S6 _ _ q5) rfl (af (ae rfl (av ⟨a2,l2,m2,i2,v2,g2,F,n,rfl,tw6.N2,o2,nd2,as2,λH7 S7=>av ⟨by simp[sizeLine],λt2 ht2=>ap ?_⟩⟩)))))))))));generalize hE:upd H7 t2 _=H8;obtain⟨S8,q8⟩:=aI ht2 hE;clear hE;have S28:=S3.trans (S35.trans (S6.trans (S7.trans S8)));have hp8:=S28 _ _ hp;have tw8:=tw2.same S28
 try dsimp only
 refine s_ret (i_andV (aC (ae rfl (ae rfl ⟨pp,t2,_,_,λ_=>true,rfl,rfl,SqT.of hp8,SqT.of q8,jl,⟨_,rfl,bO ?_⟩⟩))));refine aC (aH (af (ae rfl (af (ae rfl (af (aC (ae rfl (i_c (ba hp8 rfl (af (aC (ae rfl (i_c (ba hp8 rfl (av ?_))))))))))))))));refine⟨a1,l1,m1,i1,v1,g1,a2,l2,m2,i2,v2,g2,_,_,rfl,tw8.N1,tw8.N2,o1,o2,li,lg,isn,nd1,nd2,fi _ _,fi _ _,kS _ _ _,λH9 S9=>?_⟩;rw[kR back,hth];refine ae rfl (i_eq rfl ?_);rw[Qy rfl];exact k H9 (S1.trans (S2.trans (S28.trans S9)))
theorem eA:FnScope ["one", "other", "both", "standing", "names", "ahead", "due"] ["one", "other", "both", "standing"] (am (top 59)):=by walk_at "k"
theorem ou {f:Addr} {fd:FuncData} (Fu:Fun K "_law_standing_good" "_law_standing_good" (top 59) f fd) (T:Txt K mg TT) (f_law_names:Fn P w K mg base "_law_names" ["net"] 1 bA) (f_both_of:Fn P w K mg base "both_of" ["one", "other", "standing"] 13 fE) (f_law_part:Fn P w K mg base "_law_part" ["net", "names", "standing"] 2 jO) (f_asked_gates:Fn P w K mg base "asked_gates" ["net", "standing"] 13 dj) (f_law_asked:Fn P w K mg base "_law_asked" ["net", "standing"] 11 dj) :
  FnOk P w K mg base CX0 14 f fd ["one", "other", "both", "standing"] gY:=by
 have S:=eA;refine Fu.ok S (by walk_at "l") (λcdv A outer s H vs Q E hr h=>?_);obtain⟨a1,l1,m1,i1,v1,g1,a2,l2,m2,i2,v2,g2,aj,lj,mj,z,rfl,tw,tok,st,k⟩:=h;obtain⟨o1,o2,li,lg,isn,nd1,nd2⟩:=tok;refine'⟨?_,?bb,?_⟩
 case bb =>
  walk_at "b";exact aF 4 S.nd (au f_law_names hr (aa (pv 2) ad ah));exact aF 5 S.nd (pe_tup (aa (au f_law_part hr (aa (pv 0) (aa (pv 4) (aa (pv 3) ad ah) ah) ah)) (aa (au f_law_part hr (aa (pv 1) (aa (pv 4) (aa (pv 3) ad ah) ah) ah)) ad se_call) se_call));exact aF 6 S.nd (aE c8 (au f_asked_gates hr (aa (pv 0) (aa (aA aB (pv 5) ak (λ_ _=>rfl)) ad) ah)) (au f_asked_gates hr (aa (pv 1) (aa (aA aB (pv 5) ak (λ_ _=>rfl)) ad) ah)));exact(ax (eC (bD (p_ hr.units) (au f_both_of hr (aa (pv 0) (aa (pv 1) (aa (pv 3) ad ah) ah) ah)) (pv 5) (aQ _)) (c7 (pV (mm hr.units) (mm hr.units) (au f_asked_gates hr (aa (pv 2) (aa (pv 3) ad ah) ah)) (pv 6) (au f_law_asked hr (aa (pv 2) (aa (pv 3) ad ah) ah))))))
 walk_at "e";have oj:=jok o1 o2 li lg;have ndj:=isn.2.2.2;have wl:=gP (aL i1 i2 g1 g2) (g1++g2);have ij:=isn.1;have gj:=isn.2.2.1;have sub1:∀m∈ac i1 g1,m∈ac (aL i1 i2 g1 g2) (g1++g2):=λm hm=>eJ (.inl hm);have sub2:∀m∈ac i2 g2,m∈ac (aL i1 i2 g1 g2) (g1++g2):=λm hm=>eJ (.inr hm);have zs:=fH ndj st;have a1l:=kj (sgn (ac (aL i1 i2 g1 g2) (g1++g2)) z) g1;have a2l:=kj (sgn (ac (aL i1 i2 g1 g2) (g1++g2)) z) g2;generalize hF:sgn (ac (aL i1 i2 g1 g2) (g1++g2)) z=F at *;have az:bJ (aL i1 i2 g1 g2) (g1++g2) z=eU F g1++eU F g2:=by rw[<-zs,eS oj,nN]
 walk_at "s";refine aU (aH (af (ae rfl (av ⟨aj,lj,mj,_,_,_,rfl,tw.J,oj,λl H1 S1 _ hl=>ap ?_⟩))));have tw2:=tw.same S1;walk_at "s";refine aU (i_tup (af (aH (af (ae rfl (af (ae rfl (af (ae rfl (av ⟨a1,l1,m1,i1,v1,g1,l,_,z,rfl,tw2.N1,o1,hl,ndj,st,by omega,sub1,λH3 S3=>?_⟩))))))))));have tw3:=tw2.same S3;refine af (aH (af (ae rfl (af (ae rfl (af (ae rfl (av ⟨a2,l2,m2,i2,v2,g2,l,_,z,rfl,tw3.N2,o2,S3 _ _ hl,ndj,st,by omega,sub2,λH4 S4=>av ⟨by simp[sizeLine],λt ht=>ap ?_⟩⟩))))))));rw[hF];generalize hE:upd H4 t _=H5;obtain⟨S5,q5⟩:=aI ht hE;clear hE;have S35:=S4.trans S5;have tw5:=tw3.same S35;walk_at "s";refine aU (aC (aH (af (ae rfl (af (aC (ae rfl (i_c (ba q5 rfl (av ⟨a1,l1,m1,i1,v1,g1,_,rfl,tw5.N1,o1,nd1,fi _ _,λp6 H6 S6 _ h6=>?_⟩))))))))));rw[eS o1]at h6;have tw6:=tw5.same S6;refine aH (af (ae rfl (af (aC (ae rfl (i_c (ba (S6 _ _ q5) rfl (av ⟨a2,l2,m2,i2,v2,g2,_,rfl,tw6.N2,o2,nd2,fi _ _,λp7 H7 S7 _ h7=>?_⟩))))))));rw[eS o2]at h7;refine eL (S7 _ _ h6) h7 (by simp only[Qd];omega) λp8 hp8=>ap ?_;rw[<-Qm,<-az];generalize hE:upd H7 p8 _=H8;obtain⟨S8,q8⟩:=aI hp8 hE;clear hE;have S58:=S6.trans (S7.trans S8);have tw8:=tw5.same S58;have q58:=S58 _ _ q5
 try dsimp only
 refine s_ret (i_andV (aC (aH (af (ae rfl (af (ae rfl (af (ae rfl (av ⟨a1,l1,m1,i1,v1,g1,a2,l2,m2,i2,v2,g2,z,rfl,tw8.N1,tw8.N2,o1,o2,li,lg,isn,st,λpp H9 S9 hp=>ae rfl ?_⟩))))))))));rw[hF]at hp;refine⟨pp,t,_,_,λ_=>true,rfl,rfl,SqT.of hp,SqT.of (S9 _ _ q58),jl,⟨_,rfl,bO ?_⟩⟩;have tw9:=tw8.same S9;refine kb (aH (af (ae rfl (af (ae rfl (av ⟨aj,lj,mj,_,_,_,z,rfl,tw9.J,oj,ndj,st,λp10 H10 S10 _ h10=>ae rfl ?_⟩))))));have q10:=(S9.trans S10) _ _ q8;refine⟨p10,p8,_,_,λ_=>true,rfl,rfl,SqL.of h10,SqL.of q10,gT _,⟨_,rfl,?_⟩⟩;rw[lP];refine bO (aH (af (ae rfl (af (ae rfl (av ⟨aj,lj,mj,_,_,_,z,rfl,tw9.J.same S10,oj,ndj,st,λp11 H11 S11 _ h11=>?_⟩))))));refine⟨p8,p11,_,_,λ_=>true,rfl,rfl,SqL.of (S11 _ _ q10),SqL.of h11,gT _,?_⟩;rw[lP];exact k H11 (S1.trans (S3.trans (S35.trans (S58.trans (S9.trans (S10.trans S11))))))
end
theorem dW {T:List Nat}:∀(zs:List Str),(∀z∈zs,∃c∈T,z=⟨#[c]⟩)->((zs.map (·.cps.toList)).flatten).length=zs.length/\(∀c∈(zs.map (·.cps.toList)).flatten,c∈T)/\(zs.map (·.length)).sum=zs.length
 | [],_=>⟨rfl,λc h=>(List.not_mem_nil h).elim,rfl⟩
 | z::zs,h=>by
  obtain⟨c,hc,rfl⟩:=h z (by simp);obtain⟨e1,e2,e3⟩:=dW zs λz hz=>h z (Qv _ hz);refine⟨?_,λd hd=>?_,?_⟩
  ·simp only[Qs,List.flatten_cons,Qh,e1,QM];show (#[c]:Array Nat).toList.length+zs.length=_;simp;omega
  ·simp only[Qs,List.flatten_cons,Qt]at hd;rcases hd with hd|hd
   ·have:d=c:=by simpa using hd
    rw[this];exact hc
   exact e2 d hd
  simp only[Qs,List.sum_cons,QM,e3];show (#[c]:Array Nat).size+zs.length=_;simp;omega
theorem oK {T:List Nat} (h:∀z∈zs,∃c∈T,z=⟨#[c]⟩):(Txt.join Str.empty zs).cps.size=zs.length/\∀c∈(Txt.join Str.empty zs).cps.toList,c∈T:=by
 obtain⟨e1,e2,_⟩:=dW zs h;rw[<-QA,jx];exact⟨e1,e2⟩
theorem sG {r:Int} (h0:0<=r) (h1:r<t.cps.size):∃c,atI t.cps.toList r=some c/\c∈t.cps.toList:=by
 have hr:r.toNat<t.cps.toList.length:=by rw[QA];omega
 refine⟨t.cps.toList[r.toNat],?_,List.getElem_mem hr⟩;have e:r=((r.toNat:Nat):Int):=by omega
 have q:=d4 (xs:=t.cps.toList) (j:=r.toNat) (v:=t.cps.toList[r.toNat]) (Qe hr);rw[<-e]at q;exact q
theorem rL {R:Bool->Hp->Prop} {l:Addr} {xs:List V} {σ:L2.St} (hl:H l=some (.lst xs)) (q:∀H',ar H H'->R (!decide (xs.length=0)) H'):kq gz σ H λy H2=>pI K true (.ref l) y H2 λx H'=>∃k,x=.bl k/\R k H':=by
 refine i_lst (av ⟨by simp[sizeLine],λp hp=>?_⟩);refine⟨l,p,xs,[],λ_=>true,rfl,rfl,SqL.of (al hp _ _ hl),SqL.of ai,λj x y _ e=>by simp at e,_,rfl,?_⟩
 have e:(if true=true then !(xs.length==([]:List V).length&&(List.range xs.length).all λ_=>true) else (xs.length==([]:List V).length&&(List.range xs.length).all λ_=>true))=!decide (xs.length=0):=by
  rw[QC rfl,iV,Bool.and_true];rfl
 rw[e];exact q _ (al hp)
theorem kz {xs:List V} (tb:eV T l H) (h:SqL K H a xs) (k:∀o,H a=some o->a≠T->H' a=some o):SqL K H' a xs:=by
 rcases h with h|h
 ·left
  rcases h with e|⟨o,e⟩
  ·exact .inl (k _ e (ji tb e λ_ z=>nomatch z))
  exact .inr ⟨o,k _ e (ji tb e λ_ z=>nomatch z)⟩
 exact .inr h
theorem qC (h:NAt H a li lg ins gvs gs) (h':NAt H a' li' lg' ins gvs gs) :
  ∀(j:Nat) x y,[V.ref li',V.ref lg'][j]?=some x->[V.ref li,V.ref lg][j]?=some y->EqD K H 8 x y true:=λj x y e1 e2=>by
 match j with
 | 0=>cases e1;cases e2;exact lD (n:=7) (SqL.of h'.hi) (SqL.of h.hi) rfl (jz (bx ins))
 | 1 =>
  cases e1;cases e2;refine lD (n:=7) (SqL.of h'.hg) (SqL.of h.hg) rfl (λj x y e1 e2=>?_);rw[e1]at e2;cases e2;obtain⟨b,rfl⟩:=iJ h.gates x (Qq e1);exact .same
 | j+2=>simp at e1
def jc (ins:List Str) (gs:List (Str × Rl)) (z:Str):Prop:=∃R:Str->Prop,R z/\(∀y,R y->∀p∈aJ ins gs y,R p.2)/\∀y,R y->eg ins gs y=[]
theorem nL (h:tL ins gs z none):jc ins gs z:=by
 obtain⟨xs,m,h⟩:=h;exact⟨(·∈xs),Qq m.zero,λy hy p hp=>m.closed hy hp,λy hy=>List.head?_eq_none_iff.mp (h y hy)⟩
theorem jc.step (h:jc ins gs z) (hp:p∈aJ ins gs z):jc ins gs p.2:=by
 obtain⟨R,r0,r1,r2⟩:=h;exact⟨R,r1 z r0 p hp,r1,r2⟩
theorem jc.keeps (h:jc ins gs z) (hp:p∈aJ ins gs z) (hc:c∈iU ins gs z) (ne:c≠p.1):c∈iU ins gs p.2:=by
 obtain⟨R,r0,_,r2⟩:=h;refine Decidable.byContradiction λno=>?_
 have:(c,p.1)∈eg ins gs z:=by
  unfold eg;refine List.mem_flatMap.mpr ⟨c,hc,List.mem_filterMap.mpr ⟨p,hp,?_⟩⟩;unfold fS;rw[QC ⟨λe=>ne e.symm,no⟩]
 rw[r2 z r0]at this;cases this
def mY (K:PySem.W.Frag) (TL:Addr):Sp:=λvs H Q _=>∃(a:Addr) (ns:List Int),vs=[.ref a]/\SqL K H a (ns.map V.int)/\ns.length<=63/\eV TL ek H/\∀H',Q (.bl true) H'
section
theorem t5:FnScope ["script", "one", "other", "both", "gates", "inputs", "name", "standing", "calm", "turn", "some", "every", "cell", "later", "after", "hushed"] ["script"] (am (top 60)):=by walk_at "k"
theorem qo {TL:Addr} {f:Addr} {fd:FuncData} (Fu:Fun K "law" "law" (top 60) f fd) (T:Txt K mg TT) (f_law_nets:Fn P w K mg base "_law_nets" ["script"] 6 (jP K)) (f_nets_joined:Fn P w K mg base "nets_joined" ["one", "other"] 12 gZ) (f_wires_of:Fn P w K mg base "wires_of" ["net"] 2 bA) (f_law_names:Fn P w K mg base "_law_names" ["net"] 1 bA) (f_law_cell:Fn P w K mg base "_law_cell" ["script", "k"] 1 (hU K))
  (f_first_race:Fn P w K mg base "first_race" ["net", "standing"] 16 (jM TL)) (f_law_standing_good:Fn P w K mg base "_law_standing_good" ["one", "other", "both", "standing"] 14 gY) (f_asked_gates:Fn P w K mg base "asked_gates" ["net", "standing"] 13 dj) (f_law_turned:Fn P w K mg base "_law_turned" ["net", "standing", "name"] 2 fY) (f_law_asked:Fn P w K mg base "_law_asked" ["net", "standing"] 11 dj)
  (f_law_step_good:Fn P w K mg base "_law_step_good" ["one", "other", "both", "standing", "name", "later"] 16 jL):FnOk P w K mg base CX0 17 f fd ["script"] (mY K TL):=by
 have S:=t5;refine Fu.ok S (by walk_at "l") (λcdv A outer s H vs Q E hr h=>?_);obtain⟨sc,cells,rfl,hS,hlen,tb,k⟩:=h;refine'⟨?_,?bb,?_⟩
 case bb =>
  walk_at "b";exact(mi (au f_law_nets hr (aa (pv 0) ad ah)) (rS rfl (aY (bW 1 S.nd) (aY (bW 2 S.nd) cE))));exact aF 3 S.nd (au f_nets_joined hr (aa (pv 1) (aa (pv 2) ad ah) ah));exact aF 4 S.nd (aE c8 (aA aB (pv 1) ak (λ_ _=>rfl)) (aA aB (pv 2) ak (λ_ _=>rfl)));exact aF 5 S.nd (pe_lst ad);walk_at "f";exact(bh (aE c8 (aA aB (pv 1) ak (λ_ _=>rfl)) (aA aB (pv 2) ak (λ_ _=>rfl))));exact(bW 6 S.nd);walk_at "p";exact(PW.pt (gc (aG bE (pv 6) (pv 5) rfl) (fJ (aG bE (pv 6) (cM (tgs:=["gate", "rule"]) (cap:=[]) rfl ⟨rfl,rfl,rfl,rfl,rfl,rfl⟩ (bh (pv 4)) (λ_ _ _ _=>(gK (K:=K) (n:=2) rfl rfl (aY (aZ (i:=0) (show List.Nodup [("gate" : Str),("rule" : Str)] by decide +kernel) rfl (by walk_at "z")) (aY (aZ (i:=1) (show List.Nodup [("gate" : Str),("rule" : Str)] by decide +kernel) rfl (by walk_at "z")) cE)))) (λ_ _ _ _=>br) (λ_ _ _ _=>(pv 0))) rfl))));exact(bB (d_ QX xb xf bZ (pv 5) (aa (pv 6) ad ah)));exact(PW.pt (d9 (aG (ul hr.units) (pv 3) (pe_tup (aa (pv 5) (aa (pv 4) ad ah) ah)) (aQ _)) (du (aG (pY hr.units) (au f_wires_of hr (aa (pv 3) ad ah)) (au f_law_names hr (aa (pv 3) ad ah)) (aQ _)))));exact(ax cN);exact aF 7 S.nd (d_ PySem.F.plainAttrs_str PySem.F.slot_str_join PySem.F.type_str_join j6 aM (aa (cM (tgs:=["k"]) (cap:=[("script", 0)]) rfl ⟨rfl,rfl,rfl,rfl,rfl,rfl⟩ (ge (by rfl) T.n_range (aa (aD aK (by rfl) T.n_len QH (aa (au f_law_names hr (aa (pv 3) ad ah)) ad se_call)) ad se_call)) (λ_ _ _ _=>(aZ (i:=0) (show List.Nodup [("k" : Str),("script" : Str)] by decide +kernel) rfl (by walk_at "z"))) (λ_ _ _ _=>br) (λ_ _ _ _=>(aA fj aM (aE cu (aE dn (au f_law_cell hr (aa (pv 1) (aa ak ad be) ah)) (aE bN ak (aE dv ak (pv 0)))) ak) (λ_ _=>rfl)))) ad));exact aF 8 S.nd (bD pZ (au f_first_race hr (aa (pv 3) (aa (pv 7) ad ah) ah)) iz rfl);walk_at "f";exact(ge (by rfl) T.n_range (aa ak ad be));exact(bW 9 S.nd);walk_at "p";exact(bM (bL (au f_law_standing_good hr (aa (pv 1) (aa (pv 2) (aa (pv 3) (aa (pv 7) ad ah) ah) ah) ah))));exact(ax cN);exact aF 10 S.nd (au f_asked_gates hr (aa (pv 3) (aa (pv 7) ad ah) ah));exact aF 11 S.nd (aE c8 (pv 10) (aA aB (pv 3) ak (λ_ _=>rfl)));exact(aG (mm hr.units) (pv 11) (pe_lst ad) (aQ _));exact(ax cN);exact aF 12 S.nd (au f_law_cell hr (aa (pv 0) (aa (aE bN ak (aE cu (pv 9) ak)) ad) ah));exact aF 6 S.nd (aA cR (pv 11) (aE cu (aE bN (aE dn (pv 12) (aE bN (pv 9) ak)) (aE dn (pv 12) ak)) (aD aK (by rfl) T.n_len QH (aa (pv 11) ad ah))) (λ_ _=>rfl));exact aF 13 S.nd (au f_law_turned hr (aa (pv 3) (aa (pv 7) (aa (pv 6) ad ah) ah) ah));exact aF 14 S.nd (au f_law_asked hr (aa (pv 3) (aa (pv 13) ad ah) ah));exact(u4 (j:=15) S.nd rfl (by walk_at "z") (tgs:=["gate"]) (cap:=[("name", 6),("after", 14)]) rfl ⟨rfl,rfl,rfl,rfl,rfl,rfl⟩ (bh (pv 10)) (λ_ _ _ _=>(aZ (i:=0) (show List.Nodup [("gate" : Str),("name" : Str),("after" : Str)] by decide +kernel) rfl (by walk_at "z"))) (λ_ _ _ _=>(iy (PW.pt (gc (aG gp (pv 0) (pv 1) (aQ _)) (fJ (aG (eX (K:=K) rfl) (pv 0) (pv 2) rfl)))))) (λ_ _ _ _=>(pv 0)));exact(PW.pt (gc (aG dI (pv 6) (pv 10) rfl) (gc (bL (pv 8)) (fJ (aG (pY hr.units) (pv 15) (pe_lst ad) (aQ _))))));exact(ax cN);exact(bM (bL (au f_law_step_good hr (aa (pv 1) (aa (pv 2) (aa (pv 3) (aa (pv 7) (aa (pv 6) (aa (pv 13) ad ah) ah) ah) ah) ah) ah))));exact(ax cN);exact aF 8 S.nd (pS (eC (pv 8) (c7 (bD dI (pv 6) (pv 10) rfl))) (c7 (bD pZ (au f_first_race hr (aa (pv 3) (aa (pv 13) ad ah) ah)) iz rfl)));exact aF 7 S.nd (pv 13);exact(ax cN)
 walk_at "e";walk_at "s";refine aU (aH (af (ae rfl (av ⟨sc,cells,rfl,hS,λl a1 l1 m1 i1 v1 g1 a2 l2 m2 i2 v2 g2 H1 S1 hl N1 N2 tok=>?_⟩))));refine⟨l,_,rfl,SqL.of hl,rfl,?_⟩;refine⟨_,_,rfl,ap ⟨_,_,rfl,ap ⟨rfl,?_⟩⟩⟩;obtain⟨o1,o2,li,lg,isn,nd1,nd2⟩:=id tok;have oj:=jok o1 o2 li lg;have ndj:=isn.2.2.2;have wl:=gP (aL i1 i2 g1 g2) (g1++g2);have ij:=isn.1;have gj:=isn.2.2.1;have lv1:=aN N1.gates;have lv2:=aN N2.gates;rw[Qh]at gj;walk_at "s";refine aU (aH (af (ae rfl (af (ae rfl (av ⟨a1,l1,m1,i1,v1,g1,a2,l2,m2,i2,v2,g2,rfl,N1,N2,o1,o2,li,lg,isn,λaj lj mj H2 S2 _ _ _ J=>ap ?_⟩))))));have N12:=N1.same S2;have N22:=N2.same S2;walk_at "s";refine aU (aC (aC (ae rfl (i_c (ba N12.ha rfl (aC (ae rfl (i_c (ba N22.ha rfl (eL N12.hg N22.hg (by omega) λG hG=>ap ?_))))))))));generalize hE:upd H2 G _=H3;obtain⟨S3,q3⟩:=aI hG hE;clear hE;walk_at "s";refine aU (i_lst (av ⟨by simp[sizeLine],λI hI=>ap ?_⟩));generalize hE:upd H3 I _=H4;obtain⟨S4,q4⟩:=aI hI hE;clear hE;have S24:=S3.trans S4;have N14:=N12.same S24;have N24:=N22.same S24;have q34:=S4 _ _ q3;have gts:Paired (GAt H4) (v1++v2) (g1++g2):=(J.same S24).gates;have IG:I≠G:=λe=>by rw[e,q3]at hI;cases hI
 walk_at "s";refine s_for (s_list (aC (aC (ae rfl (i_c (ba N14.ha rfl (aC (ae rfl (i_c (ba N24.ha rfl (eL N14.hi N24.hi (by simp only[Qd];omega) λC hC=>?_)))))))))));rw[<-Qm];generalize hE:upd H4 C _=H5;obtain⟨S5,q5⟩:=aI hC hE;clear hE;have CI:C≠I:=λe=>by rw[e,q4]at hC;cases hC
 refine⟨C,rfl,⟨_,SqL.of q5⟩,?_⟩;let I15:IvF:=λj σ H'=>(∃x6,σ=[some (.ref sc),some (.ref a1),some (.ref a2),some (.ref aj),some (.ref G),some (.ref I),x6,none,none,none,none,none,none,none,none,none])/\(∀b o,b≠I->H5 b=some o->H' b=some o)/\ar H3 H'/\H' I=some (.lst ((bQ ((g1++g2).map (·.1)) ((i1++i2).take j)).map V.str));refine dJ (xs:=(i1++i2).map V.str) I15 ⟨⟨_,rfl⟩,λb o _ e=>e,S4.trans S5,by rw[S5 _ _ q4];rfl⟩ (λj σ H' _ pv=>SqL.of (pv.2.1 _ _ CI q5)) (λj v σ H' hv pv=>?_) (λσ H' pv=>?_)
 ·obtain⟨⟨x6,rfl⟩,kp,S3',hI'⟩:=pv;rw[Qk]at hv
  cases ex:(i1++i2)[j]? with
  | none=>rw[ex]at hv;cases hv
  | some x =>
  rw[ex]at hv;cases hv;have lt:=iG (ms:=(g1++g2).map (·.1)) ex
  have ll:(bQ ((g1++g2).map (·.1)) ((i1++i2).take j)).length<=(i1++i2).length:=by
   have:=eP ((g1++g2).map (·.1)) ((i1++i2).take j) [];unfold bQ;rw[QL]at this;simp only[Q6]at this;omega
  rw[Qh]at ll;refine ap ?_;walk_at "s";with_reducible refine i_and ?_
  refine i_test (aC (ae rfl (ae rfl (eK (SqL.of hI') ⟨_,rfl,?_⟩))));by_cases c1:x∈bQ ((g1++g2).map (·.1)) ((i1++i2).take j)
  ·rw[Qy c1];refine ifF rfl (ifF rfl ?_);walk_at "s";rw[QC (.inr c1)]at lt;exact⟨⟨_,rfl⟩,kp,S3',by rw[lt];exact hI'⟩
  rw[Qo c1];refine ifT rfl ?_;refine i_test (aC (ae rfl ?_));refine kf (λR q=>ae rfl q) (S3' _ _ q3) (bU (λb us e=>S3' _ _ e) ((J.same S3).gates)) (by rw[Qh];omega) λD H6 hD S6 h6=>?_;refine eK (SqL.of h6) ⟨_,rfl,?_⟩;have hI6:=S6 _ _ hI';by_cases c2:x∈(g1++g2).map (·.1)
  ·rw[Qy c2];refine ifF rfl ?_;walk_at "s";rw[QC (.inl c2)]at lt;exact⟨⟨_,rfl⟩,λb o n e=>S6 _ _ (kp b o n e),S3'.trans S6,by rw[lt];exact hI6⟩
  rw[Qo c2];refine ifT rfl ?_;rw[Qz (λe=>e.elim c2 c1)]at lt;refine s_drop (i_bm (ae rfl ⟨i_tyL hI6,af (ae rfl (av (jv hI6 (by rw[Qd];omega) ?_)))⟩));exact⟨⟨_,rfl⟩,λb o n e=>by rw[ao n];exact S6 _ _ (kp b o n e),aX (S3'.trans S6) hI,by rw[ai,lt,show ∀(q:List Str),(q++[x]).map V.str=q.map V.str++[V.str x] from λq=>Qm]⟩
 obtain⟨⟨x6,rfl⟩,kp,S36,hI6⟩:=pv;rw[Qd,QF (Qi _)]at hI6
 try dsimp only
 have S26:=S3.trans S36;have tw6:Two H' a1 l1 m1 i1 v1 g1 a2 l2 m2 i2 v2 g2 aj lj mj:=⟨N12.same S26,N22.same S26,J.same S26⟩;have q36:=S36 _ _ q3;have hS6:=sqs (S1.trans (S2.trans S26)) hS;have tb6:=dh tb (S1.trans (S2.trans S26));clear N14 N24 gts;walk_at "s";walk_at "s";walk_at "s";refine i_test (aC (ae rfl (i_tup (af (ae rfl (af (ae rfl (av ⟨by simp[sizeLine],λt ht=>?_⟩))))))));generalize hE:upd H' t _=H7;obtain⟨S7,q7⟩:=aI ht hE;clear hE;have tw7:=tw6.same S7;have NG:NAt H7 t I G (aL i1 i2 g1 g2) (v1++v2) (g1++g2):=⟨q7,S7 _ _ hI6,S7 _ _ q36,tw7.J.gates⟩;refine vM (SqT.of tw7.J.ha) (SqT.of q7) rfl (qC NG tw7.J) ⟨_,rfl,cz ?_⟩;refine i_test (aC (aH (af (ae rfl (av ⟨aj,lj,mj,_,_,_,rfl,tw7.J,oj,λp8 H8 S8 _ h8=>?_⟩)))));refine aH (af (ae rfl (av ⟨aj,lj,mj,_,_,_,rfl,tw7.J.same S8,oj,λp9 H9 S9 _ h9=>?_⟩)));refine vN (SqL.of (S9 _ _ h8)) (SqL.of h9) rfl (gT _) ⟨_,rfl,cz ?_⟩;walk_at "s";have S69:=S7.trans (S8.trans S9);have tw9:=tw6.same S69;have hS9:=sqs S69 hS6;have tb9:=dh tb6 S69;walk_at "s";refine aU (i_bm (i_c ⟨qK,?_⟩));refine af (i_comp (s_rng1 (af (i_cb (af (aH (af (ae rfl (av ⟨aj,lj,mj,_,_,_,rfl,tw9.J,oj,λp10 H10 S10 _ h10=>?_⟩)))))))));refine av ⟨p10,_,rfl,.inl (SqL.of h10),av ⟨_,rfl,by rw[Qd];omega,by rw[Qd];omega,λL hL=>?_⟩⟩;rw[Qd,Int.toNat_natCast];let I16:IvC:=λn H' ys=>ar H10 H'/\H' L=some (.lst ys)/\∃zs:List Str,ys=zs.map V.str/\zs.length=n/\∀z∈zs,∃c∈("01" : Str).cps.toList,z=⟨#[c]⟩;refine mI (n:=(ac (aL i1 i2 g1 g2) (g1++g2)).length) I16 ⟨al hL,ai,[],rfl,rfl,λz h=>nomatch h⟩ (λn H' ys p=>p.2.1) (λn H' ys hn p=>?_) (λH11 ys p=>?_)
 ·obtain⟨S11,hd,zs,rfl,lz,hz⟩:=p;refine ap ⟨by repeat' (first|exact trivial|refine⟨rfl,?_⟩),i_yes (bO ?_)⟩;refine aC (i_c (aC (aC (aH (af (ae rfl (af (i_c (av ⟨sc,cells,1,rfl,sqs (S10.trans S11) hS9,by omega,λc=>?_⟩)))))))));refine aC (i_c (aC (i_c (ae rfl (i_rI (.inl ⟨by decide,by decide⟩) (i_rI0 (i_rI ⟨by omega,by omega⟩ (i_c (i_rI (by decide) ?_)))))))));have z2:(("01" : Str).cps.size:Int)=2:=by decide +kernel
  generalize c / (2+3*(0+(n:Int)))=cc;obtain⟨u,e,hu⟩:=sG (t := "01") (r:=cc % 2) (by omega) (by rw[z2];omega);refine gq (by decide +kernel) e ?_;refine bS.mk hd hn (by rw[Qd];omega) ⟨aX S11 hL,ai,zs++[⟨#[u]⟩],by rw[Qm];rfl,by rw[Qh,lz];rfl,λz hz'=>?_⟩;rcases Qt.mp hz' with h|h
  ·exact hz z h
  rw[QJ]at h;exact⟨u,hu,h⟩
 obtain⟨S11,hd,zs,rfl,lz,hz⟩:=p;obtain⟨e1,e2⟩:=oK hz;obtain⟨_,_,e3⟩:=dW zs hz;refine av ⟨"", L,zs,rfl,rfl,SqL.of hd,?_,?_⟩
 ·have:("" : Str).length=0:=by decide +kernel
  rw[e3,this];omega
 have e0:("" : Str)=Str.empty:=by decide +kernel
 rw[e0];have st:StOk (ac (aL i1 i2 g1 g2) (g1++g2)).length (Txt.join Str.empty zs):=⟨by rw[e1,lz],λc hc'=>(by decide +kernel:∀c∈("01" : Str).cps.toList,c=48\/c=49) c (e2 c hc')⟩;generalize Txt.join Str.empty zs=z at *;clear e1 e2 e3 hz hd e0;refine ap ?_;have S911:=S10.trans S11;have tw11:=tw9.same S911;have hS11:=sqs S911 hS9;have tb11:=dh tb9 S911;have nS:NetS (aL i1 i2 g1 g2) (g1++g2):=⟨oj,isn⟩;walk_at "s";refine aU (aC (aH (af (ae rfl (af (ae rfl (av ⟨aj,lj,mj,_,_,_,z,rfl,tw11.J,nS,st,tb11,λr v H12 t12 rr rv=>i_c ⟨rfl,ap ?_⟩⟩)))))))
 have nonrace:decide (v=V.non)=true->jc (aL i1 i2 g1 g2) (g1++g2) z:=λe=>by
  match r,rr,rv with
  | none,rr,_=>exact nL rr
  | some (ns,c,b),_,⟨t,l,ev,_⟩=>rw[ev]at e;exact absurd (of_decide_eq_true e) (by simp)
 have tw12:Two H12 a1 l1 m1 i1 v1 g1 a2 l2 m2 i2 v2 g2 aj lj mj:=tw11.keep (t12.lst tb11) (t12.tup tb11);have hS12:SqL K H12 sc (cells.map V.int):=kz tb11 hS11 λo e n=>t12.old _ _ e n;have tb12:=t12.tab;clear rr rv;generalize decide (v=V.non)=c0 at *;walk_at "s";refine s_for (s_rng1 (af (i_c (av ⟨60,rfl,by decide,by decide,?_⟩))));let I17:IvF:=λi σ H'=>(∃z c x6 x9 x10 x11 x12 x13 x14 x15,σ=[some (.ref sc),some (.ref a1),some (.ref a2),some (.ref aj),some (.ref G),some (.ref I),x6,some (.str z),some (.bl c),x9,x10,x11,x12,x13,x14,x15]/\StOk (ac (aL i1 i2 g1 g2) (g1++g2)).length z/\(c=true->jc (aL i1 i2 g1 g2) (g1++g2) z))/\Two H' a1 l1 m1 i1 v1 g1 a2 l2 m2 i2 v2 g2 aj lj mj/\SqL K H' sc (cells.map V.int)/\eV TL ek H';refine jy (n:=60) I17 ⟨⟨z,c0,_,_,_,_,_,_,_,_,rfl,st,nonrace⟩,tw12,hS12,tb12⟩ (λi σ H' hi pv=>?_) (λσ H' pv=>?_);rotate_left
 ·obtain⟨⟨z,c,x6,x9,x10,x11,x12,x13,x14,x15,rfl,_⟩,_⟩:=pv
  try dsimp only
  exact s_ret (i_c (k _))
 clear nonrace st tw12 hS12 tb12;obtain⟨⟨z,c,x6,x9,x10,x11,x12,x13,x14,x15,rfl,st,calm⟩,tw,hS,tb⟩:=pv
 have az:bJ (aL i1 i2 g1 g2) (g1++g2) z ⊆ (g1++g2).map (·.1):=λn hn=>by
  rw[fo]at hn;exact mO hn
 have la:(bJ (aL i1 i2 g1 g2) (g1++g2) z).length<=7:=by
  have:=kj (sgn (ac (aL i1 i2 g1 g2) (g1++g2)) z) (g1++g2);rw[Qh]at this;rw[fo];omega
 refine ap ?_;walk_at "s";walk_at "s";refine i_not (i_tB (aH (af (ae rfl (af (ae rfl (af (ae rfl (af (ae rfl (av ⟨a1,l1,m1,i1,v1,g1,a2,l2,m2,i2,v2,g2,aj,lj,mj,z,rfl,tw,tok,st,λH1 S1=>⟨_,rfl,cz ?_⟩⟩)))))))))));walk_at "s";have tw1:=tw.same S1;walk_at "s";refine aU (aH (af (ae rfl (af (ae rfl (av ⟨aj,lj,mj,_,_,_,z,rfl,tw1.J,oj,ndj,st,λA H2 S2 _ hA=>ap ?_⟩))))));have tw2:=tw1.same S2;walk_at "s";refine aU (aC (ae rfl (aC (ae rfl (i_c (ba tw2.J.ha rfl (eL hA tw2.J.hi (by simp only[Qd];omega) λV' hV=>ap ?_)))))));rw[<-Qm];generalize hE:upd H2 V' _=H3;obtain⟨S3,q3⟩:=aI hV hE;clear hE;walk_at "s";walk_at "s";refine i_test (aC (ae rfl (rM q3 λH4 S4=>?_)));rw[Qd];by_cases c0':(bJ (aL i1 i2 g1 g2) (g1++g2) z++aL i1 i2 g1 g2).length=0
 ·rw[Qy c0'];exact bO (s_ret (i_c (k _)))
 rw[Qo c0'];refine cz ?_;walk_at "s";have S04:=S1.trans (S2.trans (S3.trans S4));have tw4:=tw.same S04;have hS4:=sqs S04 hS;have tb4:=dh tb S04;have q34:=S4 _ _ q3;have hA4:=(S3.trans S4) _ _ hA;walk_at "s";refine aU (aH (af (ae rfl (af (aC (i_c (aC (ae rfl (i_c (i_rI (by decide) (i_rI0 (av ⟨sc,cells,6+i % 30,?_,hS4,by omega,λcl=>ap ?_⟩))))))))))))
 ·congr 2;congr 1;congr 1;omega
 walk_at "s";generalize hev:bJ (aL i1 i2 g1 g2) (g1++g2) z++aL i1 i2 g1 g2=ev at *;refine aU (aC (ae rfl (aC (aC (aC (ae rfl (aC (ae rfl (i_c (i_rI0 (i_rI ⟨by omega,by omega⟩ (aC (ae rfl (i_c (i_rI ⟨by decide,by decide⟩ (i_rI0 ?_))))))))))))))));refine i_cb (af (ae rfl (av ⟨V',_,rfl,.inl (SqL.of q34),?_⟩)));rw[Qd];refine i_rI (by omega) ?_;generalize cl / (0+(i:Int)+1)+cl / 7=cx;obtain⟨n,hn,en⟩:=nM (ws:=ev) (r:=cx % (ev.length:Int)) (Int.emod_nonneg _ (by omega)) (Int.emod_lt_of_pos _ (by omega));refine i_ixL (SqL.of q34) en (ap ?_);rw[<-hev,Qt]at hn
 have hw:n∈ac (aL i1 i2 g1 g2) (g1++g2):=by
  unfold ac;exact hn.elim (λh=>Qw _ (az h)) λh=>List.mem_append_left _ h
 walk_at "s";refine aU (aH (af (ae rfl (af (ae rfl (af (ae rfl (av ⟨aj,lj,mj,_,_,_,z,n,rfl,tw4.J,oj,ndj,st,hw,λH5 S5=>ap ?_⟩))))))));have stl:StOk (ac (aL i1 i2 g1 g2) (g1++g2)).length (bd (fl n (sgn (ac (aL i1 i2 g1 g2) (g1++g2)) z)) (ac (aL i1 i2 g1 g2) (g1++g2))):=fi _ _
 have stepm:n∈bJ (aL i1 i2 g1 g2) (g1++g2) z->(n,bd (fl n (sgn (ac (aL i1 i2 g1 g2) (g1++g2)) z)) (ac (aL i1 i2 g1 g2) (g1++g2)))∈aJ (aL i1 i2 g1 g2) (g1++g2) z:=λh=>by
  obtain⟨j,hj,ej⟩:=QV.mp hw;have hw':(ac (aL i1 i2 g1 g2) (g1++g2))[j]?=some n:=by rw[Qe hj,ej]
  have:=mX ndj hw' h;rwa [fw ndj st hw']at this
 have tw5:=tw4.same S5;have hlt:∀y,y=bd (fl n (sgn (ac (aL i1 i2 g1 g2) (g1++g2)) z)) (ac (aL i1 i2 g1 g2) (g1++g2))->y=bd (fl n (sgn (ac (aL i1 i2 g1 g2) (g1++g2)) z)) (ac (aL i1 i2 g1 g2) (g1++g2)):=λ_ e=>e;generalize hy:bd (fl n (sgn (ac (aL i1 i2 g1 g2) (g1++g2)) z)) (ac (aL i1 i2 g1 g2) (g1++g2))=y at *;walk_at "s";refine aU (aH (af (ae rfl (af (ae rfl (av ⟨aj,lj,mj,_,_,_,y,rfl,tw5.J,oj,ndj,stl,λB H6 S6 _ hB=>ap ?_⟩))))));have hA6:=(S5.trans S6) _ _ hA4;generalize hAs:bJ (aL i1 i2 g1 g2) (g1++g2) z=As at *
 have hush:c=true->n∈As->∀g∈As,g≠n->g∈bJ (aL i1 i2 g1 g2) (g1++g2) y:=λhc hn' g hg ne=>by
  have:=(calm hc).keeps (stepm hn') (c:=g) (by unfold iU;rw[di ndj,hAs];exact hg) ne;unfold iU at this;rwa [di ndj]at this
 generalize hBs:bJ (aL i1 i2 g1 g2) (g1++g2) y=Bs at *;walk_at "s";refine aU (i_comp (s_list (ae rfl ⟨A,rfl,⟨_,SqL.of hA6⟩,λL hL=>?_⟩)));refine fm (xs:=As.map V.str) (λm H' us=>ar H6 H'/\H' L=some (.lst us)/\us.length<=m/\(c=true->n∈As->us=[])) ⟨al hL,ai,Qi _,λ_ _=>rfl⟩ (λm H' ys p=>⟨p.2.1,SqL.of (p.1 _ _ hA6)⟩) (λm v H' us e p=>?_) (λH7 us p=>?_)
 ·obtain⟨Sm,hd,lu,nil⟩:=p;rw[Qk]at e
  cases ex:As[m]? with
  | none=>rw[ex]at e;cases e
  | some x =>
  rw[ex]at e;cases e;have hm:m<As.length:=(Qc.mp ex).1;have hx:=Qq ex
  have no:∃m',m'<(As.map V.str).length-m/\(m'=(As.map V.str).length-(m+1)/\m+1<=(As.map V.str).length/\(ar H6 H'/\H' L=some (.lst us)/\us.length<=m+1/\(c=true->n∈As->us=[]))):=by
   rw[Qd];exact⟨_,by omega,rfl,by omega,Sm,hd,by omega,nil⟩
  refine ap ⟨by repeat' (first|exact trivial|refine⟨rfl,?_⟩),?_⟩;with_reducible refine i_and ?_
  refine i_test (aC (ae rfl (ae rfl (i_ne rfl ⟨_,rfl,?_⟩))));by_cases c1:x=n
  ·refine ifF (by rw[c1];simp) (ifF rfl no)
  refine ifT (by simp[c1]) ?_;refine i_test (aC (ae rfl (ae rfl (eK (SqL.of ((S6.trans Sm |> λ_=>Sm) _ _ hB)) ⟨_,rfl,?_⟩))));by_cases c2:x∈Bs
  ·rw[Qy c2];exact ifF rfl no
  rw[Qo c2];refine ifT rfl (ae rfl (bS.mk hd (by rw[Qd];exact hm) (by omega) ⟨aX Sm hL,ai,by rw[Qh];exact Nat.succ_le_succ lu,λhc hn'=>absurd (hush hc hn' x hx c1) c2⟩))
 obtain⟨S7,hd7,lu,nil⟩:=p;rw[Qd]at lu;refine ap ?_;have S57:=S6.trans S7;have tw7:=tw5.same S57;have hA7:=S7 _ _ hA6;have hS7:=sqs (S5.trans S57) hS4;have tb7:=dh tb4 (S5.trans S57)
 try dsimp only
 let I18:IvJ:=λσ' H8=>σ'=[some (.ref sc),some (.ref a1),some (.ref a2),some (.ref aj),some (.ref G),some (.ref I),some (.str n),some (.str z),some (.bl c),some (.int (0+(i:Int))),some (.ref A),some (.ref V'),some (.int cl),some (.str y),some (.ref B),some (.ref L)]/\ar H7 H8;with_reducible refine ic I18 (λR hR=>?_) (λσ' H8 pv=>?_)
 ·walk_at "s";with_reducible refine i_and ?_
  refine i_test (aC (ae rfl (ae rfl (vO (SqL.of hA7) rfl (bx _) ⟨_,rfl,?_⟩))));by_cases c1:n∈As
  case neg =>
   have e1:inV (.str n) (As.map V.str)=false:=by
    cases q:inV (.str n) (As.map V.str) with
    | false=>rfl
    | true=>exact absurd (bt.mp q) c1
   refine ifF e1 (ifF rfl ?_);walk_at "s";exact hR _ _ ⟨rfl,ar.refl _⟩
  rw[bt.mpr c1];refine bO ?_;with_reducible refine i_and ?_
  refine i_test (ae rfl ⟨c,rfl,?_⟩)
  cases hc:c with
  | false =>
   refine ifF rfl (ifF rfl ?_);walk_at "s";subst hc;exact hR _ _ ⟨rfl,ar.refl _⟩
  | true =>
  refine bO ?_;have un:=nil hc c1;subst un;refine i_test (aC (ae rfl (rL hd7 λH8 S8=>ifF rfl ?_)));walk_at "s";subst hc;exact hR _ _ ⟨rfl,S8⟩
 obtain⟨rfl,S8⟩:=pv;have tw8:=tw7.same S8;walk_at "s";walk_at "s";refine i_not (i_tB (aH (af (ae rfl (af (ae rfl (af (ae rfl (af (ae rfl (af (ae rfl (af (ae rfl (av ?_)))))))))))))));refine⟨a1,l1,m1,i1,v1,g1,a2,l2,m2,i2,v2,g2,aj,lj,mj,z,n,by rw[hy],tw8,tok,st,by rw[hAs];exact hn.symm,λH9 S9=>⟨_,rfl,cz ?_⟩⟩;walk_at "s";have S79:=S8.trans S9;have tw9:=tw7.same S79;have hA9:=S79 _ _ hA7;have hS9:=sqs S79 hS7;have tb9:=dh tb7 S79
 have race:∀(Q':VK),(∀c' H10,Tk TL H9 H10->(c'=true->jc (aL i1 i2 g1 g2) (g1++g2) y)->Q' (.bl c') H10)->tOp (λx y H Q=>y=.non/\Q (.bl (decide (x=.non))) H) (jk (jM TL) [] E0 (bP (dE 3) (bP (dE 13) gz))) (tC .non) ([some (.ref sc),some (.ref a1),some (.ref a2),some (.ref aj),some (.ref G),some (.ref I),some (.str n),some (.str z),some (.bl c),some (.int (0+(i:Int))),some (.ref A),some (.ref V'),some (.int cl),some (.str y),some (.ref B),some (.ref L)]) H9 Q':=λQ' q=>by
  refine aC (aH (af (ae rfl (af (ae rfl (av ⟨aj,lj,mj,_,_,_,y,rfl,tw9.J,nS,stl,tb9,λr v H10 t10 rr rv=>i_c ⟨rfl,q _ _ t10 λe=>?_⟩⟩))))))
  match r,rr,rv with
  | none,rr,_=>exact nL rr
  | some (ns,c,b),_,⟨t,l,ev,_⟩=>rw[ev]at e;exact absurd (of_decide_eq_true e) (by simp)
 let I19:IvJ:=λσ' H10=>∃c':Bool,σ'=[some (.ref sc),some (.ref a1),some (.ref a2),some (.ref aj),some (.ref G),some (.ref I),some (.str n),some (.str z),some (.bl c'),some (.int (0+(i:Int))),some (.ref A),some (.ref V'),some (.int cl),some (.str y),some (.ref B),some (.ref L)]/\Tk TL H9 H10/\(c'=true->jc (aL i1 i2 g1 g2) (g1++g2) y);with_reducible refine ic I19 (λR hR=>?_) (λσ' H10 pv=>?_)
 ·refine aU (i_orV (i_andV (ae rfl ⟨c,rfl,?_⟩)))
  cases hc:c with
  | false =>
   subst hc;exact cz ⟨false,rfl,cz (race _ λc' H10 t cm=>ap (hR _ _ ⟨c',rfl,t,cm⟩))⟩
  | true =>
  subst hc;refine bO (aC (ae rfl (ae rfl (vO (SqL.of hA9) rfl (bx _) ⟨_,rfl,?_⟩))));by_cases c1:n∈As
  ·rw[bt.mpr c1];exact bO (ap (hR _ _ ⟨true,rfl,Tk.of tb9 (ar.refl _),λ_=>(calm rfl).step (stepm c1)⟩))
  have e1:inV (.str n) (As.map V.str)=false:=by
   cases q:inV (.str n) (As.map V.str) with
   | false=>rfl
   | true=>exact absurd (bt.mp q) c1
  exact ifF e1 (race _ λc' H10 t cm=>ap (hR _ _ ⟨c',rfl,t,cm⟩))
 obtain⟨c',rfl,t10,cm⟩:=pv;exact aU (ae rfl (ap ⟨⟨y,c',_,_,_,_,_,_,_,_,rfl,stl,cm⟩,tw9.keep (t10.lst tb9) (t10.tup tb9),kz tb9 hS9 λo e n=>t10.old _ _ e n,t10.tab⟩))
end
end K2
namespace K2
open PySem L2 PySem.Spec PyProof.Rows
variable {A:Type}
theorem eZ {us:List A} (h:us.length=1):∃a0,us=[a0]:=by
 match us,h with
 | [a0],_=>exact⟨_,rfl⟩
theorem ck {us:List A} (h:us.length=2):∃a0 a1,us=[a0,a1]:=by
 match us,h with
 | [a0,a1],_=>exact⟨_,_,rfl⟩
theorem eI {us:List A} (h:us.length=3):∃a0 a1 a2,us=[a0,a1,a2]:=by
 match us,h with
 | [a0,a1,a2],_=>exact⟨_,_,_,rfl⟩
theorem qG {us:List A} (h:us.length=4):∃a0 a1 a2 a3,us=[a0,a1,a2,a3]:=by
 match us,h with
 | [a0,a1,a2,a3],_=>exact⟨_,_,_,_,rfl⟩
theorem vH {us:List A} (h:us.length=6):∃a0 a1 a2 a3 a4 a5,us=[a0,a1,a2,a3,a4,a5]:=by
 match us,h with
 | [a0,a1,a2,a3,a4,a5],_=>exact⟨_,_,_,_,_,_,rfl⟩
structure FX (K:PySem.W.Frag) (n:Str) (i:Nat) (f:Addr) (cd:Value):Prop where
 a:PySem.W.nsIn K mainGlobals n=some (some (.ref f))
 l:∃oc od kV dc pm an ct sl,K.lookup f=some ⟨oc,od,.func (PySem.W.fnOf n n (cS (top i)) (bT (top i)) (am (top i)) .none kV dc pm an cd ct),sl⟩
 c:PySem.W.codeIn K cd n=true
 k:PySem.W.keepIn K (.ref f)=true
variable {mg:Str->Option Value}
theorem FX.fn {K:PySem.W.Frag} {n:Str} {i:Nat} {f:Addr} {cd:Value} {h:Heap} (X:K.In h) (G:h.Ns mainGlobals mg) (x:FX K n i f cd):∃fd,Fun K n n (top i) f fd/\mg n=some (.ref f):=by
 obtain⟨a,⟨_,_,_,_,_,_,_,_,l⟩,c,k⟩:=x;exact⟨_,mF (st:=top i) l c k,xm X G a⟩
abbrev ZN (K:PySem.W.Frag) (n:Str):Prop:=PySem.W.nsIn K mainGlobals n=some none
theorem uJ {l:PySem.W.OpenLaw} {w:World} {K:PySem.W.Frag} {h:Heap} {fa:Addr} (X:K.In h) (G:h.Ns mainGlobals mg) (hfa:mg "law" = some (.ref fa))
  (aT:PySem.W.nsIn K mainGlobals "TURNED" = some (some (.ref 73))) (tab:gR K 73 [("0", .flat (.str "1")),("1", .flat (.str "0"))])
  (aP:PySem.W.nsIn K mainGlobals "PARTS_OF_RULE" = some (some (.ref 72))) (tabP:gR K 72 [("wire", .flat (.int 2)),("not", .flat (.int 2)),("and", .flat (.int 3)),("or", .flat (.int 3))])
  (cn0:PySem.W.nsIn K mainGlobals "LETTERS" = some (some (.str "abcdefghijklmnopqrstuvwxyz" 267)))
  (cn1:PySem.W.nsIn K mainGlobals "MOST_LETTERS" = some (some (.int 8 269)))
  (cn2:PySem.W.nsIn K mainGlobals "MOST_RULES_WITHIN" = some (some (.int 10 271)))
  (cn3:PySem.W.nsIn K mainGlobals "MOST_INPUTS" = some (some (.int 4 273)))
  (cn4:PySem.W.nsIn K mainGlobals "MOST_GATES" = some (some (.int 7 275)))
  (x0:FX K "is_name" 13 78 (.ref 77)) (x1:FX K "is_rule" 14 83 (.ref 82)) (x2:FX K "is_pair" 15 90 (.ref 89)) (x3:FX K "is_row" 16 95 (.ref 94)) (x4:FX K "are_unlike_names" 17 100 (.ref 99)) (x5:FX K "is_net" 18 105 (.ref 104)) (x6:FX K "gates_of" 19 110 (.ref 109)) (x7:FX K "wires_of" 20 117 (.ref 116)) (x8:FX K "is_standing" 21 124 (.ref 123)) (x9:FX K "check_standing" 22 131 (.ref 130)) (x10:FX K "rule_holds" 23 138 (.ref 137)) (x11:FX K "rule_worth" 24 145 (.ref 144)) (x12:FX K "signs_in" 25 152 (.ref 151)) (x13:FX K "row_of" 26 157 (.ref 156)) (x14:FX K "turned_at" 27 164 (.ref 163)) (x15:FX K "steps_from" 28 171 (.ref 170)) (x16:FX K "asked_gates" 29 176 (.ref 175)) (x17:FX K "switch_gate" 30 183 (.ref 182)) (x18:FX K "turn_input" 31 190 (.ref 189)) (x19:FX K "inputs_left" 33 197 (.ref 196)) (x20:FX K "nets_joined" 34 204 (.ref 203)) (x21:FX K "both_of" 35 211 (.ref 210)) (x22:FX K "standing_of" 36 218 (.ref 217)) (x23:FX K "found_from" 38 225 (.ref 224)) (x24:FX K "steps_found" 39 232 (.ref 231))(h24:PySem.W.codeHdIn K 231 227=true) (x25:FX K "order_to" 40 239 (.ref 238)) (x26:FX K "names_asked" 42 244 (.ref 243)) (x27:FX K "first_calmed" 43 251 (.ref 250)) (x28:FX K "first_race" 44 258 (.ref 257)) (x29:FX K "_law_cell" 46 265 (.ref 264)) (x30:FX K "_law_mixed" 47 272 (.ref 271)) (x31:FX K "_law_wire" 48 279 (.ref 278)) (x32:FX K "_law_rule" 49 286 (.ref 285)) (x33:FX K "_law_worth" 50 293 (.ref 292)) (x34:FX K "_law_names" 51 298 (.ref 297)) (x35:FX K "_law_asked" 52 303 (.ref 302)) (x36:FX K "_law_turned" 53 310 (.ref 309)) (x37:FX K "_law_gates" 54 317 (.ref 316)) (x38:FX K "_law_nets" 55 324 (.ref 323)) (x39:FX K "_law_part" 56 329 (.ref 328)) (x40:FX K "_law_on" 57 334 (.ref 333)) (x41:FX K "_law_step_good" 58 341 (.ref 340)) (x42:FX K "_law_standing_good" 59 348 (.ref 347)) (x43:FX K "law" 60 353 (.ref 352))
  (z0:ZN K "len") (z1:ZN K "range") (z2:ZN K "max") (z3:ZN K "min") (z4:ZN K "int") (z5:ZN K "list") (z6:ZN K "str") (z7:ZN K "isinstance") (z8:ZN K "all") (z9:ZN K "set") (z10:ZN K "dict") (z11:ZN K "enumerate") (z12:ZN K "sorted") (z13:ZN K "tuple") (z14:ZN K "bool") (z15:ZN K "zip") (z16:ZN K "reversed")
  : ∃fd:FuncData,(∀(s:Shared) (v:Value),BindsTo s fd ⟨[v],[]⟩ [("script", v)])/\∀base:Heap,K.In base->base.Ns mainGlobals mg->L2.fc base mg->FnOk l.prog w K mg base CX0 17 fa fd ["script"] (mY K 227):=by
 have e:=hfa.symm.trans (xm X G x43.a);cases e;have T:Txt K mg 72:=⟨QB X G z0,QB X G z1,QB X G z2,QB X G z3,QB X G z4,QB X G z5,QB X G z6,QB X G z7,QB X G z8,QB X G z9,QB X G z10,QB X G z11,QB X G z12,QB X G z13,QB X G z14,QB X G z15,QB X G z16,⟨_,xm X G cn0⟩,⟨_,xm X G cn1⟩,⟨_,xm X G cn2⟩,⟨_,xm X G cn3⟩,⟨_,xm X G cn4⟩,xm X G aP,tabP,73,xm X G aT,tab⟩;obtain⟨_,F0,m0⟩:=x0.fn X G;have b0:=F0.binds (ps:=["thing"]) λ_ _ _ _ _ _ us hl=>by obtain⟨_,rfl⟩:=eZ hl;rfl
 obtain⟨_,F1,m1⟩:=x1.fn X G;have b1:=F1.binds (ps:=["thing", "wires", "depth"]) λ_ _ _ _ _ _ us hl=>by obtain⟨_,_,_,rfl⟩:=eI hl;rfl
 obtain⟨_,F2,m2⟩:=x2.fn X G;have b2:=F2.binds (ps:=["thing"]) λ_ _ _ _ _ _ us hl=>by obtain⟨_,rfl⟩:=eZ hl;rfl
 obtain⟨_,F3,m3⟩:=x3.fn X G;have b3:=F3.binds (ps:=["thing", "many"]) λ_ _ _ _ _ _ us hl=>by obtain⟨_,_,rfl⟩:=ck hl;rfl
 obtain⟨_,F4,m4⟩:=x4.fn X G;have b4:=F4.binds (ps:=["things"]) λ_ _ _ _ _ _ us hl=>by obtain⟨_,rfl⟩:=eZ hl;rfl
 obtain⟨_,F5,m5⟩:=x5.fn X G;have b5:=F5.binds (ps:=["thing"]) λ_ _ _ _ _ _ us hl=>by obtain⟨_,rfl⟩:=eZ hl;rfl
 obtain⟨_,F6,m6⟩:=x6.fn X G;have b6:=F6.binds (ps:=["net"]) λ_ _ _ _ _ _ us hl=>by obtain⟨_,rfl⟩:=eZ hl;rfl
 obtain⟨_,F7,m7⟩:=x7.fn X G;have b7:=F7.binds (ps:=["net"]) λ_ _ _ _ _ _ us hl=>by obtain⟨_,rfl⟩:=eZ hl;rfl
 obtain⟨_,F8,m8⟩:=x8.fn X G;have b8:=F8.binds (ps:=["net", "thing"]) λ_ _ _ _ _ _ us hl=>by obtain⟨_,_,rfl⟩:=ck hl;rfl
 obtain⟨_,F9,m9⟩:=x9.fn X G;have b9:=F9.binds (ps:=["net", "thing"]) λ_ _ _ _ _ _ us hl=>by obtain⟨_,_,rfl⟩:=ck hl;rfl
 obtain⟨_,F10,m10⟩:=x10.fn X G;have b10:=F10.binds (ps:=["rule", "signs"]) λ_ _ _ _ _ _ us hl=>by obtain⟨_,_,rfl⟩:=ck hl;rfl
 obtain⟨_,F11,m11⟩:=x11.fn X G;have b11:=F11.binds (ps:=["rule", "signs"]) λ_ _ _ _ _ _ us hl=>by obtain⟨_,_,rfl⟩:=ck hl;rfl
 obtain⟨_,F12,m12⟩:=x12.fn X G;have b12:=F12.binds (ps:=["net", "standing"]) λ_ _ _ _ _ _ us hl=>by obtain⟨_,_,rfl⟩:=ck hl;rfl
 obtain⟨_,F13,m13⟩:=x13.fn X G;have b13:=F13.binds (ps:=["signs", "wires"]) λ_ _ _ _ _ _ us hl=>by obtain⟨_,_,rfl⟩:=ck hl;rfl
 obtain⟨_,F14,m14⟩:=x14.fn X G;have b14:=F14.binds (ps:=["standing", "place"]) λ_ _ _ _ _ _ us hl=>by obtain⟨_,_,rfl⟩:=ck hl;rfl
 obtain⟨_,F15,m15⟩:=x15.fn X G;have b15:=F15.binds (ps:=["net", "standing"]) λ_ _ _ _ _ _ us hl=>by obtain⟨_,_,rfl⟩:=ck hl;rfl
 obtain⟨_,F16,m16⟩:=x16.fn X G;have b16:=F16.binds (ps:=["net", "standing"]) λ_ _ _ _ _ _ us hl=>by obtain⟨_,_,rfl⟩:=ck hl;rfl
 obtain⟨_,F17,m17⟩:=x17.fn X G;have b17:=F17.binds (ps:=["net", "standing", "name"]) λ_ _ _ _ _ _ us hl=>by obtain⟨_,_,_,rfl⟩:=eI hl;rfl
 obtain⟨_,F18,m18⟩:=x18.fn X G;have b18:=F18.binds (ps:=["net", "standing", "name"]) λ_ _ _ _ _ _ us hl=>by obtain⟨_,_,_,rfl⟩:=eI hl;rfl
 obtain⟨_,F19,m19⟩:=x19.fn X G;have b19:=F19.binds (ps:=["names", "made"]) λ_ _ _ _ _ _ us hl=>by obtain⟨_,_,rfl⟩:=ck hl;rfl
 obtain⟨_,F20,m20⟩:=x20.fn X G;have b20:=F20.binds (ps:=["one", "other"]) λ_ _ _ _ _ _ us hl=>by obtain⟨_,_,rfl⟩:=ck hl;rfl
 obtain⟨_,F21,m21⟩:=x21.fn X G;have b21:=F21.binds (ps:=["one", "other", "standing"]) λ_ _ _ _ _ _ us hl=>by obtain⟨_,_,_,rfl⟩:=eI hl;rfl
 obtain⟨_,F22,m22⟩:=x22.fn X G;have b22:=F22.binds (ps:=["one", "other", "first", "second"]) λ_ _ _ _ _ _ us hl=>by obtain⟨_,_,_,_,rfl⟩:=qG hl;rfl
 obtain⟨_,F23,m23⟩:=x23.fn X G;have b23:=F23.binds (ps:=["start", "steps_of"]) λ_ _ _ _ _ _ us hl=>by obtain⟨_,_,rfl⟩:=ck hl;rfl
 obtain⟨a24,⟨_,_,_,_,_,_,_,_,l24⟩,c24,k24⟩:=x24;have m24:=xm X G a24;have F24:=mF (st:=top 39) l24 c24 k24;have b24:=F24.binds (ps:=["net", "standing"]) λ_ _ _ _ _ _ us hl=>by obtain⟨_,_,rfl⟩:=ck hl;rfl
 obtain⟨_,F25,m25⟩:=x25.fn X G;have b25:=F25.binds (ps:=["found", "start", "other"]) λ_ _ _ _ _ _ us hl=>by obtain⟨_,_,_,rfl⟩:=eI hl;rfl
 obtain⟨_,F26,m26⟩:=x26.fn X G;have b26:=F26.binds (ps:=["steps", "here", "inputs"]) λ_ _ _ _ _ _ us hl=>by obtain⟨_,_,_,rfl⟩:=eI hl;rfl
 obtain⟨_,F27,m27⟩:=x27.fn X G;have b27:=F27.binds (ps:=["steps", "here", "inputs"]) λ_ _ _ _ _ _ us hl=>by obtain⟨_,_,_,rfl⟩:=eI hl;rfl
 obtain⟨_,F28,m28⟩:=x28.fn X G;have b28:=F28.binds (ps:=["net", "standing"]) λ_ _ _ _ _ _ us hl=>by obtain⟨_,_,rfl⟩:=ck hl;rfl
 obtain⟨_,F29,m29⟩:=x29.fn X G;have b29:=F29.binds (ps:=["script", "k"]) λ_ _ _ _ _ _ us hl=>by obtain⟨_,_,rfl⟩:=ck hl;rfl
 obtain⟨_,F30,m30⟩:=x30.fn X G;have b30:=F30.binds (ps:=["cell", "k"]) λ_ _ _ _ _ _ us hl=>by obtain⟨_,_,rfl⟩:=ck hl;rfl
 obtain⟨_,F31,m31⟩:=x31.fn X G;have b31:=F31.binds (ps:=["name"]) λ_ _ _ _ _ _ us hl=>by obtain⟨_,rfl⟩:=eZ hl;rfl
 obtain⟨_,F32,m32⟩:=x32.fn X G;have b32:=F32.binds (ps:=["cell", "names", "depth"]) λ_ _ _ _ _ _ us hl=>by obtain⟨_,_,_,rfl⟩:=eI hl;rfl
 obtain⟨_,F33,m33⟩:=x33.fn X G;have b33:=F33.binds (ps:=["rule", "signs"]) λ_ _ _ _ _ _ us hl=>by obtain⟨_,_,rfl⟩:=ck hl;rfl
 obtain⟨_,F34,m34⟩:=x34.fn X G;have b34:=F34.binds (ps:=["net"]) λ_ _ _ _ _ _ us hl=>by obtain⟨_,rfl⟩:=eZ hl;rfl
 obtain⟨_,F35,m35⟩:=x35.fn X G;have b35:=F35.binds (ps:=["net", "standing"]) λ_ _ _ _ _ _ us hl=>by obtain⟨_,_,rfl⟩:=ck hl;rfl
 obtain⟨_,F36,m36⟩:=x36.fn X G;have b36:=F36.binds (ps:=["net", "standing", "name"]) λ_ _ _ _ _ _ us hl=>by obtain⟨_,_,_,rfl⟩:=eI hl;rfl
 obtain⟨_,F37,m37⟩:=x37.fn X G;have b37:=F37.binds (ps:=["script", "start", "names", "every"]) λ_ _ _ _ _ _ us hl=>by obtain⟨_,_,_,_,rfl⟩:=qG hl;rfl
 obtain⟨_,F38,m38⟩:=x38.fn X G;have b38:=F38.binds (ps:=["script"]) λ_ _ _ _ _ _ us hl=>by obtain⟨_,rfl⟩:=eZ hl;rfl
 obtain⟨_,F39,m39⟩:=x39.fn X G;have b39:=F39.binds (ps:=["net", "names", "standing"]) λ_ _ _ _ _ _ us hl=>by obtain⟨_,_,_,rfl⟩:=eI hl;rfl
 obtain⟨_,F40,m40⟩:=x40.fn X G;have b40:=F40.binds (ps:=["net", "standing", "name"]) λ_ _ _ _ _ _ us hl=>by obtain⟨_,_,_,rfl⟩:=eI hl;rfl
 obtain⟨_,F41,m41⟩:=x41.fn X G;have b41:=F41.binds (ps:=["one", "other", "both", "standing", "name", "later"]) λ_ _ _ _ _ _ us hl=>by obtain⟨_,_,_,_,_,_,rfl⟩:=vH hl;rfl
 obtain⟨_,F42,m42⟩:=x42.fn X G;have b42:=F42.binds (ps:=["one", "other", "both", "standing"]) λ_ _ _ _ _ _ us hl=>by obtain⟨_,_,_,_,rfl⟩:=qG hl;rfl
 obtain⟨a43,⟨_,_,kV,dc,pm,an,ct,_,l43⟩,c43,k43⟩:=x43;have m43:=xm X G a43;have F43:=mF (st:=top 60) l43 c43 k43;have b43:=F43.binds (ps:=["script"]) λ_ _ _ _ _ _ us hl=>by obtain⟨_,rfl⟩:=eZ hl;rfl
 refine⟨PySem.W.fnOf "law" "law" (cS (top 60)) (bT (top 60)) (am (top 60)) .none kV dc pm an (.ref 352) ct,λs v=>.of_eq rfl,λbase KB _ BM=>?_⟩;have CT0:=PySem.W.codeHd_of_K KB h24;have FC24:FunC K "steps_found" "steps_found" (top 39) 232 _ 231:=⟨_,_,_,_,_,_,_,_,rfl,l24,c24⟩;have g29:Fn l.prog w K mg base "_law_cell" ["script", "k"] 1 (hU K):=⟨_,_,si F29 T,m29,x29.k,b29⟩;have g30:Fn l.prog w K mg base "_law_mixed" ["cell", "k"] 1 jQ:=⟨_,_,qk F30 T,m30,x30.k,b30⟩;have g31:Fn l.prog w K mg base "_law_wire" ["name"] 1 lZ:=⟨_,_,rZ F31 T,m31,x31.k,b31⟩;have g32:Fn l.prog w K mg base "_law_rule" ["cell", "names", "depth"] 4 (gE 3):=⟨_,_,kU F32 T g31 m32 x32.k b32 3,m32,x32.k,b32⟩;have g37:Fn l.prog w K mg base "_law_gates" ["script", "start", "names", "every"] 5 (g_ K):=⟨_,_,oz F37 T g29 g30 g32,m37,x37.k,b37⟩;have g38:Fn l.prog w K mg base "_law_nets" ["script"] 6 (jP K):=⟨_,_,qm F38 T g29 g37,m38,x38.k,b38⟩;have g6:Fn l.prog w K mg base "gates_of" ["net"] 1 gH:=⟨_,_,qq F6 T,m6,x6.k,b6⟩;have g19:Fn l.prog w K mg base "inputs_left" ["names", "made"] 1 l6:=⟨_,_,se F19 T,m19,x19.k,b19⟩;have g2:Fn l.prog w K mg base "is_pair" ["thing"] 1 l0:=⟨_,_,r9 F2 T,m2,x2.k,b2⟩;have g7:Fn l.prog w K mg base "wires_of" ["net"] 2 bA:=⟨_,_,qe F7 T g6,m7,x7.k,b7⟩;have g0:Fn l.prog w K mg base "is_name" ["thing"] 1 l4:=⟨_,_,sd F0 T,m0,x0.k,b0⟩;have g4:Fn l.prog w K mg base "are_unlike_names" ["things"] 2 gX:=⟨_,_,oq F4 T g0,m4,x4.k,b4⟩;have g1:Fn l.prog w K mg base "is_rule" ["thing", "wires", "depth"] 10 (fB 10):=⟨_,_,jq F1 T m1 x1.k b1 10,m1,x1.k,b1⟩;have g5:Fn l.prog w K mg base "is_net" ["thing"] 11 jR:=⟨_,_,qp F5 T g2 g7 g4 g1,m5,x5.k,b5⟩;have g20:Fn l.prog w K mg base "nets_joined" ["one", "other"] 12 gZ:=⟨_,_,sf F20 T g6 g19 g5,m20,x20.k,b20⟩;have g34:Fn l.prog w K mg base "_law_names" ["net"] 1 bA:=⟨_,_,oy F34 T,m34,x34.k,b34⟩;have g3:Fn l.prog w K mg base "is_row" ["thing", "many"] 1 pA:=⟨_,_,uo F3 T,m3,x3.k,b3⟩;have g8:Fn l.prog w K mg base "is_standing" ["net", "thing"] 2 (cZ (.bl true)):=⟨_,_,sh F8 T g3,m8,x8.k,b8⟩;have g9:Fn l.prog w K mg base "check_standing" ["net", "thing"] 3 (cZ .non):=⟨_,_,qt F9 T g8,m9,x9.k,b9⟩;have g23:Fn l.prog w K mg base "found_from" ["start", "steps_of"] 14 (jS l.prog w K mg base 13):=⟨_,_,qr F23 T,m23,x23.k,b23⟩;have g12:Fn l.prog w K mg base "signs_in" ["net", "standing"] 3 pz:=⟨_,_,vD F12 T g7,m12,x12.k,b12⟩;have g10:Fn l.prog w K mg base "rule_holds" ["rule", "signs"] 10 (gG 10):=⟨_,_,kW F10 T m10 x10.k b10 10,m10,x10.k,b10⟩;have g11:Fn l.prog w K mg base "rule_worth" ["rule", "signs"] 11 (jJ 10):=⟨_,_,qc F11 T g10,m11,x11.k,b11⟩;have g14:Fn l.prog w K mg base "turned_at" ["standing", "place"] 1 fA:=⟨_,_,ot F14 T,m14,x14.k,b14⟩;have g15:Fn l.prog w K mg base "steps_from" ["net", "standing"] 12 dP:=⟨_,_,qg F15 T g12 g11 g14,m15,x15.k,b15⟩;have g24:Fn l.prog w K mg base "steps_found" ["net", "standing"] 15 (f6 227):=⟨_,_,mo FC24 T CT0 BM g23 g15,m24,k24,b24⟩;have g26:Fn l.prog w K mg base "names_asked" ["steps", "here", "inputs"] 1 l5:=⟨_,_,r_ F26 T,m26,x26.k,b26⟩;have g27:Fn l.prog w K mg base "first_calmed" ["steps", "here", "inputs"] 2 l7:=⟨_,_,sj F27 T g26,m27,x27.k,b27⟩;have g25:Fn l.prog w K mg base "order_to" ["found", "start", "other"] 1 pB:=⟨_,_,uq F25 T,m25,x25.k,b25⟩;have g28:Fn l.prog w K mg base "first_race" ["net", "standing"] 16 (jM 227):=⟨_,_,r8 F28 T g9 g24 g27 g25,m28,x28.k,b28⟩;have g13:Fn l.prog w K mg base "row_of" ["signs", "wires"] 1 gF:=⟨_,_,qi F13 T,m13,x13.k,b13⟩;have g21:Fn l.prog w K mg base "both_of" ["one", "other", "standing"] 13 fE:=⟨_,_,oB F21 T g20 g9 g12 g13 g7,m21,x21.k,b21⟩;have g39:Fn l.prog w K mg base "_law_part" ["net", "names", "standing"] 2 jO:=⟨_,_,ql F39 T g34,m39,x39.k,b39⟩;have g16:Fn l.prog w K mg base "asked_gates" ["net", "standing"] 13 dj:=⟨_,_,qu F16 T g9 g15,m16,x16.k,b16⟩;have g33:Fn l.prog w K mg base "_law_worth" ["rule", "signs"] 10 (fD 10):=⟨_,_,jp F33 T m33 x33.k b33 10,m33,x33.k,b33⟩;have g35:Fn l.prog w K mg base "_law_asked" ["net", "standing"] 11 dj:=⟨_,_,oA F35 T g34 g33,m35,x35.k,b35⟩;have g42:Fn l.prog w K mg base "_law_standing_good" ["one", "other", "both", "standing"] 14 gY:=⟨_,_,ou F42 T g34 g21 g39 g16 g35,m42,x42.k,b42⟩;have g36:Fn l.prog w K mg base "_law_turned" ["net", "standing", "name"] 2 fY:=⟨_,_,mq F36 T g34,m36,x36.k,b36⟩;have g17:Fn l.prog w K mg base "switch_gate" ["net", "standing", "name"] 14 fZ:=⟨_,_,mn F17 T g9 g15,m17,x17.k,b17⟩;have g18:Fn l.prog w K mg base "turn_input" ["net", "standing", "name"] 5 jK:=⟨_,_,qf F18 T g9 g14,m18,x18.k,b18⟩;have g40:Fn l.prog w K mg base "_law_on" ["net", "standing", "name"] 15 tZ:=⟨_,_,vE F40 T g17 g18,m40,x40.k,b40⟩;have g22:Fn l.prog w K mg base "standing_of" ["one", "other", "first", "second"] 13 jN:=⟨_,_,qj F22 T g20 g9 g12 g13 g7,m22,x22.k,b22⟩;have g41:Fn l.prog w K mg base "_law_step_good" ["one", "other", "both", "standing", "name", "later"] 16 jL:=⟨_,_,qh F41 T g34 g21 g39 g40 g22,m41,x41.k,b41⟩;exact qo F43 T g38 g20 g7 g34 g29 g28 g42 g16 g36 g35 g41
theorem vZ {l:PySem.W.OpenLaw} {q:Program} {loose:List Str} {XP:(Str->Option Value)->Heap->Prop} {d:DefRec} {K:Params->PySem.W.Frag} {as:List Addr} {e:∀P,as=(K P).map (·.1)} {TL0:Addr} (hn:l.most=some 63) (hdf:d.params.defaults=[]) (ok:∀w:World,fL (K w.params) [TL0]=true)
  (F:∀(w:World) (mg:Str->Option Value) (fa:Addr) (h:Heap),(K w.params).In h->h.Ns mainGlobals mg->mg d.name=some (.ref fa) ->
   ∃fd:FuncData,(∀(s:Shared) (u:Value),BindsTo s fd ⟨[u],[]⟩ [("script", u)])/\∀base:Heap,(K w.params).In base->base.Ns mainGlobals mg->L2.fc base mg->FnOk l.prog w (K w.params) mg base CX0 17 fa fd ["script"] (mY (K w.params) TL0)) :
  PySem.W.WalkO q loose XP (PySem.W.kmHook K as e [TL0]).says l.row.toRowW d [] (λf vs=>PySem.call f vs) :=
 L2.o8 (n:=63) (k:=17) (x := "script") (CX:=λ_=>CX0) (sp:=λw=>mY (K w.params) TL0) hn (by decide) hdf ⟨rfl,by decide,by decide⟩ ok F (λ_ _ a ns hl hT hS=>⟨a,ns,rfl,hS,hl,(.inl (hT _ (by simp))),λ_=>rfl⟩) λ_ _ _ _ _ z=>z
end K2
open PySem PySem.W PyProof.Rows
set_option maxRecDepth 100000 in
set_option maxHeartbeats 0 in
theorem PySem.Challenge.cw_anydelay_k95_whole_joined_walked_in_step_holds : PySem.Challenge.rw_anydelay_k95_whole_joined_walked_in_step.Holds := by
 w_on;o_law
 refine holds_open (q:=K2.vw) (loose:=[("NoStep" : Str),("PARTS_OF_RULE" : Str),("TURNED" : Str)]) (Xt:=λs=>xlAt K2.vw [] s&&recOk (RowW.records PySem.Challenge.rw_anydelay_k95_whole_joined_walked_in_step.row.toRowW) s) (XP:=XL K2.vw []) (Yf:=Hook.obs K2.hk) (Ya:=Hook.val K2.hk) (YP:=Hook.says K2.hk) (N:=4932) K2.left (Hook.of K2.hk) (Hook.keeps K2.hk) (λs e=>xl_of s (Bool.and_eq_true_iff.mp e).1) XL.keeps (by rfl) (by rfl) (by rfl) (λs e=>recFacts_of (Bool.and_eq_true_iff.mp e).2) (by rfl) (by first|assumption|decide +kernel) (by decide +kernel) ⟨rfl,rfl,rfl,rfl,rfl,by decide +kernel⟩ ?hw ?hc
 (case hw=>w_witness2)
 refine K2.vZ (l:=PySem.Challenge.rw_anydelay_k95_whole_joined_walked_in_step) (K:=K2.KF) (as:=[3,72,73,77,78,82,83,89,90,94,95,99,100,104,105,109,110,116,117,123,124,130,131,137,138,144,145,151,152,156,157,163,164,170,171,175,176,182,183,189,190,196,197,203,204,210,211,217,218,224,225,231,232,238,239,243,244,250,251,257,258,264,265,271,272,278,279,285,286,292,293,297,298,302,303,309,310,316,317,323,324,328,329,333,334,340,341,347,348,352,353]) (e:=λ_=>rfl) rfl rfl (λw=>by kernel_rfl) ?F
 case F =>
  intro w mg fa h KX G hmg;refine' K2.uJ KX G hmg ?_ ?_ ?_ ?_ ?_ ?_ ?_ ?_ ?_ ?_ ?_ ?_ ?_ ?_ ?_ ?_ ?_ ?_ ?_ ?_ ?_ ?_ ?_ ?_ ?_ ?_ ?_ ?_ ?_ ?_ ?_ ?_ ?_ ?_ ?_ ?_ ?_ ?_ ?_ ?_ ?_ ?_ ?_ ?_ ?_ ?_ ?_ ?_ ?_ ?_ ?_ ?_ ?_ ?_ ?_ ?_ ?_ ?_ ?_ ?_ ?_ ?_ ?_ ?_ ?_ ?_ ?_ ?_ ?_ ?_ ?_
  all_goals first|exact⟨by kernel_rfl,⟨_,_,_,_,_,_,_,_,rfl⟩,by kernel_rfl,by kernel_rfl⟩|kernel_rfl|rfl|decide|decide +kernel
