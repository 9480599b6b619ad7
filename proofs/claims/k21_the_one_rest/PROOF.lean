import PyProof.Rows.All
import Wide.All
import OpenK.AllK
import Wide.FinOn
import Lean
import PyProof.EqAt
import PyProof.EqKinds
import PyProof.TupleCall
import PyProof.NeKinds
import KE.KTabLook
import KE.KIntText
import KE.KUnpack
import PyProof.StrBlock2
import KE.KLam
import PyProof.Rows.SortShellK
import PyProof.Rows.SortKeyStr
import KE.KDictSum
import KE.KItemsList
import PyProof.Rows.SortStr
import KE.KDictLaws
import PyProof.DictWalks
import PyProof.Rows.StrInSeq3
import PyProof.FactsAll.list_1
import PyProof.ZipIter
import PyProof.Draws
import PyProof.AttrMissHeap
import PyProof.DictUpdate
import PyProof.ListNew
import PyProof.FactsAll.dict_1
import PyProof.Rows.DictSet
import PyProof.ForAppend
import KE.KRevSl
import PyProof.Rows.StrNews
import PyProof.StrLawsTight
import KE.KRevIter
import PyProof.ListRange
import PyProof.DictItemsLoops
import PyProof.CompUse
import PyProof.EnumMake
import PyProof.Rows.CallKwBuiltin
import OpenK.KMore
import PyProof.Rows.SeqIn
import KE.KSortTup
import KE.KDictList
import PyProof.PureStr
import PyProof.FitsStr
import KE.KEqDict
import PyProof.StationsW
import PyProof.RulesAs
import PyProof.ExcClass2
import KE.KTryMore
import PyProof.InstStoreFacts
import PyProof.ExcBaseAll.ValueError
import PyProof.NsDelKeeps
import PyProof.TupleOfStr
import PyProof.ListStr
import PyProof.FactsAll.subtypes_4
import KE.IntTextLaws
import PyProof.Rows.StrLen
import PySem.Challenge.RW_anydelay_k21_the_one_rest
import KE.BitLaws
import PyProof.Rows.StrMul
namespace PySem
abbrev E1:=Value->Shared->Prop
abbrev E2:=List (Addr × Obj)
abbrev E3:=Str->Option Value
abbrev E4:=List Addr
end PySem
set_option linter.all false
set_option maxRecDepth 100000
set_option Elab.async false
abbrev Qa:=@List.length_map
abbrev Qb:=@PySem.wpAny_bind
abbrev Qc:=@PySem.Heap.get?_push_of_some
abbrev Qd:=@List.getElem?_eq_getElem
abbrev Qe:=@List.getElem?_eq_some_iff
abbrev Qf:=@Nat.le_refl
abbrev Qg:=@List.length_append
abbrev Qh:=@List.size_toArray
abbrev Qi:=@List.getElem?_map
abbrev Qj:=@List.mem_of_getElem?
abbrev Qk:=@Bool.false_ne_true
abbrev Ql:=@List.mem_map
abbrev Qm:=@PySem.wpAny_pure
abbrev Qn:=@PySem.Heap.lt_size
abbrev Qo:=@Array.length_toList
abbrev Qp:=@PyProof.Rows.wpS_bind
abbrev Qq:=@List.mem_iff_getElem
abbrev Qr:=@List.mem_append
abbrev Qs:=@List.length_take
abbrev Qt:=@PyProof.Rows.wpS_pure
abbrev Qu:=@PySem.Heap.get?_push_size
abbrev Qv:=@List.mem_cons_of_mem
abbrev Qw:=@List.take_of_length_le
abbrev Qx:=@List.map_append
abbrev Qy:=@Array.getElem?_toList
abbrev Qz:=@Nat.lt_of_lt_of_le
abbrev QA:=@if_neg
abbrev QB:=@Nat.ne_of_lt
abbrev QC:=@PySem.Heap.get?_update_other
abbrev QE:=@List.getElem?_append_right
abbrev QF:=@Array.getElem?_eq_some_iff
abbrev QG:=@PySem.boot_len
abbrev QH:=@List.map_cons
abbrev QI:=@List.mem_singleton
abbrev QJ:=@if_pos
abbrev QK:=@Array.toList_append
abbrev QL:=@List.mem_append_right
abbrev QM:=@List.getElem?_append_left
abbrev QN:=@Option.some.inj
abbrev QO:=@PySem.W.mg_none_of
abbrev QP:=@PySem.F.plainAttrs_list
abbrev QQ:=@Nat.zero_le
abbrev QR:=@List.getD_eq_getElem?_getD
abbrev QS:=@PySem.F.slot_list_append
abbrev QT:=@PySem.F.type_list_append
abbrev QU:=@List.length_cons
abbrev QV:=@List.mem_cons
abbrev QW:=@Bool.false_eq_true
abbrev QX:=@List.map_map
abbrev QY:=@List.take_append_drop
abbrev QZ:=@Nat.le_trans
abbrev Q0:=@PyProof.Rows.boot_isinstance
abbrev Q2:=@List.all_eq_true
abbrev Q3:=@PySem.wpAny_holding
abbrev Q4:=@List.length_drop
abbrev Q5:=@List.lookup_cons
abbrev Q6:=@List.take_succ
abbrev Q7:=@PySem.wpAny_field
abbrev Q8:=@PySem.wpAny_mono
abbrev Q9:=@List.pairwise_append
abbrev Xa:=@decide_eq_false
abbrev Xb:=@List.nodup_cons
abbrev Xc:=@List.append_assoc
abbrev Xd:=@Array.size_append
abbrev Xe:=@PySem.wpAny_setField_rec
abbrev Xf:=@List.eq_nil_of_length_eq_zero
abbrev Xg:=@PyProof.Rows.callWith_type1
abbrev Xh:=@Ne.symm
abbrev Xi:=@List.mem_cons_self
abbrev Xj:=@PyProof.Rows.wpS_forRange
abbrev Xk:=@PySem.Obj.data_mapFields
abbrev Xl:=@PySem.W.kia_one
abbrev Xm:=@List.append_nil
abbrev Xo:=@Bool.and_eq_true
abbrev Xp:=@Nat.add_sub_cancel_left
abbrev Xq:=@PySem.W.mg_of
abbrev Xr:=@List.getElem_mem
abbrev Xs:=@Array.getElem?_eq_getElem
abbrev Xu:=@PySem.Heap.get?_update_self
abbrev Xv:=@List.getElem?_eq_none
abbrev Xw:=@decide_eq_true
abbrev Xx:=@Nat.le_of_lt
abbrev Xy:=@PyProof.Rows.KeyOrd.kle_refl
abbrev Xz:=@Nat.lt_of_le_of_lt
abbrev XA:=@PySem.wpAny_Call_Name_kw
abbrev XB:=@decide_eq_true_iff
local macro_rules|`(tactic|z_go)=>`(tactic|first|exact .inl rfl|exact .inr rfl|assumption)
noncomputable section
namespace L2
open PySem
def cO (s:Stmt):Arguments:=match s with
 | .FunctionDef _ a _ _ _ _ _ _ _ _=>a
 | _=>{ posonlyargs:=[],args:=[],vararg:=none,kwonlyargs:=[],kw_defaults:=[],kwarg:=none,defaults:=[] }
def ck (s:Stmt):List Stmt:=match s with
 | .FunctionDef _ _ b _ _ _ _ _ _ _=>b
 | _=>[]
def az (s:Stmt):Scope:=match s with
 | .FunctionDef _ _ _ _ _ _ sc _ _ _=>sc
 | _=>{ kind:=.function,names:=[],isGenerator:=false,isCoroutine:=false }
end L2
namespace K2
open PySem L2 PySem.W
def top (i:Nat):Stmt:=PySem.Challenge.pw_anydelay_k21_the_one_rest.main.body.getD i (.Pass ⟨0,0,0,0⟩)
noncomputable def kC (n:Str) (t:Nat) (l a fl:Int) (r:Addr) (x y:Value) (z:Addr) (u:Nat):Obj:={ cls:=.type "code", data:=.fields #[.str n t,.str n (t+1),.str "/claim/cut.py" (t+2),.int l 0,.int a 0,.int 0 0,.int 0 0,.int 3 0,.ref r,.bool true,.int fl 0,.ref (r+1),.none,x,y,.ref z,.int u 0,.int l 0,.str "/claim/cut.py" (u+1)] }
noncomputable def kF (n:Str) (i:Nat) (m:Str) (t:Nat) (c:Addr):Obj:={ cls:=.type "function", data:=.func { name:=n,qualname:=n,params:=cO (top i),body:=.stmts (ck (top i)),scope:=az (top i),globals:=3,closure:=[],defaults:=.none,kwdefaults:=.none,pyModule:=.str m t,code:=.ref c } }
def kE (P:Params) (x:Str) (t:Nat) (v:Value):DictEntry:={ hash:=PyData.keyHash P x,key:=.str x t,val:=v }
noncomputable def kX (n:Str) (b m:List Value) (d:Addr) (u:List Value) (s:Addr) (t1 t2:Nat) (c:Value):Obj:={ cls:=.type "type", data:=.cls { name:=n,bases:=b,mro:=m,ns:=d,qualname:=n,subclasses:=u },slots:=#[some (.ref s),none,some (.str n t1),some (.str n t2),some c,some (.bool true)] }
noncomputable def KF (P:Params):Frag:=[(3,{ cls:=.type "dict", data:=.dict #[kE P "__name__" 165 (.str "law_anydelay_k21_the_one_rest" 552),kE P "__doc__" 166 .none,kE P "__package__" 167 .none,kE P "__loader__" 168 (.builtin "__main__.__loader__#opaque"),kE P "__spec__" 169 .none,kE P "__annotations__" 170 (.ref 6),kE P "__builtins__" 171 (.ref 4),kE P "__file__" 173 (.str "/claim/cut.py" 172),kE P "__cached__" 174 .none,kE P "NetError" 206 (.ref 24),kE P "NoStanding" 222 (.ref 37),kE P "NoStep" 248 (.ref 57),kE P "NoFit" 264 (.ref 69),kE P "NoText" 280 (.ref 81),kE P "NoName" 296 (.ref 93),kE P "NoRow" 312 (.ref 105),kE P "TURNED" 321 (.ref 108),kE P "is_pair" 328 (.ref 115),kE P "is_whole" 335 (.ref 122),kE P "is_row" 341 (.ref 127),kE P "gates_of" 347 (.ref 132),kE P "wires_of" 354 (.ref 139),kE P "is_standing" 362 (.ref 146),kE P "check_standing" 370 (.ref 153),kE P "rule_holds" 379 (.ref 160),kE P "rule_worth" 387 (.ref 167),kE P "signs_in" 395 (.ref 174),kE P "turned_at" 403 (.ref 181),kE P "steps_from" 415 (.ref 188),kE P "found_from" 432 (.ref 195),kE P "steps_found" 441 (.ref 202),kE P "order_to" 455 (.ref 209),kE P "rests_in" 461 (.ref 214),kE P "is_paper" 469 (.ref 219),kE P "is_closed" 475 (.ref 224),kE P "standings_ahead" 483 (.ref 229),kE P "most_switchings" 489 (.ref 234),kE P "one_rest" 499 (.ref 241),kE P "rest_paper" 509 (.ref 248),kE P "is_numbered" 516 (.ref 255),kE P "is_rest_paper" 522 (.ref 260),kE P "is_falling" 528 (.ref 265),kE P "rest_shows" 534 (.ref 270),kE P "round_told" 540 (.ref 275),kE P "told_parting" 551 (.ref 282),kE P "_law_draws" 567 (.ref 289),kE P "_law_names" 573 (.ref 294),kE P "_law_rule" 586 (.ref 301),kE P "_law_held" 595 (.ref 308),kE P "_law_known" 601 (.ref 313),kE P "_law_deeper" 615 (.ref 320),kE P "_law_net" 633 (.ref 327),kE P "_law_standing" 639 (.ref 332),kE P "_law_holds" 649 (.ref 339),kE P "_law_asked" 655 (.ref 344),kE P "_law_ways" 661 (.ref 349),kE P "_law_levels" 675 (.ref 356),kE P "_law_one" 681 (.ref 361),kE P "_law_copy" 688 (.ref 368),kE P "_law_kinds" 694 (.ref 373),kE P "_law_bad" 705 (.ref 380),kE P "_law_refused" 718 (.ref 387),kE P "law" 739 (.ref 394)] 63 }),
 (23,{ cls:=.type "dict", data:=.dict #[kE P "__module__" 196 (.str "anydelay.errors" 187),kE P "__firstlineno__" 200 (.int 2 199),kE P "__static_attributes__" 201 (.ref 22),kE P "__weakref__" 203 (.ref 25),kE P "__doc__" 204 .none] 3 }),
 (24,kX "NetError" [.type "ValueError"] [.ref 24,.type "ValueError", .type "Exception", .type "BaseException", .type "object"] 23 [.ref 37,.ref 57,.ref 69,.ref 81,.ref 93,.ref 105] 15 189 197 (.builtin "ValueError.__new__")),
 (36,{ cls:=.type "dict", data:=.dict #[kE P "__module__" 214 (.str "anydelay.errors" 187),kE P "__firstlineno__" 218 (.int 4 217),kE P "__static_attributes__" 219 (.ref 35),kE P "__doc__" 220 .none] 2 }),
 (37,kX "NoStanding" [.ref 24] [.ref 37,.ref 24,.type "ValueError", .type "Exception", .type "BaseException", .type "object"] 36 [] 28 207 215 (.builtin "ValueError.__new__")),
 (56,{ cls:=.type "dict", data:=.dict #[kE P "__module__" 230 (.str "anydelay.errors" 187),kE P "__firstlineno__" 234 (.int 6 233),kE P "__init__" 243 (.ref 54),kE P "__static_attributes__" 245 (.ref 55),kE P "__doc__" 246 .none] 2 }),
 (57,kX "NoStep" [.ref 24] [.ref 57,.ref 24,.type "ValueError", .type "Exception", .type "BaseException", .type "object"] 56 [] 40 223 231 (.builtin "ValueError.__new__")),
 (68,{ cls:=.type "dict", data:=.dict #[kE P "__module__" 256 (.str "anydelay.errors" 187),kE P "__firstlineno__" 260 (.int 11 259),kE P "__static_attributes__" 261 (.ref 67),kE P "__doc__" 262 .none] 2 }),
 (69,kX "NoFit" [.ref 24] [.ref 69,.ref 24,.type "ValueError", .type "Exception", .type "BaseException", .type "object"] 68 [] 60 249 257 (.builtin "ValueError.__new__")),
 (80,{ cls:=.type "dict", data:=.dict #[kE P "__module__" 272 (.str "anydelay.errors" 187),kE P "__firstlineno__" 276 (.int 13 275),kE P "__static_attributes__" 277 (.ref 79),kE P "__doc__" 278 .none] 2 }),
 (81,kX "NoText" [.ref 24] [.ref 81,.ref 24,.type "ValueError", .type "Exception", .type "BaseException", .type "object"] 80 [] 72 265 273 (.builtin "ValueError.__new__")),
 (92,{ cls:=.type "dict", data:=.dict #[kE P "__module__" 288 (.str "anydelay.errors" 187),kE P "__firstlineno__" 292 (.int 15 291),kE P "__static_attributes__" 293 (.ref 91),kE P "__doc__" 294 .none] 2 }),
 (93,kX "NoName" [.ref 24] [.ref 93,.ref 24,.type "ValueError", .type "Exception", .type "BaseException", .type "object"] 92 [] 84 281 289 (.builtin "ValueError.__new__")),
 (104,{ cls:=.type "dict", data:=.dict #[kE P "__module__" 304 (.str "anydelay.errors" 187),kE P "__firstlineno__" 308 (.int 17 307),kE P "__static_attributes__" 309 (.ref 103),kE P "__doc__" 310 .none] 2 }),
 (105,kX "NoRow" [.ref 24] [.ref 105,.ref 24,.type "ValueError", .type "Exception", .type "BaseException", .type "object"] 104 [] 96 297 305 (.builtin "ValueError.__new__")),
 (108,{ cls:=.type "dict", data:=.dict #[kE P "0" 315 (.str "1" 316),kE P "1" 317 (.str "0" 318)] 2 }),
 (114,kC "is_pair" 322 21 1 181 109 (.ref 111) (.ref 112) 113 326),
 (115,kF "is_pair" 10 "anydelay.nets" 313 114),
 (121,kC "is_whole" 329 23 1 181 116 (.ref 118) (.ref 119) 120 333),
 (122,kF "is_whole" 11 "anydelay.nets" 313 121),
 (126,kC "is_row" 336 25 2 181 123 .none .none 125 339),
 (127,kF "is_row" 12 "anydelay.nets" 313 126),
 (131,kC "gates_of" 342 29 1 181 128 .none .none 130 345),
 (132,kF "gates_of" 13 "anydelay.nets" 313 131),
 (138,kC "wires_of" 348 31 1 181 133 (.ref 135) (.ref 136) 137 352),
 (139,kF "wires_of" 14 "anydelay.nets" 313 138),
 (145,kC "is_standing" 355 33 2 181 140 (.ref 142) (.ref 143) 144 360),
 (146,kF "is_standing" 15 "anydelay.nets" 313 145),
 (152,kC "check_standing" 363 35 2 181 147 (.ref 149) (.ref 150) 151 368),
 (153,kF "check_standing" 16 "anydelay.nets" 313 152),
 (159,kC "rule_holds" 371 38 2 181 154 (.ref 156) (.ref 157) 158 377),
 (160,kF "rule_holds" 17 "anydelay.nets" 313 159),
 (166,kC "rule_worth" 380 47 2 181 161 (.ref 163) (.ref 164) 165 385),
 (167,kF "rule_worth" 18 "anydelay.nets" 313 166),
 (173,kC "signs_in" 388 49 2 181 168 (.ref 170) (.ref 171) 172 393),
 (174,kF "signs_in" 19 "anydelay.nets" 313 173),
 (180,kC "turned_at" 396 51 2 181 175 (.ref 177) (.ref 178) 179 401),
 (181,kF "turned_at" 20 "anydelay.nets" 313 180),
 (187,kC "steps_from" 404 53 2 181 182 (.ref 184) (.ref 185) 186 413),
 (188,kF "steps_from" 21 "anydelay.nets" 313 187),
 (194,kC "found_from" 418 61 2 181 189 (.ref 191) (.ref 192) 193 430),
 (195,kF "found_from" 23 "anydelay.orders" 416 194),
 (201,kC "steps_found" 433 76 2 181 196 (.ref 198) (.ref 199) 200 439),
 (202,kF "steps_found" 24 "anydelay.orders" 416 201),
 (208,kC "order_to" 442 78 3 181 203 (.ref 205) (.ref 206) 207 453),
 (209,kF "order_to" 25 "anydelay.orders" 416 208),
 (213,kC "rests_in" 456 89 1 181 210 .none .none 212 459),
 (214,kF "rests_in" 26 "anydelay.orders" 416 213),
 (218,kC "is_paper" 464 92 2 181 215 .none .none 217 467),
 (219,kF "is_paper" 28 "anydelay.races" 462 218),
 (223,kC "is_closed" 470 96 1 181 220 .none .none 222 473),
 (224,kF "is_closed" 29 "anydelay.races" 462 223),
 (228,kC "standings_ahead" 478 102 1 181 225 .none .none 227 481),
 (229,kF "standings_ahead" 31 "anydelay.onerest" 476 228),
 (233,kC "most_switchings" 484 108 1 181 230 .none .none 232 487),
 (234,kF "most_switchings" 32 "anydelay.onerest" 476 233),
 (240,kC "one_rest" 490 123 2 181 235 (.ref 237) (.ref 238) 239 497),
 (241,kF "one_rest" 33 "anydelay.onerest" 476 240),
 (247,kC "rest_paper" 500 130 2 181 242 (.ref 244) (.ref 245) 246 507),
 (248,kF "rest_paper" 34 "anydelay.onerest" 476 247),
 (254,kC "is_numbered" 510 137 1 181 249 (.ref 251) (.ref 252) 253 514),
 (255,kF "is_numbered" 35 "anydelay.onerest" 476 254),
 (259,kC "is_rest_paper" 517 139 2 181 256 .none .none 258 520),
 (260,kF "is_rest_paper" 36 "anydelay.onerest" 476 259),
 (264,kC "is_falling" 523 143 2 181 261 .none .none 263 526),
 (265,kF "is_falling" 37 "anydelay.onerest" 476 264),
 (269,kC "rest_shows" 529 148 4 181 266 .none .none 268 532),
 (270,kF "rest_shows" 38 "anydelay.onerest" 476 269),
 (274,kC "round_told" 535 157 3 181 271 .none .none 273 538),
 (275,kF "round_told" 39 "anydelay.onerest" 476 274),
 (281,kC "told_parting" 541 168 2 181 276 (.ref 278) (.ref 279) 280 549),
 (282,kF "told_parting" 40 "anydelay.onerest" 476 281),
 (288,kC "_law_draws" 554 177 2 181 283 (.ref 285) (.ref 286) 287 565),
 (289,kF "_law_draws" 42 "law_anydelay_k21_the_one_rest" 552 288),
 (293,kC "_law_names" 568 200 2 181 290 .none .none 292 571),
 (294,kF "_law_names" 43 "law_anydelay_k21_the_one_rest" 552 293),
 (300,kC "_law_rule" 574 222 4 181 295 (.ref 297) (.ref 298) 299 584),
 (301,kF "_law_rule" 44 "law_anydelay_k21_the_one_rest" 552 300),
 (307,kC "_law_held" 587 232 3 181 302 (.ref 304) (.ref 305) 306 593),
 (308,kF "_law_held" 45 "law_anydelay_k21_the_one_rest" 552 307),
 (312,kC "_law_known" 596 234 3 181 309 .none .none 311 599),
 (313,kF "_law_known" 46 "law_anydelay_k21_the_one_rest" 552 312),
 (319,kC "_law_deeper" 602 249 4 181 314 (.ref 316) (.ref 317) 318 613),
 (320,kF "_law_deeper" 47 "law_anydelay_k21_the_one_rest" 552 319),
 (326,kC "_law_net" 616 257 2 181 321 (.ref 323) (.ref 324) 325 631),
 (327,kF "_law_net" 48 "law_anydelay_k21_the_one_rest" 552 326),
 (331,kC "_law_standing" 634 278 2 181 328 .none .none 330 637),
 (332,kF "_law_standing" 49 "law_anydelay_k21_the_one_rest" 552 331),
 (338,kC "_law_holds" 640 280 2 181 333 (.ref 335) (.ref 336) 337 647),
 (339,kF "_law_holds" 50 "law_anydelay_k21_the_one_rest" 552 338),
 (343,kC "_law_asked" 650 290 2 181 340 .none .none 342 653),
 (344,kF "_law_asked" 51 "law_anydelay_k21_the_one_rest" 552 343),
 (348,kC "_law_ways" 656 300 2 181 345 .none .none 347 659),
 (349,kF "_law_ways" 52 "law_anydelay_k21_the_one_rest" 552 348),
 (355,kC "_law_levels" 662 309 2 181 350 (.ref 352) (.ref 353) 354 673),
 (356,kF "_law_levels" 53 "law_anydelay_k21_the_one_rest" 552 355),
 (360,kC "_law_one" 676 322 2 181 357 .none .none 359 679),
 (361,kF "_law_one" 54 "law_anydelay_k21_the_one_rest" 552 360),
 (367,kC "_law_copy" 682 327 1 181 362 (.ref 364) (.ref 365) 366 686),
 (368,kF "_law_copy" 55 "law_anydelay_k21_the_one_rest" 552 367),
 (372,kC "_law_kinds" 689 329 2 181 369 .none .none 371 692),
 (373,kF "_law_kinds" 56 "law_anydelay_k21_the_one_rest" 552 372),
 (379,kC "_law_bad" 695 333 2 181 374 (.ref 376) (.ref 377) 378 703),
 (380,kF "_law_bad" 57 "law_anydelay_k21_the_one_rest" 552 379),
 (386,kC "_law_refused" 706 340 5 181 381 (.ref 383) (.ref 384) 385 716),
 (387,kF "_law_refused" 58 "law_anydelay_k21_the_one_rest" 552 386),
 (393,kC "law" 719 354 1 181 388 (.ref 390) (.ref 391) 392 737),
 (394,kF "law" 59 "law_anydelay_k21_the_one_rest" 552 393)]
noncomputable def hk:Hook:=kmHook KF [3,23,24,36,37,56,57,68,69,80,81,92,93,104,105,108,114,115,121,122,126,127,131,132,138,139,145,146,152,153,159,160,166,167,173,174,180,181,187,188,194,195,201,202,208,209,213,214,218,219,223,224,228,229,233,234,240,241,247,248,254,255,259,260,264,265,269,270,274,275,281,282,288,289,293,294,300,301,307,308,312,313,319,320,326,327,331,332,338,339,343,344,348,349,355,356,360,361,367,368,372,373,379,380,386,387,393,394] (λ_=>rfl) [197]
noncomputable def vw:Program:={ PySem.Challenge.pw_anydelay_k21_the_one_rest with main:={ PySem.Challenge.pw_anydelay_k21_the_one_rest.main with body:=[1,2,3,4,5,6,7,9,10,11,12,13,14,15,16,17,18,19,20,21,23,24,25,26,28,29,31,32,33,34,35,36,37,38,39,40,42,43,44,45,46,47,48,49,50,51,52,53,54,55,56,57,58,59].map top } }
def LW (w:World):Prop:=(openEnds treeTable PySem.Challenge.rw_anydelay_k21_the_one_rest.prog w 6082).map (λs=>(openSeen vw [("NoStep" : Str),("TURNED" : Str)] (importedModules PySem.Challenge.rw_anydelay_k21_the_one_rest.prog.main.body) (λs=>xlAt vw [] s&&recOk (RowW.records PySem.Challenge.rw_anydelay_k21_the_one_rest.row.toRowW) s) true s,Hook.obs hk s))=some (openGood vw [("NoStep" : Str),("TURNED" : Str)],Hook.val hk w)
def LWa (w:World):Prop:=(openEnds treeTable PySem.Challenge.rw_anydelay_k21_the_one_rest.prog w 6082).map (λs=>(openSeen vw [("NoStep" : Str),("TURNED" : Str)] (importedModules PySem.Challenge.rw_anydelay_k21_the_one_rest.prog.main.body) (λs=>xlAt vw [] s&&recOk (RowW.records PySem.Challenge.rw_anydelay_k21_the_one_rest.row.toRowW) s) true s).1)=some (openGood vw [("NoStep" : Str),("TURNED" : Str)]).1
def LWb (w:World):Prop:=(openEnds treeTable PySem.Challenge.rw_anydelay_k21_the_one_rest.prog w 6082).map (λs=>(openSeen vw [("NoStep" : Str),("TURNED" : Str)] (importedModules PySem.Challenge.rw_anydelay_k21_the_one_rest.prog.main.body) (λs=>xlAt vw [] s&&recOk (RowW.records PySem.Challenge.rw_anydelay_k21_the_one_rest.row.toRowW) s) true s).2)=some (openGood vw [("NoStep" : Str),("TURNED" : Str)]).2
def LWc (w:World):Prop:=(openEnds treeTable PySem.Challenge.rw_anydelay_k21_the_one_rest.prog w 6082).map (λs=>Hook.obs hk s)=some (Hook.val hk w)
theorem LW.of {w:World} (a:LWa w) (b:LWb w) (c:LWc w):LW w:=by
 unfold LWa at a;unfold LWb at b;unfold LWc at c;unfold LW;generalize (openEnds treeTable PySem.Challenge.rw_anydelay_k21_the_one_rest.prog w 6082)=o at a b c ⊢
 cases o with
 | none=>cases a
 | some s=>exact congrArg some (Prod.ext (Prod.ext (QN a) (QN b)) (QN c))
set_option maxHeartbeats 0 in
theorem sd:PySem.Challenge.rw_anydelay_k21_the_one_rest.wellSaid=true:=by kernel_rfl
set_option maxHeartbeats 0 in
theorem zK:∀w:World,LWa (w.withFollow "special-get-raises" false):=λw=>by unfold LWa;kernel_rfl
set_option maxHeartbeats 0 in
theorem zJ:∀w:World,LWb (w.withFollow "special-get-raises" false):=λw=>by unfold LWb;kernel_rfl
set_option maxHeartbeats 0 in
theorem zI:∀w:World,LWc (w.withFollow "special-get-raises" false):=λw=>by unfold LWc;kernel_rfl
theorem Di:∀w:World,LW (w.withFollow "special-get-raises" false):=λw=>LW.of (zK w) (zJ w) (zI w)
set_option maxHeartbeats 0 in
theorem zH:∀w:World,LWa (w.withFollow "special-get-raises" true):=λw=>by unfold LWa;kernel_rfl
set_option maxHeartbeats 0 in
theorem zF:∀w:World,LWb (w.withFollow "special-get-raises" true):=λw=>by unfold LWb;kernel_rfl
set_option maxHeartbeats 0 in
theorem zE:∀w:World,LWc (w.withFollow "special-get-raises" true):=λw=>by unfold LWc;kernel_rfl
theorem Dh:∀w:World,LW (w.withFollow "special-get-raises" true):=λw=>LW.of (zH w) (zF w) (zE w)
theorem left:LeftO PySem.Challenge.rw_anydelay_k21_the_one_rest.prog vw [("NoStep" : Str),("TURNED" : Str)] (λs=>xlAt vw [] s&&recOk (RowW.records PySem.Challenge.rw_anydelay_k21_the_one_rest.row.toRowW) s) (Hook.obs hk) (Hook.val hk) 6082:=λw=>byRow2 (P:=LW) "special-get-raises" Di Dh w
end K2
section
variable {a b c d e f g h i j k l m n x r lo:Nat}
local macro_rules | `(tactic|kd_p) => `(tactic| (intros; first | solve_by_elim (maxDepth := 3) [Xx, Qz, Xz, QZ, Nat.lt_of_not_ge, Nat.lt_of_not_le, Nat.le_of_not_lt, Nat.ge_of_not_lt, Nat.le_add_right, Nat.le_add_left, Nat.sub_le, Nat.lt_succ_self, Nat.le_succ, Nat.add_le_add_left, Nat.add_le_add_right, Nat.add_lt_add_left, Nat.add_lt_add_right, Nat.succ_le_of_lt, Nat.lt_of_succ_le, Nat.le_of_eq, Nat.le_antisymm, Nat.lt_of_le_of_ne, Qf, QQ, Nat.sub_lt, Nat.succ_le_succ, Nat.lt_succ_of_le, Nat.le_of_lt_succ, Eq.symm, Eq.trans] | (subst_vars; solve_by_elim (maxDepth := 3) [Xx, Qz, Xz, QZ, Nat.lt_of_not_ge, Nat.lt_of_not_le, Nat.le_of_not_lt, Nat.ge_of_not_lt, Nat.le_add_right, Nat.le_add_left, Nat.sub_le, Nat.lt_succ_self, Nat.le_succ, Nat.add_le_add_left, Nat.add_le_add_right, Nat.add_lt_add_left, Nat.add_lt_add_right, Nat.succ_le_of_lt, Nat.lt_of_succ_le, Nat.le_of_eq, Nat.le_antisymm, Nat.lt_of_le_of_ne, Qf, QQ, Nat.sub_lt, Nat.succ_le_succ, Nat.lt_succ_of_le, Nat.le_of_lt_succ, Eq.symm, Eq.trans])))
theorem om0:a<=b->¬a<b->a=b:=by grind
theorem om1:a-b<=a-b:=by simp_all
theorem om2:¬b<a->a<=b:=by kd_p
theorem om3:c=b->b=d->a<c->a<b:=by kd_p
theorem om4:c<=b->c=a->a<=b:=by kd_p
theorem om5:a+1≠a:=by simp_all
theorem om6:b<a->a-(b+1)<a-b:=by omega
theorem om7:c=d->c=a->d=b->a=b:=by kd_p
theorem om8:a+(c+1)<b->a<b:=by grind
theorem om9:b=c->b=d->c=e->a<d->a<b:=by intros;simp_all
theorem Ey:c=b->c=d->b=e->a<d->a<b:=by intros;simp_all
theorem C5:a+(b+1)<c->a+1+b<c:=by omega
theorem zn:b=c->a<c->a<b:=by kd_p
theorem CL:a<c->b=c->a<b:=by kd_p
theorem Cy:c=a->d=b->c=d->a=b:=by kd_p
theorem sF:a+64<b->a<b:=by grind
theorem wA:a+64<b->a+1+8<b:=by grind
theorem zm:c=b->a<c->a<b:=by kd_p
theorem zk:b<=100000->a=b->a<=16777216:=by grind
theorem Ex:b<=a->a<=c->a-b<=c-0:=by grind
theorem Ew:a<b->a+(b-a) / 2+1<=b:=by grind
theorem Ev:a<b+(c-b) / 2+1->a<=b+(c-b) / 2:=by kd_p
theorem Eu:b<=c->a<b->a+(b-a) / 2<c:=by grind
theorem Et:a<=a+(b-a) / 2:=by kd_p
theorem Es:b<=c->a<b->a+(b-a) / 2<=c:=by omega
theorem Bk:a<=b->b-a<=c-max 0 c->a=b:=by grind
theorem Er:a<b->a+0<b:=by kd_p
theorem Bh:a<c->¬b>=c-a->a+b<c:=by grind
theorem Bb:a<2*a+1:=by grind
theorem Ep:a<d->b<c->a+b<d->a+b+1<=a+min c (d-a):=by grind
theorem Eo:a<c->a+min b (c-a)<=c:=by grind
theorem En:a<b+c+1->a<=b+c:=by kd_p
theorem Em:a<d->a+min b (d-a)<=c->b<d-a->a+b<=c:=by grind
theorem zj:a<=b->a>=b->a=b:=by grind
theorem Ba:b<=c->¬a>=b->a+(b-a) / 2<c:=by grind
theorem wz:¬a>=b->a<b:=by kd_p
theorem zi:0<=a:=by kd_p
theorem El:a<c->d<b->¬b>=a+1->a-b<c:=by grind
theorem Ek:¬a>=b+1->a<=b:=by kd_p
theorem Ej:c<b->c<=a->a+1-min b (a+1)<=a-c:=by omega
theorem Ei:a<c->b<=a->a-b<=c:=by grind
theorem Eh:a<b+1-min c (b+1)->c<b+1->a<=b-c:=by grind
theorem Eg:a<c->d<b->b<a+1->a-b<c:=by grind
theorem Ef:a+1=b->a<b:=by kd_p
theorem Ee:a+b+1=a+(b+1):=by kd_p
theorem sE:a<=b->a+1<=b+1:=by kd_p
theorem Ed:a+b+1=a+1+b:=by grind
theorem A_:a<min b c->a<min b c:=by kd_p
theorem wy:a<min b c->a<b:=by grind
theorem A9:a+b<=c->min (a+b) c-a=b:=by intros;simp_all
theorem Ec:a+b+c=a+c+b:=by grind
theorem A8:c=d->a<=b->a<=b+c:=by grind
theorem Eb:a+b+c=a+(b+c):=by grind
theorem A7:a<=b->¬a=b->a<b:=by grind
theorem A6:a+d<=c->b<d->a+b<c:=by grind
theorem Ea:a+d<=c->b<=e->e<d->a+b<c:=by grind
theorem uL:a<=a+b:=by kd_p
theorem D_:b<=c->a+b<=a+c:=by kd_p
theorem D9:b<c->a+b<a+c:=by kd_p
theorem uK:1<=a->0<a:=by kd_p
theorem A5:1<=a->0<=a:=by kd_p
theorem D8:1<=a->¬0+1=a->0+1<a:=by grind
theorem D7:1<=b->1<=a->¬1=a->¬0+1=b->1<a:=by grind
theorem zh:a+1<b->a<b:=by kd_p
theorem zg:a<b->¬a+1=b->a+1<b:=by omega
theorem wx:a+1+(b+1)<=a+1+b+1:=by kd_p
theorem A4:a+1<b->¬a+1+1=b->a+1+1<b:=by omega
theorem D6:a+1<b->a+(b-a)<=b:=by grind
theorem D5:b+1<a->0<a-b:=by grind
theorem D4:a<b->a+1+(b-(a+1))<=b:=by omega
theorem D3:b<a->¬b+1=a->0<a-(b+1):=by omega
theorem A3:a+1+(b+1)<=a+1+b+1+1:=by kd_p
theorem D2:a<c->b<=c-(a+1)->a+1+b<=c:=by grind
theorem A2:¬a>0->a=0:=by simp
theorem D1:b<a->¬b+1=a->0<=a-(b+1)->0<a-(b+1):=by grind
theorem D0:a+1<c->b<=c-a->a+b<=c:=by grind
theorem DZ:b+1<a->0<=a-b->0<a-b:=by omega
theorem DY:1<=a->a=a-1+1:=by intros;simp_all
theorem A1:1<=a->a<=b->a-1<=b:=by grind
theorem DX:1<=b->a+b+c=d+e->a+1+(b-1)+c=d+e:=by grind
theorem DW:1<=c->a+b+c=d+e->a+1+b+(c-1)=d+e:=by grind
theorem DV:a<min b c-d->a<min b c-d:=by intros;simp_all
theorem A0:b<min c d-a->a+b<c:=by omega
theorem AZ:c<=a->a<=b->min a b-c=a-c:=by intros;simp_all
theorem AY:a<=c->c<=b->a<=b:=by grind
theorem AX:c=d-e->a<=b->a<=b+c:=by grind
theorem sD:1<=a->a-1<a:=by grind
theorem DU:1<=b->1<=c->¬a=0->¬c=1->1<=a:=by grind
theorem ze:1<=a->a<=b->a-1<b:=by omega
theorem zd:2<=a->a<=b->a-1<b:=by grind
theorem uJ:2<=a->1<=a:=by kd_p
theorem AK:1<=a->¬a-1=0->1<=a-1:=by omega
theorem AJ:2<=a->¬a-1=1->2<=a-1:=by grind
theorem DT:a<=b->0+a<=b:=by grind
theorem DS:2<=a->a<=b->0+(a-1)<=b:=by grind
theorem DR:2<=a->a-1-1<a-1:=by grind
theorem DQ:a<=b-1->a<=b-1:=by kd_p
theorem DP:¬a=1->¬a=0->2<=a:=by grind
theorem DO:2<=a->c=a-1-b->¬c>0->a-1-1<b:=by omega
theorem zc:a<=b->a<=b:=by simp
theorem C_:¬a=0->1<=a:=by grind
theorem C9:1<=a->c=a-b->¬c>0->a-1<b:=by omega
theorem C8:a<=b->b<1->a=b:=by intros;simp_all
theorem ym:a<b+1->¬a<b->a=b:=by grind
theorem yk:a<=b->1<=b->¬a=b->a<=b-1:=by grind
theorem yj:1<=b->b<=a->1<=a:=by omega
theorem uN:a<b->a<=b:=by kd_p
theorem C7:a<=b->max a b=b:=by intros;simp_all
theorem C6:d<=a->b<d->¬(a<=b/\b<c):=by grind
theorem yi:1<=b->a+b-1=a+(b-1):=by grind
theorem C4:a<=b->¬a=b->max (a+1) b=b:=by grind
theorem rb:a+d<=e->b<d->c=e->a+b<c:=by omega
theorem C3:c+1<=b->a+b-1=a+(b-1):=by grind
theorem uM:b+1<=a->1<=a:=by grind
theorem yh:c+1<=b->a<=a+b-(c+1):=by omega
theorem C2:a+d<=e->b<d->c=e->a+b<=c:=by grind
theorem yg:0+1<=a+1:=by kd_p
theorem C1:b+1-(0+1)<=a->a<b+1->a=b+1-1:=by grind
theorem CZ:a+1<=b->a+1+1<=b+1:=by kd_p
theorem CY:a+1-1=a:=by kd_p
theorem CW:a<b+1->¬a=b->a<b:=by omega
theorem CV:a+d<=e->b<=d->f=e->c=e->a+b<=c:=by grind
theorem CU:b<=d->d<c->a<=a+b/\a+b<a+c:=by grind
theorem CQ:b<c->a<=a+b/\a+b<a+c:=by intros;simp_all
theorem CP:c<=b->b<a->a-1-b<=a-1-c:=by omega
theorem CO:b<=c->c<a->a-1-b<a:=by grind
theorem CN:b+1<=c->c<=a->1<=a:=by grind
theorem CM:a+d<=e->b<=d->c=e->a+b<=c:=by grind
theorem CK:1<=c->a+c<=b->a<b:=by grind
theorem CJ:b>1->a+b-1=a+(b-1):=by grind
theorem CI:b>1->a<b->a<=b-1:=by grind
theorem CG:a>1->a-1<a:=by omega
theorem CF:a+d<=c->b<=d->a+b<=c:=by grind
theorem CD:a<=c->c<b->a<b:=by grind
theorem CC:1<=c->¬c>1->a<=b->b<c->a=b:=by grind
theorem CB:a<=b->b<min (max c 1) d->c=0->a=b:=by grind
theorem CA:b<=c->a<min (max b 1) c->¬b=0->a<b:=by grind
theorem Cz:min (max (max a 1) b) b=b:=by grind
theorem Cw:a<b->min a b=a:=by grind
theorem Cv:a<=a:=by simp
theorem Cu:a-0<=a-0:=by kd_p
theorem Ct:¬a>=b->a<=(a+b) / 2:=by grind
theorem Cs:b<=c->¬a>=b->(a+b) / 2<=c:=by grind
theorem Cr:¬a>=b->(a+b) / 2+1<=b:=by omega
theorem Cq:a<(b+c) / 2+1->a<=(b+c) / 2:=by kd_p
theorem Cp:b<=c->¬a>=b->(a+b) / 2<c:=by omega
theorem Co:c<=b->d<a->a+b-(a+c)<=a+b:=by kd_p
theorem Cn:d<=c->a<b->¬a=b+c-(b+c-(b+d)):=by omega
theorem Cm:a<b->min (a+1) b=a+1:=by grind
theorem yf:c<=b->a+b-(a+c)<=a+b:=by kd_p
theorem Cl:c<=b->a+b-(a+b-(a+c))=a+c:=by grind
theorem Ck:c<b->a+b-1=a+(b-1):=by grind
theorem ye:b<c->¬a+b=a+c:=by grind
theorem yd:c<b->¬(a+b<a+c/\a+c<=a+d):=by grind
theorem Cj:c<=b->a<b+1->a<c->a<b:=by grind
theorem yc:b=c->a+b=a+c:=by kd_p
theorem yb:¬b=c->¬a+b=a+c:=by simp
theorem ya:¬b<a->¬b=a->a<b:=by grind
theorem Ci:a<=b->a<c->¬b<c->a<=b-1:=by grind
theorem Ch:c<=b->d<=a->a<b+1->d<c->a-1<b:=by omega
theorem Cg:d=c->b=c->a+b=a+c:=by kd_p
theorem Cf:d=c->¬b=c->¬a+b=a+c:=by intros;simp_all
theorem Ce:c<=b->c=a->¬b=a->a<b:=by omega
theorem Cd:c<=b->c=a->¬b=a->a<=b-1:=by grind
theorem Cc:c<=a->a<b+1->c=d->¬a=d->a-1<b:=by grind
theorem Cb:d<=b->¬d<c->¬d=c->¬a+b=a+c:=by grind
theorem Ca:c<=b->¬c<a->¬c=a->a<b:=by grind
theorem B_:a<=b->a-1<=b-1:=by omega
theorem B9:c<=a->a<b+1->¬c<d->¬c=d->a-1<b:=by grind
theorem B8:c=a+b->¬a+b<c:=by intros;simp_all
theorem B7:c=a+b->a+b-c=0:=by intros;simp_all
theorem B6:a=b+c->a+1=b+(c+1):=by kd_p
theorem B5:¬a+1<a:=by simp
theorem B4:1<=b->d=a+(b+(e+f))->a<=a+b+c:=by grind
theorem B3:1<=a->d=b+(a+(e+f))->a<=b+a+c-b:=by grind
theorem B2:a+b+c-a-b=c:=by grind
theorem B1:1<=b->c=d+(b+(e+f))->a<b->a<=b-1:=by grind
theorem B0:1<=d->c=a+(b+(d+e))->a+b<=c:=by kd_p
theorem BZ:1<=a->b=c+(a+(d+e))->0<a:=by kd_p
theorem BY:a<=b->a+(b-a)=b:=by intros;simp_all
theorem BX:a<=c->c<=b->a+(b-a)=b:=by grind
theorem BW:b<=a->a<=c->a-b<=c-b:=by grind
theorem BV:c=d+(b+(e+f))->g<=b->a<g->a<b:=by grind
theorem BU:1<=a->b=c+(a+(d+e))->a-1<a:=by grind
theorem BT:d=a+(b+(c+e))->a+b+c<=d:=by grind
theorem x_:c<=b->a<c->a<b:=by grind
theorem BS:a=0->a<=b:=by intros;simp_all
theorem BR:d=a+(c+(e+f))->b<=c->a+min b c=a+b+0:=by intros;simp_all
theorem BQ:c<=d->e=c->a-b+min c d=a-b+c:=by intros;simp_all
theorem BP:c=d->d<=b->a<d->a<=b:=by grind
theorem BO:a<c->c<=b->a<=b:=by grind
theorem xZ:a<min b (c-d)->a<b:=by grind
theorem BN:a+1<b->min a b=a:=by grind
theorem BL:b=c+a->max 0 b<=c->a=0:=by grind
theorem BK:b=c->c=d+a->d>=c->a=0:=by grind
theorem BJ:c=d->¬b>=d->d=b->a<=b:=by kd_p
theorem BI:c=a->a=b+d->¬b>=a->1<=a-b:=by grind
theorem BH:c=b->b=a+d->¬a>=b->a+(b-a)<=c:=by intros;simp_all
theorem BG:a<=c->1<=d->e=c->b=c+d->a+1<=b:=by grind
theorem BF:a=b->a>1->a-2+1<b:=by grind
theorem BE:a=c+d->a+b=c+(d+b):=by grind
theorem BD:a<=c->b≠0->a+1<=b+c:=by grind
theorem BC:b=c->a<=c->a+0<=b+1:=by kd_p
theorem BB:b=a->b<=1->a<=1:=by kd_p
theorem BA:b=c->a+max 0 b<=b+1->a<=1:=by grind
theorem xY:a<=100000->a<=16777216:=by grind
theorem Bz:a<=100000->b=a->b<2->a<=16777216+1:=by grind
theorem By:a<=100000->b=a->¬b<2->2<=a:=by kd_p
theorem Bx:a<=100000->b=a->¬b<2->a<=16777216+1:=by grind
theorem Bw:a<=d+c->d<=b+1->a<=b+(c+1):=by grind
theorem Bv:a+2≠a+4:=by simp
theorem Bu:a+3≠a+4:=by simp_all
theorem Bt:a≠a+4:=by grind
theorem Bs:a+1≠a+4:=by simp_all
theorem Br:a+2≠a+3:=by simp
theorem Bq:a+2≠a:=by grind
theorem Bp:a+2≠a+1:=by simp
theorem Bo:a+3≠a:=by simp
theorem Bn:a+3≠a+1:=by simp
theorem Bm:a≠a+1:=by simp
theorem Bl:b=a+5->a<=b:=by intros;simp_all
theorem Bj:a<=a+1:=by simp
theorem xX:b-a=0->a<=b->a=b:=by grind
theorem Bi:a-b=0->0=a-b:=by kd_p
theorem xW:b-a=c+1->a<=b->a<b:=by grind
theorem xV:c<=b->a<=d->d<c->a<=b:=by grind
theorem xU:a-b=c+1->b<a->a-(b+1)=c:=by grind
theorem xT:a<b->a+1<=b:=by kd_p
theorem Bg:a-b=c+1->b<a->a-(b+1)+1=a-b:=by omega
theorem Be:a+(b+1)=a+1+b:=by grind
theorem Bc:a-b=c+1->b<a->a-b=a-(b+1)+1:=by omega
theorem AV (h:k-l<=n-x):k-(l+(k-l)/2+1)<=n-(x+1):=by rw[Nat.add_assoc,<-Nat.sub_sub,<-Nat.sub_sub n x 1];exact QZ (Nat.sub_le_sub_left (Nat.le_add_left 1 _) _) (Nat.sub_le_sub_right h 1)
theorem AU (h:k-l<=n-x) (e:l<k):l+(k-l)/2-l<=n-(x+1):=by rw[Xp,<-Nat.sub_sub n x 1];exact QZ (Nat.le_sub_one_of_lt (Nat.div_lt_self (Nat.sub_pos_of_lt e) (by decide))) (Nat.sub_le_sub_right h 1)
theorem AT (h:r-l<=k-x) (c:¬l>=r):r-((l+r)/2+1)<=k-(x+1):=by rw[<-Nat.sub_sub,<-Nat.sub_sub k x 1];exact Nat.sub_le_sub_right (QZ (Nat.sub_le_sub_left ((Nat.le_div_iff_mul_le (by decide)).mpr (by rw[Nat.mul_two];exact Nat.add_le_add_left (Xx (Nat.lt_of_not_ge c)) _)) _) h) 1
theorem AS (h:r-l<=k-x) (c:¬l>=r):(l+r)/2-l<=k-(x+1):=by rw[<-Nat.sub_sub k x 1];refine QZ ?_ (Nat.sub_le_sub_right h 1);rw[Nat.sub_sub,Nat.add_comm l 1,<-Nat.sub_sub];exact Nat.sub_le_sub_right (Nat.le_sub_one_of_lt ((Nat.div_lt_iff_lt_mul (by decide)).mpr (by rw[Nat.mul_two];exact Nat.add_lt_add_right (Nat.lt_of_not_ge c) _))) _
theorem xS (h:d<=x) (q:lo+x-d<=lo+i/\lo+i<lo+x):lo+x-d+(lo+x)-1-(lo+i)=lo+(x-d+x-1-i)/\x-d<=x-d+x-1-i/\x-d+x-1-i<x/\x-d<=i/\i<x:=by obtain⟨y,rfl⟩:∃y,x=y+d:=⟨x-d,(Nat.sub_add_cancel h).symm⟩;have e:lo+(y+d)-d=lo+y:=(by rw[<-Nat.add_assoc,Nat.add_sub_cancel]);rw[e]at q;rw[e,Nat.add_sub_cancel];obtain⟨p,rfl⟩:∃p,i=y+p:=⟨i-y,(Nat.add_sub_of_le (Nat.le_of_add_le_add_left q.1)).symm⟩;have l:=Nat.lt_of_add_lt_add_left (Nat.lt_of_add_lt_add_left q.2);obtain⟨z,rfl⟩:∃z,d=p+1+z:=⟨d-(p+1),(Nat.add_sub_of_le l).symm⟩;have t:∀u:Nat,u+y+(u+(y+(p+1+z)))-1-(u+(y+p))=u+(y+z):=(λu=>by rw[show u+y+(u+(y+(p+1+z)))=u+(y+p)+(u+(y+z))+1 by ac_rfl,Nat.add_sub_cancel,Xp]);have t0:=t 0;simp only[Nat.zero_add]at t0;rw[t,t0];exact⟨rfl,Nat.le_add_right _ _,by omega,Nat.le_add_right _ _,Nat.add_lt_add_left l _⟩
theorem uI (q:i<n):lo+(lo+n)-1-(lo+i)=lo+(n-1-i):=by obtain⟨p,rfl⟩:∃p,n=i+1+p:=⟨n-(i+1),(Nat.add_sub_of_le q).symm⟩;rw[show lo+(lo+(i+1+p))=lo+i+(lo+p)+1 by ac_rfl,Nat.add_sub_cancel,Xp,Nat.sub_sub,Nat.add_comm 1 i,Xp]
theorem AR (h:k<=x):f+k+(x-k)-1=f+(x-1)\/x=0:=by obtain⟨y,rfl⟩:∃y,x=k+y:=⟨x-k,(Nat.add_sub_of_le h).symm⟩;rw[Xp,Nat.add_assoc];cases (k+y);exact .inr rfl;exact .inl rfl
theorem AQ (h:k<=x) (q:¬x-k=0) (z:m=x-k):k+(m-1)=x-1:=by subst z;rw[<-Nat.add_sub_assoc (Nat.pos_of_ne_zero q),Nat.add_sub_of_le h]
theorem AO (h:2<=n) (q:¬n-1=1):2<=n-1:=Nat.le_sub_one_of_lt (Nat.lt_of_le_of_ne h λz=>q (by rw[<-z]))
theorem AM (h:j=n-2-1\/j=n-2) (q:¬n<=1) (e:n=m):j+1<m:=by subst e;obtain⟨z,rfl⟩:∃z,n=z+2:=⟨n-2,(Nat.sub_add_cancel (Nat.lt_of_not_le q)).symm⟩;rw[Nat.add_sub_cancel]at h;rcases h with rfl|rfl;exact Nat.lt_succ_of_le (Nat.add_le_add_right (Nat.sub_le _ _) 1);exact Nat.lt_succ_self _
end
-- CHANGE: your row's module here,as the last of these rows
namespace L2
open PySem PySem.Spec PyProof.Rows
abbrev Key:=Sum Int Str
def iG:Key->Value->Bool
 | .inl k,v=>Value.isInt k v
 | .inr x,v=>Value.isStrOf x v
def EC (w:World):Key->Int
 | .inl k=>hashInt k
 | .inr x=>hashStr w x
theorem bA:∀{k:Key} {v:Value},iG k v=true->(∃i t,k=Sum.inl i/\v=Value.int i t)\/(∃x t,k=Sum.inr x/\v=Value.str x t)
 | .inl i,v,h=>by
  obtain⟨t,e⟩:=Value.isInt_shape (k:=i) (v:=v) h;exact .inl ⟨i,t,rfl,e⟩
 | .inr x,v,h=>by
  obtain⟨t,e⟩:=Value.isStrOf_shape (x:=x) (v:=v) h;exact .inr ⟨x,t,rfl,e⟩
theorem sX (i:Int) (t:Tok):iG (.inl i) (.int i t)=true:=by simp[iG,Value.isInt]
theorem sW (x:Str) (t:Tok):iG (.inr x) (.str x t)=true:=by simp[iG,Value.isStrOf]
theorem zP (a b:Int):decide ((Sum.inl a:Key)=Sum.inl b)=(a==b):=by
 by_cases e:a=b
 ·subst e;simp
 have h:¬(Sum.inl a:Key)=Sum.inl b:=λq=>e (Sum.inl.inj q);rw[Xa h];exact(beq_eq_false_iff_ne.mpr e).symm
theorem zM (a b:Str):decide ((Sum.inr a:Key)=Sum.inr b)=decide (a=b):=by
 by_cases e:a=b
 ·subst e;simp
 have h:¬(Sum.inr a:Key)=Sum.inr b:=λq=>e (Sum.inr.inj q);rw[Xa h,Xa e]
theorem zO (a:Int) (b:Str):decide ((Sum.inl a:Key)=Sum.inr b)=false:=Xa (λq=>nomatch q)
theorem zN (a:Str) (b:Int):decide ((Sum.inr a:Key)=Sum.inl b)=false:=Xa (λq=>nomatch q)
noncomputable def bp (prog:Program) (w:World):PySem.KeyKind prog w Key where
 is:=iG
 hash:=EC w
 inj:=λv a b ha hb=>by
  rcases bA ha with⟨i,t,rfl,rfl⟩|⟨x,t,rfl,rfl⟩
  ·rcases bA hb with⟨j,u,rfl,e⟩|⟨y,u,rfl,e⟩
   ·injection e with e1 _;rw[e1]
   exact nomatch e
  rcases bA hb with⟨j,u,rfl,e⟩|⟨y,u,rfl,e⟩
  ·exact nomatch e
  injection e with e1 _;rw[e1]
 byValue:=λk v h=>by
  rcases bA h with⟨i,t,rfl,rfl⟩|⟨x,t,rfl,rfl⟩ <;> rfl
 pyHash:=λhv h=>by
  rcases bA hv with⟨i,t,rfl,rfl⟩|⟨x,t,rfl,rfl⟩
  ·exact wpAny_pyHash_int h
  exact wpAny_pyHash_str h
 eqBool:=λhu hv h=>by
  rcases bA hu with⟨i,t,rfl,rfl⟩|⟨x,t,rfl,rfl⟩
  ·rcases bA hv with⟨j,u,rfl,rfl⟩|⟨y,u,rfl,rfl⟩
   ·rw[zP]at h;exact wpAny_eqBool_int h
   rw[zO]at h;exact SeqAt.EqAt.int_str i t y u _ _ _ _ h
  rcases bA hv with⟨j,u,rfl,rfl⟩|⟨y,u,rfl,rfl⟩
  ·rw[zN]at h;exact SeqAt.EqAt.str_int x t j u _ _ _ _ h
  rw[zM]at h;exact wpAny_eqBool_str h
 «strs»:=λk x t v h=>by
  rcases bA h with⟨i,u,rfl,e⟩|⟨y,u,rfl,e⟩
  ·exact nomatch e
  injection e with e1 _;subst e1;cases v <;> rfl
theorem oz (prog:Program) (w:World) (i:Int) (t:Tok):(bp prog w).is (.inl i) (.int i t)=true:=sX i t
theorem fv (prog:Program) (w:World) (x:Str) (t:Tok):(bp prog w).is (.inr x) (.str x t)=true:=sW x t
inductive V where
 | non|bl (b:Bool)|int (i:Int)|str (x:Str)|byt (b:Array UInt8)|flt (b:UInt64)|ref (a:Addr)|ty (n:String)
 deriving DecidableEq
noncomputable def aX:V->Value->Prop
 | .non,u=>u=Value.none
 | .bl b,u=>u=Value.bool b
 | .int i,u=>∃t,u=Value.int i t
 | .str x,u=>∃t,u=Value.str x t
 | .byt b,u=>∃t,u=Value.bytes b t
 | .flt b,u=>∃t,u=Value.float b t
 | .ref a,u=>u=Value.ref a
 | .ty n,u=>u=Value.type n
abbrev be:List V->List Value->Prop:=Paired aX
theorem be.length {xs:List V} {us:List Value} (r:be xs us):xs.length=us.length:=Paired.length r
theorem be.get:∀{xs:List V} {us:List Value} {i:Nat} {x:V},be xs us->xs[i]?=some x->∃u,us[i]?=some u/\aX x u
 | _,_,_,_,.nil,e=>by simp at e
 | _,_,0,_,.cons r _,e=>by simp at e;subst e;exact⟨_,rfl,r⟩
 | _,_,i+1,x,.cons _ t,e=>by
  obtain⟨u,h1,h2⟩:=be.get (i:=i) (x:=x) t (by simpa using e);exact⟨u,by simpa using h1,h2⟩
variable {u cd dV doc pm cdv ct oc:Value}
theorem be.set {x:V} (r:aX x u):∀{xs:List V} {us:List Value} (i:Nat),be xs us->be (xs.set i x) (us.set i u)
 | _,_,_,.nil=>.nil
 | _,_,0,.cons _ t=>.cons r t
 | _,_,i+1,.cons q t=>.cons q (be.set r i t)
theorem be.append:∀{xs ys:List V} {us ws:List Value},be xs us->be ys ws->be (xs++ys) (us++ws)
 | _,_,_,_,.nil,s=>s
 | _,_,_,_,.cons r t,s=>.cons r (be.append t s)
theorem be.take:∀{xs:List V} {us:List Value} (n:Nat),be xs us->be (xs.take n) (us.take n)
 | _,_,0,_=>.nil
 | _,_,_+1,.nil=>.nil
 | _,_,n+1,.cons r t=>.cons r (be.take n t)
theorem be.drop:∀{xs:List V} {us:List Value} (n:Nat),be xs us->be (xs.drop n) (us.drop n)
 | _,_,0,r=>r
 | _,_,_+1,.nil=>.nil
 | _,_,n+1,.cons _ t=>be.drop n t
def iR:Option V->Option Value->Prop
 | some v,some u=>aX v u
 | none,none=>True
 | _,_=>False
def KV {κ:Type}:List (κ × V)->List (κ × Value)->Prop:=Paired λ(p:κ × V) (q:κ × Value)=>p.1=q.1/\aX p.2 q.2
def kV:Key->V
 | .inl i=>.int i
 | .inr x=>.str x
inductive HO where
 /-- a list -/
 | lst (xs:List V)
 /-- a tuple (never changes) -/
 | tup (xs:List V)
 /-- a dict whose keys are ints and texts;one whose keys are tuples of ints and texts (the empty one is both) -/
 | dK (kvs:List (Key × V))|dT (kvs:List (List Key × V))
 /-- a set of ints: its members,its size -/
 | set (S:Int->Bool) (n:Nat)
 /-- an instance of the class at C,its dict at dx,its attributes -/
 | ins (C dx:Addr) (fs:List (Str × V))
 /-- the dict of the instance at x -/
 | own (x:Addr)
 /-- the dict of an exception -/
 | xd (fs:List (Str × V))
 /-- a bound method,f of x -/
 | met (f x:Addr)
 /-- a range object lo,lo+1,.. below hi -/
 | rng (lo hi:Int)
 /-- a thing that is known to the object (the script;a dict while a loop walks it): read,never written while it is so -/
 | frz (o:Obj) (u:HO)
 /-- a code object's table -/
 | tbl (ps:Array Value)
 /-- any other thing,by what is true of its one object (a def of one's own: SetO a S n:=HO.ext λh=>..) -/
 | ext (φ:Heap->Prop)
abbrev Hp:=Addr->Option HO
def upd (H:Hp) (a:Addr) (o:HO):Hp:=λb=>if b=a then some o else H b
variable {o:HO} {a b it dx C f:Addr} {H H':Hp}
theorem af:upd H a o a=some o:=by unfold upd;rw[QJ rfl]
theorem aj (h:b≠a):upd H a o b=H b:=by unfold upd;rw[QA h]
theorem v7 {u:HO}:upd (upd H a o) a u=upd H a u:=by
 funext b;unfold upd;split <;> rfl
theorem jD {u:HO} (h:H a=some o) (h':H b=some u) (d:o≠u):a≠b:=by
 intro e;subst e;rw[h]at h';exact d (QN h')
theorem aE (h:H a=some o) (h':H b=none):a≠b:=by
 intro e;subst e;rw[h]at h';cases h'
section
variable (P:Program) (w:World)
noncomputable def bn (H:Hp) (h:Heap) (a:Addr):HO->Prop
 | .lst xs=>xs.length<=sizeLine/\∃(its:List Value) (n:Nat),be xs its/\h.get? a=some { cls:=.type "list", data:=.seq its.toArray n }
 | .tup xs=>xs.length<=sizeLine/\∃its:List Value,be xs its/\IsTup h a its.toArray
 | .dK kvs=>kvs.length<=sizeLine/\(a==sysModules)=false/\∃vs,KV kvs vs/\h.DictOf (bp P w) a vs
 | .dT kvs=>kvs.length<=sizeLine/\(a==sysModules)=false/\∃xs:List (List Key × Addr × Value),
   Paired (λ(p:List Key × V) (q:List Key × Addr × Value)=>p.1=q.1/\H q.2.1=some (.tup (p.1.map kV))/\aX p.2 q.2.2) kvs xs /\
   ∃o es ep,h.get? a=some o/\o.ExactDict/\o.data=.dict es ep/\es.toList=xs.map (entryOfKey (tupleKind (bp P w)))/\(xs.map (·.1)).Nodup
 | .set S n=>h.SetOf (intKind P w) a S n
 | .ins C dx fs=>H dx=some (.own a)/\fs.length<=1000/\dx≠a/\h.get? a=some (PySem.W.instObj C dx) /\
   ∃mA,h.Ns1 dx mA/\(∀f,iR (fs.lookup f) (mA f))/\PySem.Within mA (fs.map (·.1))
 | .own _=>∃o,h.get? a=some o
 | .xd fs=>∃mA,h.Ns1 a mA/\∀f,iR (fs.lookup f) (mA f)
 | .rng lo hi=>∃t u v,h.get? a=some { cls:=.type "range", data:=.fields #[.int lo t,.int hi u,.int 1 v] }
 | .frz o u=>h.get? a=some o/\bn H h a u
 | .tbl ps=>h.get? a=some { cls:=.none,data:=.fields ps }
 | .met f x=>h.get? a=some (PySem.W.methodObj (.ref f) (.ref x))
 | .ext φ=>φ h/\(∃o,h.get? a=some o)/\∀h1 h2:Heap,φ h1->(∀o,h1.get? a=some o->h2.get? a=some o)->φ h2
def HOk (H:Hp) (h:Heap):Prop:=∀a o,H a=some o->bn P w H h a o
end
section
variable {P:Program} {w:World} {H H':Hp} {h h':Heap} {a:Addr} {o:HO}
theorem bn.lt (x:bn P w H h a o):a<h.objs.size:=by
 cases o with
 | lst xs=>obtain⟨_,_,_,_,e⟩:=x;exact Qn e
 | tup xs=>obtain⟨_,_,_,p⟩:=x;exact p.lt
 | dK kvs=>obtain⟨_,_,_,_,o,_,_,e,_⟩:=x;exact Qn e
 | dT kvs=>obtain⟨_,_,_,_,o,_,_,e,_⟩:=x;exact Qn e
 | set S n=>obtain⟨o,_,_,_,e,_⟩:=x;exact Qn e
 | ins C dx fs=>obtain⟨_,_,_,e,_⟩:=x;exact Qn e
 | own y=>obtain⟨_,e⟩:=x;exact Qn e
 | xd fs=>obtain⟨_,⟨_,_,_,e,_⟩,_⟩:=x;exact Qn e
 | rng lo hi=>obtain⟨_,_,_,e⟩:=x;exact Qn e
 | frz ob u=>obtain⟨e,_⟩:=x;exact Qn e
 | tbl ps=>exact Qn (show h.get? a=some _ from x)
 | met f y=>exact Qn (show h.get? a=some _ from x)
 | ext φ=>obtain⟨_,⟨_,e⟩,_⟩:=x;exact Qn e
theorem Paired.mapP {α β:Type} {F G:α->β->Prop}:∀{l₁:List α} {l₂:List β},Paired F l₁ l₂->(∀a b,F a b->G a b)->Paired G l₁ l₂
 | _,_,.nil,_=>.nil
 | _,_,.cons r t,f=>.cons (f _ _ r) (Paired.mapP t f)
theorem bn.stay (x:bn P w H h a o) (k:∀b u,(b=a\/H b=some (.own a))->h.get? b=some u->h'.get? b=some u)
  (ho:∀b,H b=some (.own a)->H' b=some (.own a)) (ht:∀b xs,H b=some (.tup xs)->H' b=some (.tup xs)):bn P w H' h' a o:=by
 induction o with
 | lst xs=>obtain⟨z,its,n,r,e⟩:=x;exact⟨z,its,n,r,k _ _ (.inl rfl) e⟩
 | tup xs=>obtain⟨z,its,r,ob,e,c⟩:=x;exact⟨z,its,r,ob,k _ _ (.inl rfl) e,c⟩
 | dK kvs=>obtain⟨z,y,vs,r,ob,es,ep,e,c⟩:=x;exact⟨z,y,vs,r,ob,es,ep,k _ _ (.inl rfl) e,c⟩
 | dT kvs =>
  obtain⟨z,y,xs,r,ob,es,ep,e,c⟩:=x;exact⟨z,y,xs,Paired.mapP r λp q z=>⟨z.1,ht _ _ z.2.1,z.2.2⟩,ob,es,ep,k _ _ (.inl rfl) e,c⟩
 | set S n=>obtain⟨ob,es,ep,t,e,c⟩:=x;exact⟨ob,es,ep,t,k _ _ (.inl rfl) e,c⟩
 | ins C dx fs =>
  obtain⟨d,z,ne,e,mA,⟨od,es,ep,e2,c⟩,r⟩:=x;exact⟨ho _ d,z,ne,k _ _ (.inl rfl) e,mA,⟨od,es,ep,k _ _ (.inr d) e2,c⟩,r⟩
 | own y=>obtain⟨ob,e⟩:=x;exact⟨ob,k _ _ (.inl rfl) e⟩
 | xd fs=>obtain⟨mA,⟨od,es,ep,e,c⟩,r⟩:=x;exact⟨mA,⟨od,es,ep,k _ _ (.inl rfl) e,c⟩,r⟩
 | rng lo hi=>obtain⟨t,u,v,e⟩:=x;exact⟨t,u,v,k _ _ (.inl rfl) e⟩
 | frz ob u ih=>obtain⟨e,q⟩:=x;exact⟨k _ _ (.inl rfl) e,ih q⟩
 | tbl ps =>
  have e:h.get? a=some { cls:=.none,data:=.fields ps }:=x;show h'.get? a=some { cls:=.none,data:=.fields ps };exact k a _ (.inl rfl) e
 | met f y =>
  have e:h.get? a=some (PySem.W.methodObj (.ref f) (.ref y)):=x;show h'.get? a=some (PySem.W.methodObj (.ref f) (.ref y));exact k a _ (.inl rfl) e
 | ext φ=>obtain⟨p,⟨o,e⟩,st⟩:=x;exact⟨st _ _ p λo q=>k _ _ (.inl rfl) q,⟨o,k _ _ (.inl rfl) e⟩,st⟩
theorem HOk.lt (x:HOk P w H h) (e:H a=some o):a<h.objs.size:=(x a o e).lt
theorem HOk.fresh (x:HOk P w H h) (e:h.objs.size<=a):H a=none:=by
 cases q:H a with
 | none=>rfl
 | some u=>exact absurd (Qz (x.lt q) e) (Nat.lt_irrefl _)
theorem HOk.kept (x:HOk P w H h) (k:∀b u,h.get? b=some u->h'.get? b=some u):HOk P w H h':=λa o e =>
 (x a o e).stay (λb u _ q=>k b u q) (λ_ q=>q) λ_ _ q=>q
theorem HOk.laid (x:HOk P w H h) (k:∀b u,h.get? b=some u->h'.get? b=some u) (hp:h.objs.size<=a) (new:bn P w (upd H a o) h' a o):HOk P w (upd H a o) h':=λb u e=>by
 have hn:=x.fresh hp;by_cases hb:b=a
 ·subst hb;rw[af]at e;cases e;exact new
 rw[aj hb]at e;exact(x b u e).stay (λc v _ q=>k c v q) (λc q=>by rw[aj (aE q hn)];exact q) λc xs q=>by rw[aj (aE q hn)];exact q
end
def Rd (H:Hp) (a:Addr) (u:HO):Prop:=H a=some u\/∃o,H a=some (.frz o u)
variable {h:Heap}
theorem Rd.ok {P:Program} {w:World} {u:HO} (r:Rd H a u) (x:HOk P w H h):bn P w H h a u:=by
 rcases r with r|⟨o,r⟩
 ·exact x a u r
 obtain⟨_,q⟩:=x a _ r;exact q
def Mut:Option HO->Prop
 | some (.lst _)=>True
 | some (.dK _)=>True
 | some (.dT _)=>True
 | some (.set _ _)=>True
 | some (.ins _ _ _)=>True
 | some (.ext _)=>True
 | _=>False
section
variable {P:Program} {w:World} {H:Hp} {h h':Heap} {x e:Addr} {o':HO}
theorem HOk.write (ok:HOk P w H h) (mu:Mut (H x)) (he:e=x\/H e=some (.own x)) (k:∀b u,b≠e->h.get? b=some u->h'.get? b=some u) (heo:∃u,h'.get? e=some u)
  (new:bn P w (upd H x o') h' x o'):HOk P w (upd H x o') h':=λb u q=>by
 have nown:∀c y,H c=some (.own y)->c≠x:=λc y r z=>by subst z;rw[r]at mu;exact mu
 have ntup:∀c xs,H c=some (.tup xs)->c≠x:=λc xs r z=>by subst z;rw[r]at mu;exact mu
 by_cases hb:b=x
 ·subst hb;rw[af]at q;cases q;exact new
 rw[aj hb]at q;by_cases hbe:b=e
 ·have q':H b=some (.own x):=by
   rcases he with z|z
   ·exact absurd (hbe.trans z) hb
   rw[hbe];exact z
  rw[q]at q';cases q';obtain⟨v,hv⟩:=heo;exact⟨v,by rw[hbe];exact hv⟩
 refine(ok b u q).stay (λc v hc r=>k c v ?_ r) (λc r=>by rw[aj (nown c b r)];exact r) λc xs r=>by rw[aj (ntup c xs r)];exact r
 rcases hc with rfl|hc
 ·exact hbe
 rintro rfl;rcases he with z|z
 ·exact nown c b hc z
 rw[hc]at z;cases z;exact hb rfl
end
structure Un (fs ex:E4) (H H':Hp) (h h':Heap):Prop where
 keep:∀b o,h.get? b=some o->H b=none->b∉fs->b∉ex->h'.get? b=some o
 slot:∀b o,h.get? b=some o->H b=none->b∈fs->b∉ex->∃sl,h'.get? b=some { o with slots:=sl }
 free:∀b o,h.get? b=some o->H b=none->b∉ex->H' b=none
 there:∀b o,h.get? b=some o->b∉ex->∃o',h'.get? b=some o'
 tups:∀b xs,H b=some (.tup xs)->H' b=some (.tup xs)
 frzs:∀b o u,H b=some (.frz o u)->H' b=some (.frz o u)
 tbls:∀b ps,H b=some (.tbl ps)->∃more,H' b=some (.tbl (ps++more))
section
variable {fs fs' ex ex':E4} {H H1 H2:Hp} {h h1 h2 h':Heap} {a x e:Addr} {o:HO}
theorem Un.any (u:Un fs ex H H1 h h1) {b:Addr} {ob:Obj} (q:h.get? b=some ob) (n:H b=none) (hx:b∉ex):∃sl,h1.get? b=some { ob with slots:=sl }:=by
 by_cases hb:b∈fs
 ·exact u.slot b ob q n hb hx
 exact⟨ob.slots,u.keep b ob q n hb hx⟩
theorem Un.kept (k:∀b u,h.get? b=some u->h'.get? b=some u):Un fs ex H H h h' :=
 ⟨λb ob q _ _ _=>k b ob q,λb ob q _ _ _=>⟨ob.slots,k b ob q⟩,λ_ _ _ n _=>n,λb ob q _=>⟨ob,k b ob q⟩,λ_ _ q=>q,λ_ _ _ q=>q,λ_ ps q=>⟨#[],by rw[q];simp⟩⟩
theorem Un.refl:Un fs ex H H h h:=Un.kept λ_ _ q=>q
theorem Un.laid (k:∀b u,h.get? b=some u->h'.get? b=some u) (hp:h.objs.size<=a) (hn:H a=none):Un fs ex H (upd H a o) h h' where
 keep:=λb u q _ _ _=>k b u q
 slot:=λb u q _ _ _=>⟨u.slots,k b u q⟩
 free:=λb u q n _=>by rw[aj (QB (Qz (Qn q) hp))];exact n
 there:=λb u q _=>⟨u,k b u q⟩
 tups:=λb xs q=>by rw[aj (aE q hn)];exact q
 frzs:=λb u xs q=>by rw[aj (aE q hn)];exact q
 tbls:=λb ps q=>⟨#[],by rw[aj (aE q hn),q];simp⟩
theorem Un.write (mu:Mut (H x)) (he:e=x\/H e=some (.own x)) (k:∀b u,b≠e->h.get? b=some u->h'.get? b=some u) (heo:∃u,h'.get? e=some u):Un fs ex H (upd H x o) h h':=by
 have hx:∀b,H b=none->b≠x:=λb n z=>by subst z;rw[n]at mu;exact mu
 have hb:∀b,H b=none->b≠e:=λb n z=>by
  subst z;rcases he with r|r
  ·exact hx b n r
  rw[n]at r;cases r
 have hm:∀b u,H b=some u->¬Mut (some u)->b≠x:=λb u q nm z=>by subst z;rw[q]at mu;exact nm mu
 refine⟨λb u q n _ _=>k b u (hb b n) q,λb u q n _ _=>⟨u.slots,k b u (hb b n) q⟩,λb u q n _=>by rw[aj (hx b n)];exact n,λb u q _=>?_,
  λb xs q=>by rw[aj (hm b _ q λz=>z)];exact q,λb u xs q=>by rw[aj (hm b _ q λz=>z)];exact q,λb ps q=>⟨#[],by rw[aj (hm b _ q λz=>z),q];simp⟩⟩
 by_cases hbe:b=e
 ·subst hbe;exact heo
 exact⟨u,k b u hbe q⟩
end
def trk (h:Heap) (H:Hp):E4:=(List.range h.objs.size).filter λa=>(H a).isSome
def kM (h:Heap) (H:Hp):Heap:=PySem.W.hideAll h (trk h H)
theorem tq (h:Heap) (H:Hp):(kM h H).objs.size=h.objs.size:=PySem.W.hideAll_size _ _
theorem vp {o:Obj} (e:h.get? b=some o) (n:H b=none):(kM h H).get? b=some o :=
 PySem.W.hideAll_get _ e λhm=>by
  have q:(H b).isSome=true:=(List.mem_filter.mp hm).2;rw[n]at q;simp at q
theorem wI {o:Obj} (e:(kM h H).get? b=some o):h.get? b=some o/\H b=none:=by
 have e':h.get? b=some o:=PySem.W.of_hideAll (trk h H) e;refine⟨e',?_⟩
 cases q:H b with
 | none=>rfl
 | some x =>
 have hm:b∈trk h H:=List.mem_filter.mpr ⟨List.mem_range.mpr (Qn e'),by simp[q]⟩;have z:(kM h H).get? b=none:=PySem.W.hideAll_none (trk h H) hm;rw[z]at e;cases e
structure Mod (K:PySem.W.Frag) (mg:E3) (base:Heap):Prop where
 kin:K.In base
 glob:base.Ns mainGlobals mg
 blt:∃mb,base.Ns builtinsNs mb/\∀x:Str,x ≠ "__name__" -> mb x=bootBuiltins x
 nolimit:base.NoLimit
/-- the context: a def's body (or a comprehension's block) running. base: fixed through the whole law;s₀,H₀: the eG;outer: the frames whose slots others may change (a def's callers);stack: all frames that run;
  ex: iterators that were made ahead of the eG and are walked here (a comprehension's);fn: the names whose cells were made at the eG (a def: all;a comprehension's block: its own);calm: not within an except suite;pn: pins that every state bears;xe: what is wanted of an exception that leaves the code -/
structure Cx where
 prog:Program
 w:World
 K:PySem.W.Frag
 mg:E3
 base:Heap
 A:Around
 N:List Str
 s₀:Shared
 H₀:Hp
 env:Env
 outer:List Env
 stack:List Env
 ex:E4
 fn:Str->Bool
 calm:Bool
 pn:E2
 xe:E1
def frs (l:List Env):E4:=l.filterMap (·.frame)
abbrev Cx.fs (X:Cx):E4:=frs X.outer
def Vis (sc:Scope) (x:Str):Prop:=sc.names.lookup x=some .local\/sc.names.lookup x=some .cell\/sc.names.lookup x=some .free
def Loc (sc:Scope) (x:Str):Prop:=sc.names.lookup x=some .local\/sc.names.lookup x=some .cell
def EG (env:Env) (h:Heap) (m:E3) (x:Str) (u:Value):Prop :=
 (env.kindOf x=some .local/\m x=some u)\/((env.kindOf x=some .cell\/env.kindOf x=some .free)/\∃c,env.cells.lookup x=some c/\h.IsCell c (some u))
structure Cx.Ok (X:Cx):Prop where
 mod:Mod X.K X.mg X.base
 kind:X.env.scope.kind=.function
 glob:X.env.globals=mainGlobals
 blt:X.env.builtins=builtinsNs
 above:X.s₀.heap.objs.size<=X.env.locals
 inj:∀x y c,X.env.cells.lookup x=some c->X.env.cells.lookup y=some c->x=y
 has:∀x,(X.env.kindOf x=some .cell\/X.env.kindOf x=some .free)->∃c,X.env.cells.lookup x=some c
 cab:∀x c,X.fn x=true->X.env.cells.lookup x=some c->X.s₀.heap.objs.size<=c
 hd:X.calm=true->X.A.handled=none
 frames:X.A.frames=some X.stack
 stk:X.stack=X.outer\/(X.stack=X.env::X.outer/\X.env.frame=some X.env.locals)
 exf:∀b∈X.ex,b≠X.env.locals/\∀x c,X.env.cells.lookup x=some c->c≠b
 bs:∀b o,X.base.get? b=some o->X.s₀.heap.get? b=some o/\X.H₀ b=none
 bsz:X.base.objs.size<=X.s₀.heap.objs.size
 noex:∀b o,X.base.get? b=some o->b∉X.ex
 exfs:∀b∈X.ex,b∉X.fs
 funs:X.s₀.heap.FunFrames X.base X.outer
 frf:∀b∈X.fs,X.H₀ b=none
structure Inv (X:Cx) (pins:E2) (U:List (Option V)) (H:Hp) (s:Shared):Prop where
 ok:X.Ok
 os:s.os=X.s₀.os
 bare:AllBare s.gens
 base:Un X.fs X.ex X.H₀ H X.s₀.heap s.heap
 loc:∃m,s.heap.Ns X.env.locals m/\∀(i:Nat) (x:Str) (v:V),X.N[i]?=some x->U[i]?=some (some v)->Vis X.env.scope x->∃u,aX v u/\EG X.env s.heap m x u
 cell:∀x c,X.env.cells.lookup x=some c->∃v,s.heap.IsCell c v
 free:H X.env.locals=none
 freeC:∀x c,X.env.cells.lookup x=some c->H c=none
 pin:∀p∈X.pn++pins,s.heap.get? p.1=some p.2/\H p.1=none/\p.1≠X.env.locals/\p.1∉X.fs/\∀v,p.2.data≠.cell v
 hok:HOk X.prog X.w H s.heap
 len:U.length=X.N.length
section
variable {X:Cx} {pins:E2} {U:List (Option V)} {H H':Hp} {s:Shared} {h':Heap}
theorem Cx.Ok.nofr (ok:X.Ok) {b:Addr} {o:Obj} (e:X.base.get? b=some o):b∉X.fs:=λhb=>by
 have:=(ok.funs.mem hb).1;rw[e]at this;cases this
theorem Inv.bs (I:Inv X pins U H s):∀b o,X.base.get? b=some o->s.heap.get? b=some o/\H b=none:=λb o e =>
 ⟨I.base.keep b o (I.ok.bs b o e).1 (I.ok.bs b o e).2 (I.ok.nofr e) (I.ok.noex b o e),I.base.free b o (I.ok.bs b o e).1 (I.ok.bs b o e).2 (I.ok.noex b o e)⟩
theorem Inv.bk (I:Inv X pins U H s):∀b o,X.base.get? b=some o->s.heap.get? b=some o:=λb o e=>(I.bs b o e).1
theorem Inv.mod (I:Inv X pins U H s):Mod X.K X.mg X.base:=I.ok.mod
theorem Inv.kIn (I:Inv X pins U H s):X.K.In s.heap:=I.ok.mod.kin.keeps I.bk
theorem Inv.lt (I:Inv X pins U H s):X.env.locals<s.heap.objs.size:=let ⟨_,hn,_⟩:=I.loc;hn.lt
theorem Inv.sz (I:Inv X pins U H s):X.s₀.heap.objs.size<=s.heap.objs.size:=QZ I.ok.above (Xx I.lt)
theorem Inv.nofs (I:Inv X pins U H s) {a:Addr} (h:s.heap.objs.size<=a):a∉X.fs:=λhb=>by
 obtain⟨_,o,ho,_⟩:=I.ok.funs.mem hb;exact absurd (Qz (Qn ho) (QZ I.sz h)) (Nat.lt_irrefl _)
theorem Inv.cne (I:Inv X pins U H s):∀x c,X.env.cells.lookup x=some c->c≠X.env.locals:=λx c e z=>by
 obtain⟨v,o,ho,hd⟩:=I.cell x c e;obtain⟨m,⟨o',es,ep,ho',hd',_⟩,_⟩:=I.loc;rw[z,ho']at ho;cases ho;rw[hd']at hd;cases hd
theorem Inv.funs (I:Inv X pins U H s):s.heap.FunFrames X.base X.outer:=by
 have all:∀(l:List Env),(∀b∈frs l,b∈X.fs)->X.s₀.heap.FunFrames X.base l->s.heap.FunFrames X.base l:=by
  intro l
  induction l with
  | nil=>intro _ _;trivial
  | cons env r ih =>
  intro hs hl;obtain⟨hk,⟨L,o,hf,hn,ho,hd⟩,hr⟩:=hl;have hL:L∈X.fs:=hs L (by unfold frs;rw[List.filterMap_cons,hf];exact Xi);obtain⟨sl,e⟩:=I.base.slot L o ho (I.ok.frf L hL) hL λz=>I.ok.exfs L z hL;exact⟨hk,⟨L,_,hf,hn,e,hd⟩,ih (λb hb=>hs b (by unfold frs;rw[List.filterMap_cons,hf];exact Qv _ hb)) hr⟩
 exact all X.outer (λ_ hb=>hb) I.ok.funs
theorem Inv.stack (I:Inv X pins U H s):s.heap.FunFrames X.base X.stack:=by
 rcases I.ok.stk with e|⟨e,hf⟩
 ·rw[e];exact I.funs
 rw[e];obtain⟨m,hn,_⟩:=I.loc;refine .cons (by rw[I.ok.kind];decide) hf hn ?_ I.funs;exact Heap.get?_none_of_le (QZ I.ok.bsz I.ok.above)
theorem Inv.stkSub (I:Inv X pins U H s):∀b∈frs X.stack,b∈X.env.locals::X.fs:=λb hb=>by
 rcases I.ok.stk with e|⟨e,hf⟩
 ·rw[e]at hb;exact Qv _ hb
 rw[e]at hb;unfold frs at hb;rw[List.filterMap_cons,hf]at hb;exact hb
theorem Inv.stkFree (I:Inv X pins U H s):∀b∈frs X.stack,H b=none:=λb hb=>by
 rcases QV.mp (I.stkSub b hb) with e|hb
 ·rw[e];exact I.free
 obtain⟨_,o,ho,_⟩:=I.ok.funs.mem hb;exact I.base.free b o ho (I.ok.frf b hb) λz=>I.ok.exfs b z hb
theorem Inv.step {g':Array GenState} {t':Nat} {d':Drawn} {ch:E4} (I:Inv X pins U H s)
  (hch:∀b∈ch,(b∈X.ex\/X.s₀.heap.objs.size<=b)/\b≠X.env.locals/\(∀x c,X.env.cells.lookup x=some c->c≠b)/\∀p∈X.pn++pins,p.1≠b)
  (keep:∀b o,b≠X.env.locals->b∉X.fs->b∉ch->s.heap.get? b=some o->H b=none->h'.get? b=some o)
  (slot:∀b o,b≠X.env.locals->b∈X.fs->b∉ch->s.heap.get? b=some o->H b=none->∃sl,h'.get? b=some { o with slots:=sl }) (free:∀b o,b∉ch->s.heap.get? b=some o->H b=none->H' b=none)
  (there:∀b o,b∉ch->s.heap.get? b=some o->∃o',h'.get? b=some o')
  (tups:∀b xs,H b=some (.tup xs)->H' b=some (.tup xs)) (frzs:∀b o u,H b=some (.frz o u)->H' b=some (.frz o u)) (tbls:∀b ps,H b=some (.tbl ps)->∃more,H' b=some (.tbl (ps++more)))
  (ns:∀m,s.heap.Ns X.env.locals m->h'.Ns X.env.locals m) (hok:HOk X.prog X.w H' h') (hg:AllBare g') :
  Inv X pins U H' { s with heap:=h',gens:=g',drawn:=d',toks:=t' }:=by
 have neL:∀b o,X.s₀.heap.get? b=some o->b≠X.env.locals:=λb o e=>QB (Qz (Qn e) I.ok.above)
 have neC:∀b o,X.s₀.heap.get? b=some o->b∉X.ex->b∉ch:=λb o e hx hb=>by
  rcases(hch b hb).1 with z|z
  ·exact hx z
  exact absurd (Qz (Qn e) z) (Nat.lt_irrefl _)
 have cellK:∀x c,X.env.cells.lookup x=some c->∀v,s.heap.IsCell c v->h'.IsCell c v:=λx c e v ⟨o,ho,hd⟩=>by
  have nch:c∉ch:=λz=>(hch c z).2.2.1 x c e rfl;by_cases hc:c∈X.fs
  ·obtain⟨sl,q⟩:=slot c o (I.cne x c e) hc nch ho (I.freeC x c e);exact⟨_,q,hd⟩
  exact⟨o,keep c o (I.cne x c e) hc nch ho (I.freeC x c e),hd⟩
 refine⟨I.ok,I.os,hg,⟨λb o e n hb hx=>?_,λb o e n hb hx=>?_,λb o e n hx=>?_,λb o e hx=>?_,λb xs e=>tups b xs (I.base.tups b xs e),λb o xs e=>frzs b o xs (I.base.frzs b o xs e),λb ps e=>?_⟩,?_,λx c e=>?_,?_,λx c e=>?_,λp hp=>?_,hok,I.len⟩
 ·exact keep b o (neL b o e) hb (neC b o e hx) (I.base.keep b o e n hb hx) (I.base.free b o e n hx)
 ·obtain⟨sl,e1⟩:=I.base.slot b o e n hb hx;obtain⟨sl',e2⟩:=slot b _ (neL b o e) hb (neC b o e hx) e1 (I.base.free b o e n hx);exact⟨sl',e2⟩
 ·obtain⟨o',e1⟩:=I.base.there b o e hx;exact free b o' (neC b o e hx) e1 (I.base.free b o e n hx)
 ·obtain⟨o',e1⟩:=I.base.there b o e hx;exact there b o' (neC b o e hx) e1
 ·obtain⟨m1,e1⟩:=I.base.tbls b ps e;obtain⟨m2,e2⟩:=tbls b _ e1;exact⟨m1++m2,by rw[e2,Array.append_assoc]⟩
 ·obtain⟨m,hn,hl⟩:=I.loc;refine⟨m,ns m hn,λi x v e1 e2 e3=>?_⟩;obtain⟨u,r,l⟩:=hl i x v e1 e2 e3;refine⟨u,r,?_⟩;rcases l with l|⟨k,c,e,z⟩
  ·exact .inl l
  exact .inr ⟨k,c,e,cellK x c e _ z⟩
 ·obtain⟨v,z⟩:=I.cell x c e;exact⟨v,cellK x c e v z⟩
 ·obtain⟨m,⟨o,_,_,ho,_⟩,_⟩:=I.loc;exact free _ o (λz=>(hch _ z).2.1 rfl) ho I.free
 ·obtain⟨v,o,ho,hd⟩:=I.cell x c e;exact free c o (λz=>(hch c z).2.2.1 x c e rfl) ho (I.freeC x c e)
 obtain⟨e,n,ne,nf,d⟩:=I.pin p hp;have nch:p.1∉ch:=λz=>(hch p.1 z).2.2.2 p hp rfl;exact⟨keep p.1 p.2 ne nf nch e n,free p.1 p.2 nch e n,ne,nf,d⟩
theorem Inv.un {t':Nat} (I:Inv X pins U H s) (u:Un X.fs [] H H' s.heap h') (hok:HOk X.prog X.w H' h'):Inv X pins U H' { s with heap:=h',toks:=t' }:=by
 obtain⟨m,⟨o,es,ep,ho,r⟩,_⟩:=id I.loc;obtain⟨sl,hL⟩:=u.any ho I.free (by simp)
 exact I.step (g':=s.gens) (d':=s.drawn) (ch:=[]) (λ_ z=>nomatch z) (λb o _ hb _ e n=>u.keep b o e n hb (by simp)) (λb o _ hb _ e n=>u.slot b o e n hb (by simp)) (λb o _ e n=>u.free b o e n (by simp)) (λb o _ e=>u.there b o e (by simp)) u.tups u.frzs u.tbls (λm' hm=>by
  obtain⟨o',es',ep',ho',r'⟩:=hm;rw[ho]at ho';cases ho'
  exact⟨_,es',ep',hL,r'⟩) hok I.bare
theorem Inv.call {g':Array GenState} {t':Nat} {d':Drawn} {ch:E4} (I:Inv X pins U H s) (u:Un (frs X.stack) ch H H' s.heap h') (hok:HOk X.prog X.w H' h') (hg:AllBare g')
  (hch:∀b∈ch,(b∈X.ex\/X.s₀.heap.objs.size<=b)/\b≠X.env.locals/\(∀x c,X.env.cells.lookup x=some c->c≠b)/\∀p∈X.pn++pins,p.1≠b) :
  Inv X pins U H' { s with heap:=h',gens:=g',drawn:=d',toks:=t' }:=by
 obtain⟨m,⟨o,es,ep,ho,r⟩,_⟩:=id I.loc;obtain⟨sl,hL⟩:=u.any ho I.free λz=>(hch _ z).2.1 rfl
 exact I.step (ch:=ch) hch (λb o hL hb hc e n=>u.keep b o e n (λz=>(QV.mp (I.stkSub b z)).elim hL hb) hc) (λb o _ _ hc e n=>u.any e n hc) (λb o hc e n=>u.free b o e n hc) (λb o hc e=>u.there b o e hc) u.tups u.frzs u.tbls (λm' hm=>by
  obtain⟨o',es',ep',ho',r'⟩:=hm;rw[ho]at ho';cases ho'
  exact⟨_,es',ep',hL,r'⟩) hok hg
theorem Inv.turned {t':Nat} {it:Addr} (I:Inv X pins U H s) (k:∀b o,b≠it->s.heap.get? b=some o->h'.get? b=some o) (hn:H it=none) (hL:it≠X.env.locals)
  (h1:it∈X.ex\/X.s₀.heap.objs.size<=it) (h2:∀x c,X.env.cells.lookup x=some c->c≠it) (h3:∀p∈X.pn++pins,p.1≠it):Inv X pins U H { s with heap:=h',toks:=t' }:=by
 have nit:∀b u,H b=some u->b≠it:=λb u e z=>by rw[z,hn]at e;cases e
 refine I.step (g':=s.gens) (d':=s.drawn) (ch:=[it]) (λb hb=>?_) (λb o _ _ hc e _=>k b o (λz=>hc (by simp[z])) e) (λb o _ _ hc e _=>⟨o.slots,k b o (λz=>hc (by simp[z])) e⟩) (λ_ _ _ _ n=>n)
  (λb o hc e=>⟨o,k b o (λz=>hc (by simp[z])) e⟩) (λ_ _ e=>e) (λ_ _ _ e=>e) (λb ps e=>⟨#[],by rw[e];simp⟩) (λm hm=>?_) (λb u e=>?_) I.bare
 ·have e:b=it:=by simpa using hb
  subst e;exact⟨h1,hL,h2,h3⟩
 ·obtain⟨o,es,ep,ho,r⟩:=hm;exact⟨o,es,ep,k _ o (Xh hL) ho,r⟩
 refine(I.hok b u e).stay (λc v hc q=>k c v ?_ q) (λ_ q=>q) λ_ _ q=>q;rcases hc with z|z
 ·rw[z];exact nit b u e
 exact nit c _ z
theorem Inv.tok (I:Inv X pins U H s) (t:Nat):Inv X pins U H { s with toks:=t }:=I.un (h':=s.heap) (t':=t) Un.refl I.hok
theorem Inv.kept {t':Nat} (I:Inv X pins U H s) (k:∀b u,s.heap.get? b=some u->h'.get? b=some u):Inv X pins U H { s with heap:=h',toks:=t' }:=I.un (Un.kept k) (I.hok.kept k)
theorem Inv.laid {a:Addr} {o:HO} {t':Nat} (I:Inv X pins U H s) (k:∀b u,s.heap.get? b=some u->h'.get? b=some u) (hp:s.heap.objs.size<=a) (new:bn X.prog X.w (upd H a o) h' a o) :
  Inv X pins U (upd H a o) { s with heap:=h',toks:=t' }:=I.un (Un.laid k hp (I.hok.fresh hp)) (I.hok.laid k hp new)
theorem Inv.write {x e:Addr} {o:HO} {t':Nat} (I:Inv X pins U H s) (mu:Mut (H x)) (he:e=x\/H e=some (.own x)) (k:∀b u,b≠e->s.heap.get? b=some u->h'.get? b=some u) (heo:∃u,h'.get? e=some u)
  (new:bn X.prog X.w (upd H x o) h' x o):Inv X pins U (upd H x o) { s with heap:=h',toks:=t' }:=I.un (Un.write mu he k heo) (I.hok.write mu he k heo new)
theorem Inv.weak {σ':List (Option V)} (I:Inv X pins U H s) (hl:σ'.length=U.length) (w:∀(i:Nat) v,σ'[i]?=some (some v)->U[i]?=some (some v)):Inv X pins σ' H s :=
 ⟨I.ok,I.os,I.bare,I.base,let ⟨m,hn,hl'⟩:=I.loc;⟨m,hn,λi x v e1 e2 e3=>hl' i x v e1 (w i v e2) e3⟩,I.cell,I.free,I.freeC,I.pin,I.hok,hl.trans I.len⟩
theorem Inv.pins_of {pins':E2} (I:Inv X pins U H s) (h:∀p∈pins',s.heap.get? p.1=some p.2/\H p.1=none/\p.1≠X.env.locals/\p.1∉X.fs/\∀v,p.2.data≠.cell v):Inv X pins' U H s :=
 ⟨I.ok,I.os,I.bare,I.base,I.loc,I.cell,I.free,I.freeC,λp hp=>(Qr.mp hp).elim (λz=>I.pin p (List.mem_append_left _ z)) (h p),I.hok,I.len⟩
theorem jy {N:List Str} (hN:N.Nodup) {i j:Nat} {x:Str} (a:N[i]?=some x) (b:N[j]?=some x):i=j:=by
 obtain⟨h1,e1⟩:=Qe.mp a;obtain⟨h2,e2⟩:=Qe.mp b;exact(List.getElem_inj hN).mp (e1.trans e2.symm)
variable {Q:Unit->Shared->Prop} {E:E1}
theorem kY {M:Model} {A:Around} {i:Nat} {x:Str} {v:V} {u:Value} (I:Inv X pins U H s) (hN:X.N.Nodup) (hi:X.N[i]?=some x) (hx:Loc X.env.scope x) (r:aX v u)
  (h:∀s',Inv X pins (U.set i (some v)) H s'->(∃a,Heap.SameBut a s.heap s'.heap/\(a=X.env.locals\/X.env.cells.lookup x=some a))->Q () s') (hf:X.fn x=true\/X.env.scope.names.lookup x=some .local:=by z_go):wpAny M A (storeName X.env x u) Q E s:=by
 obtain⟨m,hn,hl⟩:=id I.loc;have hcls:(X.env.scope.kind==.class || (X.env.scope.kind==.module&&X.env.locals != X.env.globals))=false:=by rw[I.ok.kind];rfl
 have hiσ:i<U.length:=by rw[I.len];exact(Qe.mp hi).1
 have cne:=I.cne
 have tracked:∀{a:Addr} {h':Heap},(∃o,s.heap.get? a=some o/\H a=none)->Heap.SameBut a s.heap h'->HOk X.prog X.w H h':=λ{a h'} ha hs b ob e=>by
  obtain⟨_,_,hfree⟩:=ha;refine(I.hok b ob e).stay (λc w' hc q=>(hs.2 c ?_).trans q) (λ_ q=>q) λ_ _ q=>q;rintro rfl;rcases hc with rfl|hc
  ·rw[hfree]at e;cases e
  rw[hfree]at hc;cases hc
 rcases hx with hk|hk
 ·refine wpAny_storeName_local hk hn (λh' hn' hs=>?_) hcls;obtain⟨oL,_,_,hoL,_⟩:=id hn;refine h _ ⟨I.ok,I.os,I.bare,⟨λb o e n hb hx=>?_,λb o e n hb hx=>?_,I.base.free,λb o e hx=>?_,I.base.tups,I.base.frzs,I.base.tbls⟩,⟨_,hn',λj y v' e1 e2 e3=>?_⟩,λy c e=>?_,I.free,I.freeC,λp hp=>?_,tracked ⟨oL,hoL,I.free⟩ hs,by simpa using I.len⟩ ⟨_,hs,.inl rfl⟩
  ·exact(hs.2 b (QB (Qz (Qn e) I.ok.above))).trans (I.base.keep b o e n hb hx)
  ·obtain⟨sl,e1⟩:=I.base.slot b o e n hb hx;exact⟨sl,(hs.2 b (QB (Qz (Qn e) I.ok.above))).trans e1⟩
  ·obtain⟨o',e1⟩:=I.base.there b o e hx;exact⟨o',(hs.2 b (QB (Qz (Qn e) I.ok.above))).trans e1⟩
  ·by_cases hj:j=i
   ·subst hj;rw[hi]at e1;cases e1;rw[List.getElem?_set_self hiσ]at e2;cases e2;exact⟨u,r,.inl ⟨hk,by simp⟩⟩
   rw[List.getElem?_set_ne (Xh hj)]at e2;obtain⟨u',r',q⟩:=hl j y v' e1 e2 e3;refine⟨u',r',?_⟩;rcases q with⟨k,e⟩|⟨k,c,e,z⟩
   ·refine .inl ⟨k,?_⟩;have:y≠x:=λe=>hj (jy hN e1 (e▸hi));simp[this,e]
   exact .inr ⟨k,c,e,z.sameBut hs (cne y c e)⟩
  ·obtain⟨w',z⟩:=I.cell y c e;exact⟨w',z.sameBut hs (cne y c e)⟩
  obtain⟨e,n,ne,nf,d⟩:=I.pin p hp;exact⟨(hs.2 p.1 ne).trans e,n,ne,nf,d⟩
 have hfn:X.fn x=true:=by
  rcases hf with z|z
  ·exact z
  rw[z]at hk;cases hk
 obtain⟨c,hc⟩:=I.ok.has x (.inl hk);obtain⟨w',z⟩:=I.cell x c hc;refine wpAny_storeName_cell I.ok.kind hk hc z (λh' hc' hs=>?_);obtain⟨oc,hoc,hocd⟩:=id z;refine h { s with heap:=h' } ⟨I.ok,I.os,I.bare,⟨λb o e n hb hx=>?_,λb o e n hb hx=>?_,I.base.free,λb o e hx=>?_,I.base.tups,I.base.frzs,I.base.tbls⟩,⟨m,hn.sameBut hs (Xh (cne x c hc)),λj y v' e1 e2 e3=>?_⟩,λy c' e=>?_,I.free,I.freeC,λp hp=>?_,tracked ⟨oc,hoc,I.freeC x c hc⟩ hs,by simpa using I.len⟩ ⟨c,hs,.inr hc⟩
 ·exact(hs.2 b (QB (Qz (Qn e) (I.ok.cab x c hfn hc)))).trans (I.base.keep b o e n hb hx)
 ·obtain⟨sl,e1⟩:=I.base.slot b o e n hb hx;exact⟨sl,(hs.2 b (QB (Qz (Qn e) (I.ok.cab x c hfn hc)))).trans e1⟩
 ·obtain⟨o',e1⟩:=I.base.there b o e hx;exact⟨o',(hs.2 b (QB (Qz (Qn e) (I.ok.cab x c hfn hc)))).trans e1⟩
 ·by_cases hj:j=i
  ·subst hj;rw[hi]at e1;cases e1;rw[List.getElem?_set_self hiσ]at e2;cases e2;exact⟨u,r,.inr ⟨.inl hk,c,hc,hc'⟩⟩
  rw[List.getElem?_set_ne (Xh hj)]at e2;obtain⟨u',r',q⟩:=hl j y v' e1 e2 e3;refine⟨u',r',?_⟩;rcases q with q|⟨k,c',e,z'⟩
  ·exact .inl q
  refine .inr ⟨k,c',e,z'.sameBut hs ?_⟩;rintro rfl;exact hj (jy hN e1 (I.ok.inj _ _ _ e hc▸hi))
 ·by_cases hcc:c'=c
  ·subst hcc;exact⟨_,hc'⟩
  obtain⟨w2,z2⟩:=I.cell y c' e;exact⟨w2,z2.sameBut hs hcc⟩
 obtain⟨e,n,ne,nf,d⟩:=I.pin p hp;refine⟨(hs.2 p.1 ?_).trans e,n,ne,nf,d⟩;intro q;rw[q,hoc]at e;have q':oc=p.2:=QN e;exact d w' (by rw[<-q'];exact hocd)
theorem gK {M:Model} {A:Around} {i:Nat} {x:Str} {v:V} {u:Value} (I:Inv X pins U H s) (hN:X.N.Nodup) (hi:X.N[i]?=some x) (hx:Loc X.env.scope x) (r:aX v u)
  (h:∀s',Inv X pins (U.set i (some v)) H s'->Q () s') (hf:X.fn x=true\/X.env.scope.names.lookup x=some .local:=by z_go):wpAny M A (storeName X.env x u) Q E s :=
 kY I hN hi hx r (λs' I' _=>h s' I') hf
theorem Inv.call' {s':Shared} {ch:E4} (I:Inv X pins U H s) (ho:s'.os=s.os) (u:Un (frs X.stack) ch H H' s.heap s'.heap) (hok:HOk X.prog X.w H' s'.heap) (hg:AllBare s'.gens)
  (hch:∀b∈ch,(b∈X.ex\/X.s₀.heap.objs.size<=b)/\b≠X.env.locals/\(∀x c,X.env.cells.lookup x=some c->c≠b)/\∀p∈X.pn++pins,p.1≠b):Inv X pins U H' s':=by
 obtain⟨h',g',d',t',o'⟩:=s';have e:o'=s.os:=ho;subst e;exact I.call (g':=g') (t':=t') (d':=d') u hok hg hch
end
abbrev XK:=Value->Option Addr->Hp->Prop
abbrev St:=List (Option V)
abbrev VK:=V->Hp->Prop
abbrev TE:=St->Hp->VK->Prop
abbrev TT:=St->Hp->(Bool->Hp->Prop)->Prop
abbrev TA:=St->Hp->(List V->Hp->Prop)->Prop
structure Ends where
 nx:St->Hp->Prop
 rt:VK
 bk:St->Hp->Prop:=λ_ _=>False
 ct:St->Hp->Prop:=λ_ _=>False
abbrev TS:=Ends->St->Hp->Prop
def EP (X:Cx) (pins:E2) (U:St) (Q:VK) (u:Value) (s':Shared):Prop:=∃v H',Inv X pins U H' s'/\aX v u/\Q v H'
def TP (X:Cx) (pins:E2) (U:St) (Q:Bool->Hp->Prop) (b:Bool) (s':Shared):Prop:=∃H',Inv X pins U H' s'/\Q b H'
def AP (X:Cx) (pins:E2) (U:St) (Q:List V->Hp->Prop) (us:List Value) (s':Shared):Prop:=∃vs H',Inv X pins U H' s'/\be vs us/\Q vs H'
def SP (X:Cx) (pins:E2) (D:Ends) (f:Flow) (s':Shared):Prop :=
 match f with
 | .next=>∃σ' H',Inv X pins σ' H' s'/\D.nx σ' H'
 | .brk=>∃σ' H',Inv X pins σ' H' s'/\D.bk σ' H'
 | .cont=>∃σ' H',Inv X pins σ' H' s'/\D.ct σ' H'
 | .ret u=>∃v σ' H',Inv X pins σ' H' s'/\aX v u/\D.rt v H'
def PE (X:Cx) (e:Expr) (t:TE):Prop :=
 ∀(pins:E2) (s:Shared) (U:St) (H:Hp) (Q:VK),Inv X pins U H s->t U H Q->wpAny (model X.prog X.w) X.A (eval e X.env) (EP X pins U Q) X.xe s
def PT (X:Cx) (e:Expr) (t:TT):Prop :=
 ∀(pins:E2) (s:Shared) (U:St) (H:Hp) (Q:Bool->Hp->Prop),Inv X pins U H s->t U H Q->wpAny (model X.prog X.w) X.A (isTrue e X.env (eval e X.env)) (TP X pins U Q) X.xe s
def PW (X:Cx) (e:Expr) (t:TT):Prop :=
 ∀(whole:Sem Value) (pins:E2) (s:Shared) (U:St) (H:Hp) (Q:Bool->Hp->Prop),Inv X pins U H s->t U H Q->wpAny (model X.prog X.w) X.A (isTrue e X.env whole) (TP X pins U Q) X.xe s
variable {e tg:Expr} {X:Cx}
theorem PW.pt {t:TT} (h:PW X e t):PT X e t:=h _
def PA (X:Cx) (es:List Expr) (t:TA):Prop :=
 ∀(pos:Pos) (pins:E2) (s:Shared) (U:St) (H:Hp) (Q:List V->Hp->Prop),Inv X pins U H s->t U H Q->wpAny (model X.prog X.w) X.A (spliced (backTo pos (starEach es X.env))) (AP X pins U Q) X.xe s
def PS (X:Cx) (st:Stmt) (t:TS):Prop :=
 ∀(pins:E2) (s:Shared) (U:St) (H:Hp) (D:Ends),Inv X pins U H s->t D U H->wpAny (model X.prog X.w) X.A (exec st X.env) (SP X pins D) X.xe s
def PSs (X:Cx) (st:List Stmt) (t:TS):Prop :=
 ∀(pins:E2) (s:Shared) (U:St) (H:Hp) (D:Ends),Inv X pins U H s->t D U H->wpAny (model X.prog X.w) X.A (execs st X.env) (SP X pins D) X.xe s
variable {s s1:Shared} {E:E1} {A:Around}
theorem thn {α:Type} {t:Sem α} {Q Q':α->Shared->Prop} {M:Model} (h:wpAny M A t Q E s) (hQ:∀a s,Q a s->Q' a s):wpAny M A t Q' E s:=Q8 h hQ λ_ _ x=>x
section
variable {X:Cx}
def cq (i:Nat):TE:=λU H Q=>∃v,U[i]?=some (some v)/\Q v H
def tC (v:V):TE:=λ_ H Q=>Q v H
variable {x:Str}
theorem yW {i:Nat} {pos:Pos} (hN:X.N[i]?=some x) (hv:Vis X.env.scope x) (hd:(x==("__debug__" : Str))=false:=by decide) (hcd:(x==("__classdict__" : Str))=false:=by decide):PE X (.Name x pos) (cq i):=by
 intro pins s U H Q I h;obtain⟨v,e,h⟩:=h;obtain⟨m,hn,hl⟩:=I.loc;obtain⟨u,r,l⟩:=hl i x v hN e hv;have fin:EP X pins U Q u s:=⟨v,H,I,r,h⟩;rcases l with⟨hk,hm⟩|⟨hk,c,hc,hcell⟩
 ·exact wpAny_Name (wpAny_loadName_local I.ok.kind hk hn hm fin) hd
 rcases hk with hk|hk
 ·exact wpAny_Name (wpAny_loadName_cell I.ok.kind hk hc hcell fin) hd
 exact wpAny_Name (wpAny_loadName_free I.ok.kind hk hc hcell fin hcd) hd
theorem ad {i j pos}:PE X (.Constant (.int i) j pos) (tC (.int i)):=λ_ _ _ H _ I h=>wpAny_Constant_int ⟨.int i,H,I.tok _,⟨_,rfl⟩,h⟩
theorem f_ {b j pos}:PE X (.Constant (.bool b) j pos) (tC (.bl b)):=λ_ _ _ H _ I h=>Constant_bool ⟨.bl b,H,I,rfl,h⟩
theorem c7 {j pos}:PE X (.Constant .none j pos) (tC .non):=λ_ _ _ H _ I h=>Constant_none ⟨.non,H,I,rfl,h⟩
theorem aP {x j pos}:PE X (.Constant (.str x) j pos) (tC (.str x)):=λ_ _ _ H _ I h=>Calls.Constant_str ⟨.str x,H,I.tok _,⟨_,rfl⟩,h⟩
def Gl (X:Cx) (x:Str):Prop:=X.env.kindOf x=some .globalImplicit
variable {Q E:E1} {u:Value} {pins:E2}
theorem fU {s:Shared} {U:St} {H:Hp} {pos:Pos} (I:Inv X pins U H s) (hg:Gl X x) (hm:X.mg x=some u) (h:Q u s)
  (hd:(x==("__debug__" : Str))=false:=by decide):wpAny (model X.prog X.w) X.A (eval (.Name x pos) X.env) Q E s :=
 Calls.Name_function_global I.ok.kind hg (Calls.loadGlobal_global (by rw[I.ok.glob];exact I.mod.glob.keeps I.bk) hm h) hd
theorem dY {s:Shared} {U:St} {H:Hp} {pos:Pos} (I:Inv X pins U H s) (hg:Gl X x) (hm:X.mg x=none) (hv:bootBuiltins x=some u) (h:Q u s)
  (hn:x ≠ "__name__" := by decide) (hd:(x==("__debug__" : Str))=false:=by decide):wpAny (model X.prog X.w) X.A (eval (.Name x pos) X.env) Q E s:=by
 obtain⟨mb,h1,h2⟩:=I.mod.blt;exact Calls.Name_function_global I.ok.kind hg (Calls.loadGlobal_builtin (by rw[I.ok.glob];exact I.mod.glob.keeps I.bk) hm (by rw[I.ok.blt];exact h1.keeps I.bk) ((h2 x hn).trans hv) h) hd
theorem dj {v:V} {pos:Pos} (hg:Gl X x) (hm:X.mg x=some u) (r:aX v u) (hd:(x==("__debug__" : Str))=false:=by decide):PE X (.Name x pos) (tC v) :=
 λ_ _ _ H _ I h=>fU I hg hm ⟨v,H,I,r,h⟩ hd
theorem iX {v:V} {pos:Pos} (hg:Gl X x) (hm:X.mg x=none) (hv:bootBuiltins x=some u) (r:aX v u) (hn:x ≠ "__name__" := by decide) (hd:(x==("__debug__" : Str))=false:=by decide):PE X (.Name x pos) (tC v) :=
 λ_ _ _ H _ I h=>dY I hg hm hv ⟨v,H,I,r,h⟩ hn hd
variable {a b:Expr} {ta tb:TE} {pos:Pos}
def PC (X:Cx) (op:CmpOp) (a b:Expr) (t:TE):Prop :=
 ∀(pins:E2) (s:Shared) (U:St) (H:Hp) (Q:VK),Inv X pins U H s->t U H Q ->
  wpAny (model X.prog X.w) X.A (eval a X.env) (λv s₁=>wpAny (model X.prog X.w) X.A (eval b X.env) (λu s₂=>wpAny (model X.prog X.w) X.A (compareOp op v u) (EP X pins U Q) X.xe s₂) X.xe s₁) X.xe s
def tB (t:TE):TT:=λU H Q=>t U H λx H1=>∃c,x=.bl c/\Q c H1
theorem mx {op:CmpOp} {t:TE} (h:PC X op a b t) (h1:behindInMarks op b=false:=by first|exact nobehind _ (by decide) (by decide)|rfl):PT X (.Compare a [op] [b] pos) (tB t):=by
 intro pins s U H Q I hw;refine wpAny_isTrue_Compare1 (thn (h pins s U H _ I hw) λv s1 h1=>thn h1 λu s2 h2=>thn h2 λc s3 ⟨x,H1,I1,r1,q1⟩=>?_) h1;obtain⟨d,rfl,q⟩:=q1;cases r1;exact wpAny_truthy_bool ⟨H1,I1,q⟩
theorem fm {e:Expr} {t:TE} (h:PE X e t) (he:∀whole,isTrue e X.env whole=(do let v <-whole;standAt e.pos;holding [v] (truthy v)):=by intro _;rfl):PT X e (tB t):=by
 intro pins s U H Q I hw;refine isTrue_plain (thn (h pins s U H _ I hw) λv s1 ⟨x,H1,I1,r1,q1⟩=>?_) (he _);obtain⟨d,rfl,q⟩:=q1;cases r1;exact wpAny_truthy_bool ⟨H1,I1,q⟩
variable {tA tB':TT} {rest:List Expr}
def Av (t u:TT):TT:=λU H Q=>t U H λc H1=>if c=true then u U H1 Q else Q false H1
def tOr (t u:TT):TT:=λU H Q=>t U H λc H1=>if c=true then Q true H1 else u U H1 Q
def Am (t:TT):TT:=λU H Q=>t U H λc H1=>Q (!c) H1
theorem eQ (ha:PT X a tA):PW X (.BoolOp .And [a] pos) tA:=by
 intro wh pins s U H Q I h;refine isTrue_and (thn (ha pins s U H Q I h) λc s1 e=>?_)
 cases c with
 | true=>exact isTrue_and_nil e
 | false=>exact e
theorem eP (ha:PT X a tA):PW X (.BoolOp .Or [a] pos) tA:=by
 intro wh pins s U H Q I h;refine isTrue_or (thn (ha pins s U H Q I h) λc s1 e=>?_)
 cases c with
 | false=>exact isTrue_or_nil e
 | true=>exact e
theorem gr (ha:PT X a tA) (hb:PW X (.BoolOp .And (b::rest) pos) tB'):PW X (.BoolOp .And (a::b::rest) pos) (Av tA tB'):=by
 intro wh pins s U H Q I h;refine isTrue_and (thn (ha pins s U H _ I h) λc s1 ⟨H1,I1,q1⟩=>?_)
 cases c with
 | true=>exact hb wh pins s1 U H1 Q I1 q1
 | false=>exact⟨H1,I1,q1⟩
theorem gN (ha:PT X a tA) (hb:PW X (.BoolOp .Or (b::rest) pos) tB'):PW X (.BoolOp .Or (a::b::rest) pos) (tOr tA tB'):=by
 intro wh pins s U H Q I h;refine isTrue_or (thn (ha pins s U H _ I h) λc s1 ⟨H1,I1,q1⟩=>?_)
 cases c with
 | true=>exact⟨H1,I1,q1⟩
 | false=>exact hb wh pins s1 U H1 Q I1 q1
theorem gt (ha:PT X a tA):PT X (.UnaryOp .Not a pos) (Am tA):=by
 intro pins s U H Q I h;exact isTrue_not (ha pins s U H (λc H1=>Q (!c) H1) I h)
def xA (ta tb:TE):TE:=λU H Q=>ta U H λx H1=>∃c,x=.bl c/\if c=true then tb U H1 Q else Q (.bl false) H1
def Al (ta tb:TE):TE:=λU H Q=>ta U H λx H1=>∃c,x=.bl c/\if c=true then Q (.bl true) H1 else tb U H1 Q
def xt (ta:TE):TE:=λU H Q=>ta U H λx H1=>∃c,x=.bl c/\Q (.bl (!c)) H1
theorem jv {op} {t:TE} (h:PE X a t):PE X (.BoolOp op [a] pos) t:=λpins s U H Q I hw=>BoolOp_one (h pins s U H Q I hw)
theorem mD (ha:PE X a ta) (hb:PE X (.BoolOp .And (b::rest) pos) tb):PE X (.BoolOp .And (a::b::rest) pos) (xA ta tb):=by
 intro pins s U H Q I h;refine BoolOp_and (thn (ha pins s U H _ I h) λv s1 ⟨x,H1,I1,r1,q1⟩=>?_);obtain⟨c,rfl,q1⟩:=q1;cases r1;refine wpAny_truthy_bool ?_
 cases c with
 | true=>exact hb pins s1 U H1 Q I1 q1
 | false=>exact⟨.bl false,H1,I1,rfl,q1⟩
theorem xO (ha:PE X a ta) (hb:PE X (.BoolOp .Or (b::rest) pos) tb):PE X (.BoolOp .Or (a::b::rest) pos) (Al ta tb):=by
 intro pins s U H Q I h;refine BoolOp_or (thn (ha pins s U H _ I h) λv s1 ⟨x,H1,I1,r1,q1⟩=>?_);obtain⟨c,rfl,q1⟩:=q1;cases r1;refine wpAny_truthy_bool ?_
 cases c with
 | false=>exact hb pins s1 U H1 Q I1 q1
 | true=>exact⟨.bl true,H1,I1,rfl,q1⟩
theorem uz (ha:PE X a ta):PE X (.UnaryOp .Not a pos) (xt ta):=by
 intro pins s U H Q I h;refine UnaryOp_ (thn (ha pins s U H _ I h) λv s1 ⟨x,H1,I1,r1,q1⟩=>?_);obtain⟨c,rfl,q1⟩:=q1;cases r1;exact not_of (wpAny_truthy_bool ⟨.bl (!c),H1,I1,rfl,q1⟩)
def tIf (t:TT) (ta tb:TE):TE:=λU H Q=>t U H λc H1=>if c=true then ta U H1 Q else tb U H1 Q
theorem uB {c:Expr} (hc:PT X c tA) (ha:PE X a ta) (hb:PE X b tb):PE X (.IfExp c a b pos) (tIf tA ta tb):=by
 intro pins s U H Q I h;refine wpAny_IfExp (thn (hc pins s U H _ I h) λd s1 ⟨H1,I1,q1⟩=>?_)
 cases d with
 | true=>exact ha pins s1 U H1 Q I1 q1
 | false=>exact hb pins s1 U H1 Q I1 q1
end
def SqL (K:PySem.W.Frag) (H:Hp) (a:Addr) (xs:List V):Prop :=
 Rd H a (.lst xs) \/
  ∃(o:Obj) (its:Array Value) (n:Nat),K.lookup a=some o/\o.cls=.type "list" /\ o.dict=none/\o.data=.seq its n/\its.size<=sizeLine/\be xs its.toList
def SqT (K:PySem.W.Frag) (H:Hp) (a:Addr) (xs:List V):Prop :=
 Rd H a (.tup xs) \/
  ∃(o:Obj) (its:Array Value) (n:Nat),K.lookup a=some o/\o.cls=.type "tuple" /\ o.data=.seq its n/\its.size<=sizeLine/\be xs its.toList
noncomputable def EF:Value->Option V
 | .none=>some .non
 | .bool b=>some (.bl b)
 | .int i _=>some (.int i)
 | .str x _=>some (.str x)
 | .bytes b _=>some (.byt b)
 | .float b _=>some (.flt b)
 | .ref a=>some (.ref a)
 | .type n=>some (.ty n)
 | _=>none
theorem aX.abs {x:V} (r:aX x u):EF u=some x:=by
 cases x with
 | non=>cases r;rfl
 | bl _=>cases r;rfl
 | int _=>obtain⟨t,rfl⟩:=r;rfl
 | str _=>obtain⟨t,rfl⟩:=r;rfl
 | byt _=>obtain⟨t,rfl⟩:=r;rfl
 | flt _=>obtain⟨t,rfl⟩:=r;rfl
 | ref _=>cases r;rfl
 | ty _=>cases r;rfl
theorem aX.inj {x y:V} (r:aX x u) (q:aX y u):x=y:=QN (r.abs.symm.trans q.abs)
theorem be.inj:∀{xs ys:List V} {us:List Value},be xs us->be ys us->xs=ys
 | _,_,_,.nil,.nil=>rfl
 | _,_,_,.cons r t,.cons r' t'=>by rw[r.inj r',be.inj t t']
section
variable {X:Cx} {pins:E2} {U:St} {H:Hp} {s:Shared} {a:Addr} {xs ys:List V}
theorem SqL.of {K:PySem.W.Frag} (h:H a=some (.lst xs)):SqL K H a xs:=.inl (.inl h)
theorem SqT.of {K:PySem.W.Frag} (h:H a=some (.tup xs)):SqT K H a xs:=.inl (.inl h)
theorem Inv.list (I:Inv X pins U H s) (h:SqL X.K H a xs):∃its:List Value,be xs its/\PlainL s.heap a its.toArray/\xs.length<=sizeLine:=by
 rcases h with h|⟨o,its,n,hk,hc,hd,hs,hz,r⟩
 ·obtain⟨z,its,n,r,e⟩:=h.ok I.hok;exact⟨its,r,⟨_,n,e,rfl,rfl,rfl⟩,z⟩
 refine⟨its.toList,r,⟨o,n,I.kIn a o hk,hc,hd,by simpa using hs⟩,?_⟩;have e:=r.length;simp only[Qo]at e;omega
theorem Inv.tuple (I:Inv X pins U H s) (h:SqT X.K H a xs):∃its:List Value,be xs its/\IsTup s.heap a its.toArray/\xs.length<=sizeLine:=by
 rcases h with h|⟨o,its,n,hk,hc,hs,hz,r⟩
 ·obtain⟨z,its,r,p⟩:=h.ok I.hok;exact⟨its,r,p,z⟩
 refine⟨its.toList,r,⟨o,I.kIn a o hk,hc,n,by simpa using hs⟩,?_⟩;have e:=r.length;simp only[Qo]at e;omega
theorem Inv.list_inj (I:Inv X pins U H s) (h:SqL X.K H a xs) (h':SqL X.K H a ys):xs=ys:=by
 obtain⟨its,r,⟨o,n,e,_,_,d⟩,_⟩:=I.list h;obtain⟨its',r',⟨o',n',e',_,_,d'⟩,_⟩:=I.list h';rw[e]at e';cases e';rw[d]at d';injection d' with d1 _;have:its=its':=by simpa using congrArg Array.toList d1
 subst this;exact r.inj r'
end
abbrev Cx.wish (X:Cx) (E:E1):Cx:={ X with xe:=E }
abbrev Cx.nox (X:Cx):Cx:=X.wish λ_ _=>False
theorem Cx.Ok.wish (ok:X.Ok) (E:E1):(X.wish E).Ok :=
 ⟨ok.mod,ok.kind,ok.glob,ok.blt,ok.above,ok.inj,ok.has,ok.cab,ok.hd,ok.frames,ok.stk,ok.exf,ok.bs,ok.bsz,ok.noex,ok.exfs,ok.funs,ok.frf⟩
theorem Cx.Ok.unwish (ok:(X.wish E).Ok):X.Ok :=
 ⟨ok.mod,ok.kind,ok.glob,ok.blt,ok.above,ok.inj,ok.has,ok.cab,ok.hd,ok.frames,ok.stk,ok.exf,ok.bs,ok.bsz,ok.noex,ok.exfs,ok.funs,ok.frf⟩
section
variable {X:Cx} {pins:E2} {U:St} {H:Hp} {s:Shared} {E:E1}
theorem Inv.wish (I:Inv X pins U H s) (E:E1):Inv (X.wish E) pins U H s:=⟨I.ok.wish E,I.os,I.bare,I.base,I.loc,I.cell,I.free,I.freeC,I.pin,I.hok,I.len⟩
theorem Inv.unwish (I:Inv (X.wish E) pins U H s):Inv X pins U H s:=⟨I.ok.unwish,I.os,I.bare,I.base,I.loc,I.cell,I.free,I.freeC,I.pin,I.hok,I.len⟩
theorem SP.unwish {D:Ends} {f:Flow} {s':Shared} (h:SP (X.wish E) pins D f s'):SP X pins D f s':=by
 cases f with
 | next=>obtain⟨σ',H',I,q⟩:=h;exact⟨σ',H',I.unwish,q⟩
 | brk=>obtain⟨σ',H',I,q⟩:=h;exact⟨σ',H',I.unwish,q⟩
 | cont=>obtain⟨σ',H',I,q⟩:=h;exact⟨σ',H',I.unwish,q⟩
 | ret u=>obtain⟨v,σ',H',I,r,q⟩:=h;exact⟨v,σ',H',I.unwish,r,q⟩
theorem PSs.nox {st:List Stmt} {t:TS} (h:PSs X.nox st t):PSs X st t:=λpins s U H D I hw =>
 Q8 (h pins s U H D (I.wish _) hw) (λ_ _ q=>q.unwish) λ_ _ z=>False.elim z
end
section
variable {X:Cx} {st:Stmt} {rest:List Stmt} {t u:TS} {e:Expr} {te:TE} {pos:Pos}
def xu:TS:=λD U H=>D.nx U H
def wa (t u:TS):TS:=λD U H=>t { D with nx:=u D } U H
theorem pss_nil:PSs X [] xu:=λ_ _ U H _ I h=>wpAny_execs_nil ⟨U,H,I,h⟩
theorem aN (h1:PS X st t) (h2:PSs X rest u):PSs X (st::rest) (wa t u):=by
 intro pins s U H D I h;refine wpAny_execs_cons (thn (h1 pins s U H { D with nx:=u D } I h) λf s1 q=>?_)
 cases f with
 | next =>
  obtain⟨σ',H',I',q⟩:=q;exact h2 pins s1 σ' H' D I' q
 | ret v=>exact q
 | brk=>exact q
 | cont=>exact q
theorem aR (h1:PS X st t):PSs X [st] t:=by
 intro pins s U H D I h;refine wpAny_execs_cons (thn (h1 pins s U H D I h) λf s1 q=>?_)
 cases f with
 | next=>exact wpAny_execs_nil q
 | ret v=>exact q
 | brk=>exact q
 | cont=>exact q
theorem Inv.quiet {pins:E2} {U:St} {H:Hp} {s:Shared} (I:Inv X pins U H s):interactive X.env=false:=by simp[interactive,I.ok.kind]
def xw (te:TE):TS:=λD U H=>te U H λ_ H1=>D.nx U H1
theorem bD (he:PE X e te) (hs:swapsWith e none pos.line X.env=pure false:=by rfl):PS X (.Expr e pos) (xw te):=by
 intro pins s U H D I h;exact wpAny_Expr_any (thn (he pins s U H _ I h) λv s1 ⟨x,H1,I1,r1,q1⟩=>⟨U,H1,I1,q1⟩) I.quiet hs
def Ak (te:TE):TS:=λD U H=>te U H D.rt
theorem aK (he:PE X e te):PS X (.Return (some e) pos) (Ak te):=by
 intro pins s U H D I h;exact wpAny_Return_some (thn (he pins s U H _ I h) λv s1 ⟨x,H1,I1,r1,q1⟩=>⟨x,U,H1,I1,r1,q1⟩)
def Ao (c:TT) (t u:TS):TS:=λD U H=>c U H λb H1=>if b=true then t D U H1 else u D U H1
theorem ps_if {c:Expr} {a b:List Stmt} {tc:TT} (hc:PT X c tc) (ha:PSs X a t) (hb:PSs X b u):PS X (.If c a b pos) (Ao tc t u):=by
 intro pins s U H D I h;refine wpAny_If (thn (hc pins s U H _ I h) λd s1 ⟨H1,I1,q1⟩=>?_)
 cases d with
 | true=>exact ha pins s1 U H1 D I1 q1
 | false=>exact hb pins s1 U H1 D I1 q1
def yJ:TS:=λ_ _ _=>False
theorem d9 {sts:List Stmt}:PSs X sts yJ:=λ_ _ _ _ _ _ h=>h.elim
end
abbrev TG:=V->St->Hp->(St->Hp->Prop)->Prop
abbrev TGs:=List V->St->Hp->(St->Hp->Prop)->Prop
def PG (X:Cx) (target:Expr) (t:TG):Prop :=
 ∀(pins:E2) (s:Shared) (U:St) (H:Hp) (v:V) (u:Value) (Q:St->Hp->Prop),Inv X pins U H s->aX v u->t v U H Q ->
  wpAny (model X.prog X.w) X.A (assign target X.env u) (λ_ s'=>∃σ' H',Inv X pins σ' H' s'/\Q σ' H') X.xe s
def PGs (X:Cx) (ts:List Expr) (t:TGs):Prop :=
 ∀(pins:E2) (s:Shared) (U:St) (H:Hp) (vs:List V) (us:List Value) (Q:St->Hp->Prop),Inv X pins U H s->be vs us->t vs U H Q ->
  wpAny (model X.prog X.w) X.A (assignInOrder ((assignEach ts X.env).map (·.2)) us) (λ_ s'=>∃σ' H',Inv X pins σ' H' s'/\Q σ' H') X.xe s
abbrev xh:=V->V->V->Hp->(Hp->Prop)->Prop
def DE (X:Cx) (t:xh):Prop :=
 ∀(pins:E2) (s:Shared) (U:St) (H:Hp) (o i v:V) (ov iv u:Value) (Q:Hp->Prop),Inv X pins U H s->aX o ov->aX i iv->aX v u->t o i v H Q ->
  wpAny (model X.prog X.w) X.A (setItem ov iv u) (λ_ s'=>∃H',Inv X pins U H' s'/\Q H') X.xe s
abbrev TIp:=V->V->Hp->VK->Prop
def PIp (X:Cx) (op:Operator) (t:TIp):Prop :=
 ∀(pins:E2) (s:Shared) (U:St) (H:Hp) (x y:V) (v u:Value) (Q:VK),Inv X pins U H s->aX x v->aX y u->t x y H Q ->
  wpAny (model X.prog X.w) X.A (inplaceOp op v u) (EP X pins U Q) X.xe s
section
variable {X:Cx} {pos:Pos}
def dU (i:Nat):TG:=λv U H Q=>Q (U.set i (some v)) H
variable {x:Str}
theorem di {i:Nat} (hN:X.N.Nodup) (hi:X.N[i]?=some x) (hx:Loc X.env.scope x) (hf:X.fn x=true\/X.env.scope.names.lookup x=some .local:=by z_go):PG X (.Name x pos) (dU i):=by
 intro pins s U H v u Q I r h;exact wpAny_assign_Name (gK I hN hi hx r (λs' I'=>⟨_,H,I',h⟩) hf)
theorem b9 (i:Nat) (hN:X.N.Nodup) (hi:X.N[i]?=some x:=by rfl) (hx:Loc X.env.scope x:=by z_go) (hf:X.fn x=true\/X.env.scope.names.lookup x=some .local:=by z_go):PG X (.Name x pos) (dU i):=di hN hi hx hf
def Dq:TGs:=λvs U H Q=>vs=[]/\Q U H
def vt (t:TG) (u:TGs):TGs:=λvs U H Q=>∃v r,vs=v::r/\t v U H λσ' H'=>u r σ' H' Q
theorem eR:PGs X [] Dq:=by
 intro pins s U H vs us Q I r h;obtain⟨e,h⟩:=h;subst e;cases r;exact assignInOrder_nil ⟨U,H,I,h⟩
variable {e o i tg:Expr}
theorem bM {es:List Expr} {t:TG} {u:TGs} (h1:PG X e t) (h2:PGs X es u)
  (hs:(assignEach (e::es) X.env).map (·.2)=assign e X.env::(assignEach es X.env).map (·.2):=by rfl):PGs X (e::es) (vt t u):=by
 intro pins s U H vs us Q I r h;obtain⟨v,vr,e1,h⟩:=h;subst e1
 cases r with
 | cons r rr =>
 rw[hs];refine assignInOrder_cons (thn (h1 pins s U H _ _ _ I r h) λ_ s1 ⟨σ1,H1,I1,q1⟩=>?_);exact h2 pins s1 σ1 H1 _ _ Q I1 rr q1
def zU (K:PySem.W.Frag) (n:Nat) (t:TGs):TG:=λv U H Q=>∃a xs,v=.ref a/\SqT K H a xs/\xs.length=n/\t xs U H Q
theorem im {es:List Expr} {k:Nat} {t:TGs} {n:Nat} (hc:X.calm=true) (h:PGs X es t)
  (hn:(assignEach es X.env).length=n:=by rfl) (hst:(assignEach es X.env).findIdx? (·.1)=none:=by rfl):PG X (.Tuple es k pos) (zU X.K n t):=by
 intro pins s U H v u Q I r hw;obtain⟨a,xs,e1,hq,hl,hw⟩:=hw;subst e1;cases r;obtain⟨its,rv,ht,hz⟩:=I.tuple hq;refine assign_Tuple_tuple (I.ok.hd hc) ht (by simp[hn,<-hl,rv.length]) hst λh' hx=>?_;have I1:Inv X pins U H { s with heap:=h' }:=I.kept (t':=s.toks) λb o e=>hx b o (QB (Qn e)) e;exact h pins _ U H xs _ Q I1 (by simpa using rv) hw
def Dp (to ti:TE) (t:xh):TG:=λv U H Q=>to U H λo H1=>ti U H1 λi H2=>t o i v H2 λH3=>Q U H3
theorem ux {to ti:TE} {t:xh} (ho:PE X o to) (hi:PE X i ti) (hs:DE X t)
  (ha:∀v,assign (.Subscript o i pos) X.env v=(do
   let ov <-holding [v] (eval o X.env);let iv <-holding [v,ov] (eval i X.env)
   standAt pos
   holding [v,ov,iv] (setItem ov iv v)
   release [v,ov,iv] []):=by intro _;rfl):PG X (.Subscript o i pos) (Dp to ti t):=by
 intro pins s U H v u Q I r h;rw[ha];refine Qb (Q3 (thn (ho pins s U H _ I h) λov s1 ⟨x,H1,I1,r1,q1⟩=>?_));refine Qb (Q3 (thn (hi pins s1 U H1 _ I1 q1) λiv s2 ⟨y,H2,I2,r2,q2⟩=>?_));refine Qb (wpAny_standAt (Qb (Q3 (thn (hs pins s2 U H2 x y v ov iv u _ I2 r1 r2 r q2) λ_ s3 ⟨H3,I3,q3⟩=>?_))));exact wpAny_release ⟨U,H3,I3,q3⟩
def se (te:TE) (g:TG):TS:=λD U H=>te U H λx H1=>g x U H1 D.nx
variable {te:TE}
theorem uo {g:TG} (he:PE X e te) (hg:PG X tg g) (hs:swapsWithSole [tg] e pos.line X.env=pure false:=by rfl) (hw:swappedStores [tg] e X.env=pure none:=by rfl)
  (h1:(assignEach [tg] X.env).map (·.2)=[assign tg X.env]:=by rfl):PS X (.Assign [tg] e pos) (se te g):=by
 intro pins s U H D I h;refine wpAny_Assign_stores (thn (he pins s U H _ I h) λv s1 ⟨x,H1,I1,r1,q1⟩=>?_) hs hw;rw[h1];exact thn (hg pins s1 U H1 x v _ I1 r1 q1) λ_ s2 q=>q
variable {pos':Pos}
theorem pE {i:Nat} (hN:X.N.Nodup) (hi:X.N[i]?=some x) (hx:Loc X.env.scope x) (he:PE X e te) (hs:swapsWith e (some (.Name x pos')) pos.line X.env=pure false:=by rfl) (hf:X.fn x=true\/X.env.scope.names.lookup x=some .local:=by z_go) :
  PS X (.Assign [.Name x pos'] e pos) (se te (dU i)):=by
 intro pins s U H D I h;refine wpAny_Assign_Name (thn (he pins s U H _ I h) λv s1 ⟨y,H1,I1,r1,q1⟩=>?_) hs;exact gK I1 hN hi hx r1 (λs2 I2=>⟨_,H1,I2,q1⟩) hf
theorem aC (i:Nat) (hN:X.N.Nodup) (he:PE X e te) (hi:X.N[i]?=some x:=by rfl) (hx:Loc X.env.scope x:=by z_go) (hs:swapsWith e (some (.Name x pos')) pos.line X.env=pure false:=by rfl) (hf:X.fn x=true\/X.env.scope.names.lookup x=some .local:=by z_go):PS X (.Assign [.Name x pos'] e pos) (se te (dU i)):=pE hN hi hx he hs hf
def DL (i:Nat) (te:TE) (ti:TIp):TS:=λD U H=>∃x,U[i]?=some (some x)/\te U H λy H1=>ti x y H1 λz H2=>D.nx (U.set i (some z)) H2
theorem um {i:Nat} {op:Operator} {ti:TIp} (hN:X.N.Nodup) (hi:X.N[i]?=some x) (hx:Loc X.env.scope x) (he:PE X e te) (ho:PIp X op ti) (hf:X.fn x=true\/X.env.scope.names.lookup x=some .local:=by z_go) :
  PS X (.AugAssign (.Name x pos') op e pos) (DL i te ti):=by
 intro pins s U H D I h;obtain⟨v,e1,h⟩:=h;obtain⟨m,hn,hl⟩:=I.loc;have vis:Vis X.env.scope x:=by rcases hx with k|k;exact .inl k;exact .inr (.inl k)
 obtain⟨u,r,l⟩:=hl i x v hi e1 vis;refine wpAny_AugAssign_Name ?_
 have go:wpAny (model X.prog X.w) X.A (eval e X.env) (λw s₂=>wpAny (model X.prog X.w) X.A (inplaceOp op u w) (λr s₃=>wpAny (model X.prog X.w) X.A (storeName X.env x r) (λ_=>SP X pins D .next) X.xe s₃) X.xe s₂) X.xe s:=by
  refine thn (he pins s U H _ I h) λw s1 ⟨y,H1,I1,r1,q1⟩=>?_;refine thn (ho pins s1 U H1 v y u w _ I1 r r1 q1) λz s2 ⟨zv,H2,I2,r2,q2⟩=>?_;exact gK I2 hN hi hx r2 (λs3 I3=>⟨_,H2,I3,q2⟩) hf
 rcases l with⟨hk,hm⟩|⟨hk,c,hc,hcell⟩
 ·exact wpAny_loadName_local I.ok.kind hk hn hm go
 rcases hk with hk|hk
 ·exact wpAny_loadName_cell I.ok.kind hk hc hcell go
 rcases hx with k|k
 ·have:X.env.scope.names.lookup x=some .free:=hk;rw[k]at this;cases this
 have:X.env.scope.names.lookup x=some .free:=hk;rw[k]at this;cases this
def ipI (f:Int->Int->Int):TIp:=λx y H Q=>∃i j,x=.int i/\y=.int j/\Q (.int (f i j)) H
theorem vk:PIp X .Add (ipI λi j=>i+j):=by
 intro pins s U H x y v u Q I r1 r2 h;obtain⟨i,j,e1,e2,q⟩:=h;subst e1;subst e2;obtain⟨t,rfl⟩:=r1;obtain⟨t',rfl⟩:=r2;exact iadd_int ⟨.int _,H,I.tok _,⟨_,rfl⟩,q⟩
end
section
variable {X:Cx} {pos:Pos}
def yH (c:TT) (tb:TS):TS:=λD U H=>∃W:Nat->St->Hp->Prop,(∃m,W m U H)/\∀m U H,W m U H ->
 c U H λb H1=>if b=true then ∃N:St->Hp->Prop,(∀σ' H',N σ' H'->∃m',m'<m/\W m' σ' H')/\tb { D with nx:=N,ct:=N,bk:=D.nx } U H1 else D.nx U H1
theorem fo {c:Expr} {body:List Stmt} {tc:TT} {tb:TS} (hp:PassesOwn (model X.prog X.w) X.A X.env X.xe) (hc:PT X c tc) (hb:PSs X body tb):PS X (.While c body [] pos) (yH tc tb):=by
 intro pins s U H D I h;obtain⟨W,⟨m0,w0⟩,turn⟩:=h;refine wpAny_While (codeAny_whileLoop (λn s'=>∃σ' H',Inv X pins σ' H' s'/\W n σ' H') ?_ m0 ⟨U,H,I,w0⟩);rintro n s1 ⟨σ1,H1,I1,w1⟩;refine wpAny_passesOwn hp (thn (hc pins s1 σ1 H1 _ I1 (turn n σ1 H1 w1)) λb s2 ⟨H2,I2,q2⟩=>?_)
 cases b with
 | true =>
  obtain⟨N,hN,q2⟩:=q2;rw[QJ rfl];refine wpAny_passesOwn hp (thn (hb pins s2 σ1 H2 _ I2 q2) λf s3 q3=>?_)
  cases f with
  | next =>
   obtain⟨σ3,H3,I3,n3⟩:=q3;obtain⟨m',hm,w3⟩:=hN σ3 H3 n3;exact⟨m',hm,σ3,H3,I3,w3⟩
  | cont =>
   obtain⟨σ3,H3,I3,n3⟩:=q3;obtain⟨m',hm,w3⟩:=hN σ3 H3 n3;exact⟨m',hm,σ3,H3,I3,w3⟩
  | brk=>exact q3
  | ret v=>exact q3
 | false =>
 rw[QA Qk];exact wpAny_execs_nil ⟨σ1,H2,I2,q2⟩
end
structure It where
 go:Nat->Hp->Prop
 yld:Nat->Hp->V->Hp->Prop
 stop:Nat->Hp->Prop
def gF (X:Cx) (pins:E2) (H:Hp) (b:Addr):Prop :=
 H b=none/\b≠X.env.locals/\b∉X.fs/\(b∈X.ex\/X.s₀.heap.objs.size<=b)/\(∀x c,X.env.cells.lookup x=some c->c≠b)/\∀p∈X.pn++pins,p.1≠b
theorem Inv.fpOk {pins:E2} {U:St} (I:Inv X pins U H s) (hb:s.heap.objs.size<=b) (hn:H' b=none):gF X pins H' b:=by
 refine⟨hn,Nat.ne_of_gt (Qz I.lt hb),I.nofs hb,.inr (QZ I.sz hb),λx c e z=>?_,λp hp z=>?_⟩
 ·obtain⟨v,q⟩:=I.cell x c e;exact absurd (Qz q.lt (by rw[z];exact hb)) (Nat.lt_irrefl _)
 exact absurd (Qz (Qn (I.pin p hp).1) (by rw[z];exact hb)) (Nat.lt_irrefl _)
structure Turn (P:Program) (w:World) (K:PySem.W.Frag) (tg:Expr) (J:It) (fp:E4) (it:Addr) (tn:Nat->Heap->Prop):Prop where
 mem:it∈fp
 obj:∀i h,tn i h->∀b∈fp,∃o,h.get? b=some o/\∀v,o.data≠.cell v
 keep:∀i h h',tn i h->(∀b∈fp,∀o,h.get? b=some o->h'.get? b=some o)->tn i h'
 item:∀(X:Cx),X.prog=P->X.w=w->X.K=K->X.calm=true->∀(i:Nat) (pins:E2) (s:Shared) (U:St) (H:Hp) (E:E1),Inv X pins U H s->(∀b∈fp,gF X pins H b)->tn i s.heap->J.go i H ->
  wpAny (model P w) X.A (pyNext (.ref it)) (λr s1=>∃u,r=some u /\
   wpAny (model P w) X.A (letOwnedTupleGo tg (.ref it) u) (λ_ s2=>∃x H',Inv X pins U H' s2/\aX x u/\J.yld i H x H'/\tn (i+1) s2.heap/\∀b∈fp,H' b=none) E s1) E s
 done:∀(X:Cx),X.prog=P->X.w=w->X.K=K->X.calm=true->∀(i:Nat) (pins:E2) (s:Shared) (U:St) (H:Hp) (E:E1),Inv X pins U H s->(∀b∈fp,gF X pins H b)->tn i s.heap->J.stop i H ->
  wpAny (model P w) X.A (pyNext (.ref it)) (λr s1=>r=none/\Inv X pins U H s1) E s
 self:∀(A:Around) (i:Nat) (s:Shared) (Q:E1) (E:E1),tn i s.heap->Q (.ref it) s->wpAny (model P w) A (pyIter (.ref it)) Q E s
abbrev TI:=St->Hp->(It->Hp->Prop)->Prop
def PIE (X:Cx) (pins:E2) (U:St) (tg:Expr) (R:It->Hp->Prop) (itv:Value) (s2:Shared):Prop :=
 ∃(it:Addr) (fp:E4) (tn:Nat->Heap->Prop) (J:It) (H':Hp),itv=.ref it/\Inv X pins U H' s2/\Turn X.prog X.w X.K tg J fp it tn/\tn 0 s2.heap/\(∀b∈fp,gF X pins H' b)/\R J H'
def PI (X:Cx) (tg iter:Expr) (wi:TI):Prop :=
 ∀(pins:E2) (s:Shared) (U:St) (H:Hp) (R:It->Hp->Prop),Inv X pins U H s->wi U H R ->
  wpAny (model X.prog X.w) X.A (eval iter X.env) (λv s1=>wpAny (model X.prog X.w) X.A (pyIter v) (PIE X pins U tg R) X.xe s1) X.xe s
theorem vq {M:Model} {s:Shared} {o:Obj} {n:String} {vs:Array Value} {Q:Unit->Shared->Prop} (ho:s.heap.get? it=some o) (hc:o.cls=.type n) (hd:o.data=.fields vs)
  (hn:["enumerate", "zip", "dict_itemiterator", "dict_reverseitemiterator", "odict_iterator", "itertools.zip_longest", "itertools.pairwise"].contains n=false) (hQ:Q () s):wpAny M A (letOwnedTupleGo tg (.ref it) u) Q E s:=by
 unfold letOwnedTupleGo
 cases tg <;> first
  | exact Qm hQ
  | (cases u <;> first
    | exact Qm hQ
    |(refine Qb (wpAny_load ho ?_)
      rw[hc,hd];show wpAny M A (if (["enumerate", "zip", "dict_itemiterator", "dict_reverseitemiterator", "odict_iterator", "itertools.zip_longest", "itertools.pairwise"].contains n&&vs[0]?==some (rawInt _))=true then _ else _) Q E s;rw[QA (by intro h;rw[hn,Bool.false_and]at h;cases h)]
      exact Qm hQ))
def Itl (K:PySem.W.Frag) (a:Addr):It :=
 ⟨λi H=>∃xs x,SqL K H a xs/\xs[i]?=some x,λi H x H'=>H'=H/\∀xs,SqL K H a xs->xs[i]?=some x,λi H=>∃xs,SqL K H a xs/\xs.length<=i⟩
def Itr (lo:Int) (n:Nat):It:=⟨λi _=>i<n,λi H x H'=>H'=H/\x=.int (lo+i),λi _=>n<=i⟩
theorem turn_list {P:Program} {w:World} {K:PySem.W.Frag} (a it:Addr):Turn P w K tg (Itl K a) [it] it (λi h=>h.IsListIter it a i) where
 mem:=by simp
 obj:=λi h st b hb=>by
  have e:b=it:=by simpa using hb
  subst e;obtain⟨o,e,c,d⟩:=st;exact⟨o,e,λv z=>by rw[d]at z;cases z⟩
 keep:=λi h h' st k=>st.at λo e=>k it (by simp) o e
 item:=by
  intro X hP hw hK hc i pins s U H E I hf st hg;subst hP hw hK;obtain⟨xs,x,hq,hx⟩:=hg;obtain⟨its,rv,p,hz⟩:=I.list hq;obtain⟨u,hu,ru⟩:=rv.get hx;obtain⟨f0,f1,f2,f3,f4,f5⟩:=hf it (by simp);refine wpAny_pyNext_list_item st p.isList (x:=u) (by simpa using hu) λh' st' sb=>?_;have I1:Inv X pins U H { s with heap:=h' }:=I.turned (t':=s.toks) (λb o hb e=>(sb.2 b hb).trans e) f0 f1 f3 f4 f5;obtain⟨o,e,c,d⟩:=id st';exact⟨u,rfl,vq (s:={ s with heap:=h' }) e c d (by decide) ⟨x,H,I1,ru,⟨rfl,λys hy=>by rw[I.list_inj hy hq];exact hx⟩,st',λb hb=>(hf b hb).1⟩⟩
 done:=by
  intro X hP hw hK hc i pins s U H E I hf st hg;subst hP hw hK;obtain⟨xs,hq,hx⟩:=hg;obtain⟨its,rv,p,hz⟩:=I.list hq;obtain⟨f0,f1,f2,f3,f4,f5⟩:=hf it (by simp);have hl:=rv.length;exact wpAny_pyNext_list_end (I.ok.hd hc) st p.isList (by simp;omega) λh' eb=>⟨rfl,I.turned (t':=s.toks) (λb o hb e=>eb b o hb e) f0 f1 f3 f4 f5⟩
 self:=λ_ _ _ _ _ st h=>wpAny_pyIter_listiter st h
theorem o8 {P:Program} {w:World} {K:PySem.W.Frag} (it:Addr) (lo:Int) (n:Nat):Turn P w K tg (Itr lo n) [it] it (λi h=>IsRangeIter h it (lo+(i:Nat)*1) ((n:Int)-(i:Nat)) 1) where
 mem:=by simp
 obj:=λi h st b hb=>by
  have e:b=it:=by simpa using hb
  subst e
  exact⟨_,st,λv z=>by
   have z':Data.fields _=Data.cell v:=z
   cases z'⟩
 keep:=λi h h' st k=>k it (by simp) _ st
 item:=by
  intro X hP hw hK hc i pins s U H E I hf st hg;subst hP hw hK;obtain⟨f0,f1,f2,f3,f4,f5⟩:=hf it (by simp);have W:=Walks.range (prog:=X.prog) (w:=X.w) (I.ok.hd hc) it lo 1 n;refine W.item i s _ _ hg st λv h' tk hv st' kk=>?_;obtain⟨t,rfl⟩:=hv;have I1:Inv X pins U H { s with heap:=h',toks:=tk }:=I.turned (λb o hb e=>kk b o (by simpa using hb) e) f0 f1 f3 f4 f5;refine⟨_,rfl,vq (s:={ s with heap:=h',toks:=tk }) (n := "range_iterator") st' rfl rfl (by decide) ⟨.int (lo+i),H,I1,⟨t,?_⟩,⟨rfl,rfl⟩,st',λb hb=>(hf b hb).1⟩⟩;rw[Int.mul_one]
 done:=by
  intro X hP hw hK hc i pins s U H E I hf st hg;subst hP hw hK;obtain⟨f0,f1,f2,f3,f4,f5⟩:=hf it (by simp);exact wpAny_pyNext_range_end (I.ok.hd hc) st (by have:n<=i:=hg;omega) λh' eb=>⟨rfl,I.turned (t':=s.toks) (λb o hb e=>eb b o hb e) f0 f1 f3 f4 f5⟩
 self:=λ_ _ _ _ _ st h=>wpAny_pyIter_rangeiter st h
section
variable {X:Cx} {tg:Expr}
def oI (K:PySem.W.Frag) (tl:TE):TI:=λU H R=>tl U H λx H1=>∃a,x=.ref a/\(∃xs,SqL K H1 a xs)/\R (Itl K a) H1
variable {l a iter:Expr}
theorem b8 {tl:TE} (hl:PE X l tl):PI X tg l (oI X.K tl):=by
 intro pins s U H R I h;refine thn (hl pins s U H _ I h) λv s1 ⟨x,H1,I1,r1,q1⟩=>?_;obtain⟨a,e,⟨xs,hq⟩,q⟩:=q1;subst e;cases r1;obtain⟨its,rv,p,hz⟩:=I1.list hq;refine wpAny_pyIter_list p.isList ?_;refine⟨s1.heap.objs.size,[s1.heap.objs.size],_,_,H1,rfl,I1.kept (t':=s1.toks) λb o e=>Qc _ e,turn_list a _,⟨_,Qu _ rfl,rfl,rfl⟩,λb hb=>?_,q⟩;have e:b=s1.heap.objs.size:=by simpa using hb
 subst e;exact I1.fpOk (Qf _) (I1.hok.fresh (Qf _))
variable {s:Shared} {pins pl:E2}
theorem nZ {U:St} {H:Hp} {R:It->Hp->Prop} {E:E1} {lo hi:Int} {t u v:Tok} {tk:Nat} (I:Inv X pins U H s) (h1:-(2 ^ 62)<=lo) (h2:lo<2 ^ 62) (h3:-(2 ^ 62)<=hi) (h4:hi<2 ^ 62)
  (q:R (Itr lo (hi-lo).toNat) H):wpAny (model X.prog X.w) X.A (pyIter (.ref s.heap.objs.size)) (PIE X pins U tg R) E { s with heap:=s.heap.push { cls:=.type "range", data:=.fields #[.int lo t,.int hi u,.int 1 v] },toks:=tk }:=by
 refine wpAny_pyIter_range (IsRange.new ..) (small_one h1 h2 h3 h4) ?_;have I1:Inv X pins U H { s with heap:=s.heap.push { cls:=.type "range", data:=.fields #[.int lo t,.int hi u,.int 1 v] },toks:=tk }:=I.kept λb o e=>Qc _ e
 refine⟨(s.heap.push { cls:=.type "range", data:=.fields #[.int lo t,.int hi u,.int 1 v] }).objs.size,[(s.heap.push { cls:=.type "range", data:=.fields #[.int lo t,.int hi u,.int 1 v] }).objs.size],_,_,H,rfl,
  I1.kept (t':=tk) λb o e=>Qc _ e,o8 _ lo (hi-lo).toNat,?_,λb hb=>?_,q⟩
 ·have e1:lo+((0:Nat):Int)*1=lo:=by simp
  have e2:(((hi-lo).toNat:Nat):Int)-((0:Nat):Int)=Builtin.Range.rangeSize lo hi 1:=by rw[rangeSize_one];split <;> omega
  show IsRangeIter _ _ (lo+((0:Nat):Int)*1) ((((hi-lo).toNat:Nat):Int)-((0:Nat):Int)) 1;rw[e1,e2];exact Qu _ rfl
 have e:b=(s.heap.push { cls:=.type "range", data:=.fields #[.int lo t,.int hi u,.int 1 v] }).objs.size:=by simpa using hb
 subst e;exact I1.fpOk (Qf _) (I1.hok.fresh (Qf _))
def yt (ta:TA):TI:=λU H R=>ta U H λvs H1=>∃j:Int,vs=[.int j]/\-(2 ^ 62)<=j/\j<2 ^ 62/\R (Itr 0 j.toNat) H1
def Dn (ta:TA):TI:=λU H R=>ta U H λvs H1=>∃i j:Int,vs=[.int i,.int j]/\(-(2 ^ 62)<=i/\i<2 ^ 62/\-(2 ^ 62)<=j/\j<2 ^ 62)/\R (Itr i (j-i).toNat) H1
theorem bY {ta:TA} {p pos:Pos} (hg:Gl X "range") (hm:X.mg "range" = none) (ha:PA X [a] ta) (hs:starEach [a] X.env=[(false,eval a X.env)]:=by rfl):PI X tg (.Call (.Name "range" p) [a] [] pos) (yt ta):=by
 intro pins s U H R I h;refine Call_ (dY I hg hm boot_range (Xg (thn (ha pos pins s U H _ I h) λus s1 ⟨vs,H1,I1,r1,q1⟩=>?_) hs rfl));obtain⟨j,e,q1,q2,q⟩:=q1;subst e
 cases r1 with
 | cons r rr =>
 cases rr;obtain⟨t,rfl⟩:=r;exact call_range_1 (nZ I1 (by omega) (by omega) q1 q2 (by simpa using q))
theorem sq {b:Expr} {ta:TA} {p pos:Pos} (hg:Gl X "range") (hm:X.mg "range" = none) (ha:PA X [a,b] ta) (hs:starEach [a,b] X.env=[(false,eval a X.env),(false,eval b X.env)]:=by rfl) (hs2:starEach [b] X.env=[(false,eval b X.env)]:=by rfl) :
  PI X tg (.Call (.Name "range" p) [a,b] [] pos) (Dn ta):=by
 intro pins s U H R I h;refine Call_ (dY I hg hm boot_range (Xg (thn (ha pos pins s U H _ I h) λus s1 ⟨vs,H1,I1,r1,q1⟩=>?_) (by rw[hs,hs2]) (by rw[hs2];rfl)));obtain⟨i,j,e,⟨q1,q2,q3,q4⟩,q⟩:=q1;subst e
 cases r1 with
 | cons r rr =>
 cases rr with
 | cons r' rr =>
 cases rr;obtain⟨t,rfl⟩:=r;obtain⟨t',rfl⟩:=r';exact call_range_2 (nZ I1 q1 q2 q3 q4 q)
def Aq (wi:TI) (g:TG) (tb:TS):TS:=λD U H=>wi U H λJ H1=>∃W:Nat->Nat->St->Hp->Prop,(∃m,W 0 m U H1)/\∀i m U H,W i m U H ->
 (J.stop i H/\D.nx U H)\/(J.go i H/\∃N:St->Hp->Prop,(∀σ' H',N σ' H'->∃m',m'<m/\W (i+1) m' σ' H')/\∀x H',J.yld i H x H'->g x U H' λσ2 H2=>tb { D with nx:=N,ct:=N,bk:=D.nx } σ2 H2)
def ik (fp:E4) (h:Heap):E2:=fp.filterMap λb=>(h.get? b).map λo=>(b,o)
variable {fp:E4}
theorem cS {h:Heap} {b:Addr} {o:Obj} (hb:b∈fp) (e:h.get? b=some o):(b,o)∈ik fp h:=List.mem_filterMap.mpr ⟨b,hb,by rw[e];rfl⟩
theorem sR {h:Heap} {p:Addr × Obj} (hp:p∈ik fp h):p.1∈fp/\h.get? p.1=some p.2:=by
 obtain⟨b,hb,e⟩:=List.mem_filterMap.mp hp
 cases q:h.get? b with
 | none=>rw[q]at e;cases e
 | some o =>
 rw[q]at e;have e':(b,o)=p:=QN e;subst e';exact⟨hb,q⟩
theorem Inv.pinned {U:St} {H:Hp} (I:Inv X pins U H s) (hf:∀b∈fp,gF X pins H b) (ho:∀b∈fp,∃o,s.heap.get? b=some o/\∀v,o.data≠.cell v):Inv X (pins++ik fp s.heap) U H s :=
 I.pins_of λp hp=>(Qr.mp hp).elim (λz=>I.pin p (QL _ z)) λz=>by
  obtain⟨hb,e⟩:=sR z;obtain⟨f0,f1,f2,_⟩:=hf p.1 hb;obtain⟨o,e',d⟩:=ho p.1 hb;rw[e]at e';cases e';exact⟨e,f0,f1,f2,d⟩
theorem Inv.unpinned {U:St} {H:Hp} (I:Inv X (pins++pl) U H s):Inv X pins U H s:=I.pins_of λp hp=>I.pin p (QL _ (List.mem_append_left _ hp))
theorem ps_for {body:List Stmt} {wi:TI} {g:TG} {tb:TS} {pos:Pos} (hp:PassesOwn (model X.prog X.w) X.A X.env X.xe) (hc:X.calm=true) (hi:PI X tg iter wi) (hg:PG X tg g) (hb:PSs X body tb)
  (hs:∀x,foldedSetIterable iter X.env x=pure x:=by intro _;rfl):PS X (.For tg iter body [] pos) (Aq wi g tb):=by
 intro pins s U H D I h;refine wpAny_For (thn (hi pins s U H _ I h) λv s1 h1=>thn h1 λitv s2 h2=>?_) hs;obtain⟨it,fp,tn,J,H2,e,I2,T,st2,f2,W,⟨m0,w0⟩,turn⟩:=h2;subst e
 -- what stays true of the iterator's objects through the loop
 have stat:∀{H':Hp},(∀b∈fp,H' b=none)->∀b∈fp,gF X pins H' b:=λhn b hb=>⟨hn b hb,(f2 b hb).2⟩;refine codeAny_forLoop_any (λn s'=>∃i σ' H',Inv X pins σ' H' s'/\tn i s'.heap/\(∀b∈fp,H' b=none)/\W i n σ' H') ?_ m0 ⟨0,U,H2,I2,st2,λb hb=>(f2 b hb).1,w0⟩;rintro n s3 ⟨i,σ3,H3,I3,st3,fr3,w3⟩;rcases turn i n σ3 H3 w3 with⟨stop,qn⟩|⟨go,N,hN,step⟩
 ·refine wpAny_passesOwn hp (thn (T.done X rfl rfl rfl hc i pins s3 σ3 H3 X.xe I3 (stat fr3) st3 stop) λr s4 ⟨hr,I4⟩=>?_);subst hr;exact wpAny_execs_nil ⟨σ3,H3,I4,qn⟩
 refine wpAny_passesOwn hp (thn (T.item X rfl rfl rfl hc i pins s3 σ3 H3 X.xe I3 (stat fr3) st3 go) λr s4 ⟨u,hr,h4⟩=>?_);subst hr;refine wpAny_passesOwn hp (thn h4 λ_ s5 ⟨x,H5,I5,r5,y5,st5,fr5⟩=>?_);have I5':=I5.pinned (stat fr5) (T.obj _ _ st5);refine wpAny_passesOwn hp (thn (hg _ s5 σ3 H5 x u _ I5' r5 (step x H5 y5)) λ_ s6 ⟨σ6,H6,I6,q6⟩=>?_);refine wpAny_passesOwn hp (thn (hb _ s6 σ6 H6 _ I6 q6) λf s7 q7=>?_)
 have again:∀{σ7:St} {H7:Hp},Inv X (pins++ik fp s5.heap) σ7 H7 s7->N σ7 H7->∃m,m<n/\∃i σ' H',Inv X pins σ' H' s7/\tn i s7.heap/\(∀b∈fp,H' b=none)/\W i m σ' H':=λ{σ7 H7} I7 n7=>by
  obtain⟨m',hm,w7⟩:=hN σ7 H7 n7;refine⟨m',hm,i+1,σ7,H7,I7.unpinned,T.keep _ _ _ st5 λb hb o e=>(I7.pin (b,o) (QL _ (QL _ (cS hb e)))).1,λb hb=>?_,w7⟩;obtain⟨o,e,d⟩:=T.obj _ _ st5 b hb;exact(I7.pin (b,o) (QL _ (QL _ (cS hb e)))).2.1
 cases f with
 | next=>obtain⟨σ7,H7,I7,n7⟩:=q7;exact again I7 n7
 | cont=>obtain⟨σ7,H7,I7,n7⟩:=q7;exact again I7 n7
 | brk=>obtain⟨σ7,H7,I7,q7⟩:=q7;exact⟨σ7,H7,I7.unpinned,q7⟩
 | ret v=>obtain⟨x7,σ7,H7,I7,r7,q7⟩:=q7;exact⟨x7,σ7,H7,I7.unpinned,r7,q7⟩
end
theorem cY {K:PySem.W.Frag} {xs:List V} {g:TG} {tb:TS} {D:Ends} {U:St} (Pv:Nat->St->Hp->Prop) (h0:Pv 0 U H) (hl:∀i U H,i<=xs.length->Pv i U H->SqL K H a xs)
  (hs:∀i x U H,xs[i]?=some x->Pv i U H->g x U H λσ2 H2=>tb { D with nx:=Pv (i+1),ct:=Pv (i+1),bk:=D.nx } σ2 H2) (hd:∀U H,Pv xs.length U H->D.nx U H) :
  ∃W:Nat->Nat->St->Hp->Prop,(∃m,W 0 m U H)/\∀i m U H,W i m U H ->
   ((Itl K a).stop i H/\D.nx U H)\/((Itl K a).go i H/\∃N:St->Hp->Prop,(∀σ' H',N σ' H'->∃m',m'<m/\W (i+1) m' σ' H')/\∀x H',(Itl K a).yld i H x H'->g x U H' λσ2 H2=>tb { D with nx:=N,ct:=N,bk:=D.nx } σ2 H2):=by
 refine⟨λi m U H=>m=xs.length-i/\i<=xs.length/\Pv i U H,⟨xs.length,by simp,QQ _,h0⟩,?_⟩;rintro i m U H ⟨rfl,hi,p⟩;have q:=hl i U H hi p;by_cases hlt:i<xs.length
 ·refine .inr ⟨⟨xs,xs[i],q,by simp[hlt]⟩,Pv (i+1),λσ' H' p'=>⟨xs.length-(i+1),by omega,rfl,hlt,p'⟩,λx H' y=>?_⟩;obtain⟨e,y⟩:=y;subst e;exact hs i x U _ (y xs q) p
 have e:i=xs.length:=by omega
 subst e;exact .inl ⟨⟨xs,q,Qf _⟩,hd U H p⟩
theorem cH {lo:Int} {n:Nat} {g:TG} {tb:TS} {D:Ends} {U:St} (Pv:Nat->St->Hp->Prop) (h0:Pv 0 U H)
  (hs:∀i U H,i<n->Pv i U H->g (.int (lo+i)) U H λσ2 H2=>tb { D with nx:=Pv (i+1),ct:=Pv (i+1),bk:=D.nx } σ2 H2) (hd:∀U H,Pv n U H->D.nx U H) :
  ∃W:Nat->Nat->St->Hp->Prop,(∃m,W 0 m U H)/\∀i m U H,W i m U H ->
   ((Itr lo n).stop i H/\D.nx U H)\/((Itr lo n).go i H/\∃N:St->Hp->Prop,(∀σ' H',N σ' H'->∃m',m'<m/\W (i+1) m' σ' H')/\∀x H',(Itr lo n).yld i H x H'->g x U H' λσ2 H2=>tb { D with nx:=N,ct:=N,bk:=D.nx } σ2 H2):=by
 refine⟨λi m U H=>m=n-i/\i<=n/\Pv i U H,⟨n,by simp,QQ _,h0⟩,?_⟩;rintro i m U H ⟨rfl,hi,p⟩;by_cases hlt:i<n
 ·refine .inr ⟨hlt,Pv (i+1),λσ' H' p'=>⟨n-(i+1),by omega,rfl,hlt,p'⟩,λx H' y=>?_⟩;obtain⟨e,y⟩:=y;subst e y;exact hs i U _ hlt p
 have e:i=n:=by omega
 subst e;exact .inl ⟨Qf _,hd U H p⟩
abbrev R2:=V->V->Hp->VK->Prop
def OpR (X:Cx) (f:Value->Value->Sem Value) (r:R2):Prop :=
 ∀(pins:E2) (s:Shared) (U:St) (H:Hp) (x y:V) (v u:Value) (Q:VK),Inv X pins U H s->aX x v->aX y u->r x y H Q ->
  wpAny (model X.prog X.w) X.A (f v u) (EP X pins U Q) X.xe s
def UnR (X:Cx) (f:Value->Sem Value) (r:V->Hp->VK->Prop):Prop :=
 ∀(pins:E2) (s:Shared) (U:St) (H:Hp) (x:V) (v:Value) (Q:VK),Inv X pins U H s->aX x v->r x H Q ->
  wpAny (model X.prog X.w) X.A (f v) (EP X pins U Q) X.xe s
def cZ (X:Cx) (f:Value) (r:List V->Hp->VK->Prop):Prop :=
 ∀(pins:E2) (s:Shared) (U:St) (H:Hp) (xs:List V) (us:List Value) (Q:VK),Inv X pins U H s->be xs us->r xs H Q ->
  wpAny (model X.prog X.w) X.A (call f us) (EP X pins U Q) X.xe s
def tOp (r:R2) (ta tb:TE):TE:=λU H Q=>ta U H λx H1=>tb U H1 λy H2=>r x y H2 Q
def tUn (r:V->Hp->VK->Prop) (ta:TE):TE:=λU H Q=>ta U H λx H1=>r x H1 Q
def rI (C:Int->Int->Prop) (g:Int->Int->V):R2:=λx y H Q=>∃i j,x=.int i/\y=.int j/\C i j/\Q (g i j) H
def rI0 (g:Int->Int->V):R2:=λx y H Q=>∃i j,x=.int i/\y=.int j/\Q (g i j) H
def rU (g:Int->V):V->Hp->VK->Prop:=λx H Q=>∃i,x=.int i/\Q (g i) H
section
variable {X:Cx} {a b c:Expr} {ta tb tc:TE} {pos:Pos}
variable {f:Value->Value->Sem Value}
theorem z_ (ha:PE X a ta) (hb:PE X b tb) {pins:E2} {s:Shared} {U:St} {H:Hp} {R:V->V->Hp->Prop} (I:Inv X pins U H s)
  (h:ta U H λx H1=>tb U H1 λy H2=>R x y H2) {Q:E1}
  (hf:∀v u s2 x y H2,Inv X pins U H2 s2->aX x v->aX y u->R x y H2->wpAny (model X.prog X.w) X.A (f v u) Q X.xe s2) :
  wpAny (model X.prog X.w) X.A (eval a X.env) (λv s₁=>wpAny (model X.prog X.w) X.A (eval b X.env) (λu s₂=>wpAny (model X.prog X.w) X.A (f v u) Q X.xe s₂) X.xe s₁) X.xe s:=by
 refine thn (ha pins s U H _ I h) λv s1 ⟨x,H1,I1,r1,q1⟩=>?_;refine thn (hb pins s1 U H1 _ I1 q1) λu s2 ⟨y,H2,I2,r2,q2⟩=>?_;exact hf v u s2 x y H2 I2 r1 r2 q2
theorem ap {op:Operator} {r:R2} (ho:OpR X (binaryOp op) r) (ha:PE X a ta) (hb:PE X b tb):PE X (.BinOp a op b pos) (tOp r ta tb):=by
 intro pins s U H Q I h;exact wpAny_BinOp (z_ ha hb I h λv u s2 x y H2 I2 rx ry q=>ho pins s2 U H2 x y v u Q I2 rx ry q)
theorem oj {op:UnaryOp} {r:V->Hp->VK->Prop} (ho:UnR X (unaryOp op) r) (ha:PE X a ta):PE X (.UnaryOp op a pos) (tUn r ta):=by
 intro pins s U H Q I h;exact UnaryOp_ (thn (ha pins s U H _ I h) λv s1 ⟨x,H1,I1,r1,q1⟩=>ho pins s1 U H1 x v Q I1 r1 q1)
theorem opI {C:Int->Int->Prop} {g:Int->Int->Int}
  (rule:∀(i j:Int) (t u:Tok) (s:Shared) (Q:E1) (E:E1),C i j->Q (.int (g i j) s.toks) { s with toks:=s.toks+1 }->wpAny (model X.prog X.w) X.A (f (.int i t) (.int j u)) Q E s) :
  OpR X f (rI C λi j=>.int (g i j)):=by
 intro pins s U H x y v u Q I rx ry h;obtain⟨i,j,rfl,rfl,hc,q⟩:=h;obtain⟨t,rfl⟩:=rx;obtain⟨t',rfl⟩:=ry;exact rule i j t t' s _ _ hc ⟨.int (g i j),H,I.tok _,⟨_,rfl⟩,q⟩
theorem za {g:Int->Int->Int}
  (rule:∀(i j:Int) (t u:Tok) (s:Shared) (Q:E1) (E:E1),Q (.int (g i j) s.toks) { s with toks:=s.toks+1 }->wpAny (model X.prog X.w) X.A (f (.int i t) (.int j u)) Q E s) :
  OpR X f (rI0 λi j=>.int (g i j)):=by
 intro pins s U H x y v u Q I rx ry h;obtain⟨i,j,rfl,rfl,q⟩:=h;obtain⟨t,rfl⟩:=rx;obtain⟨t',rfl⟩:=ry;exact rule i j t t' s _ _ ⟨.int (g i j),H,I.tok _,⟨_,rfl⟩,q⟩
theorem zb {g:Int->Int->Bool}
  (rule:∀(i j:Int) (t u:Tok) (s:Shared) (Q:E1) (E:E1),Q (.bool (g i j)) s->wpAny (model X.prog X.w) X.A (f (.int i t) (.int j u)) Q E s) :
  OpR X f (rI0 λi j=>.bl (g i j)):=by
 intro pins s U H x y v u Q I rx ry h;obtain⟨i,j,rfl,rfl,q⟩:=h;obtain⟨t,rfl⟩:=rx;obtain⟨t',rfl⟩:=ry;exact rule i j t t' s _ _ ⟨.bl (g i j),H,I,rfl,q⟩
def DI (i j:Int):Prop:=0<j/\j<1073741824
def EU (i j:Int):Prop:=0<=j/\j<=1000000/\i.natAbs<2 ^ 64
def Ae (i j:Int):Prop:=(-(2 ^ 64)<i/\i<2 ^ 64)\/(-(2 ^ 64)<j/\j<2 ^ 64)
theorem Ae.ok {i j:Int} (h:Ae i j):IntMulOk i j:=by
 rcases h with⟨h1,h2⟩|⟨h1,h2⟩
 ·exact .of_left (intBits_le_64 h1 h2)
 exact .of_right (intBits_le_64 h1 h2)
theorem o0 (k:Nat):(0:Int)<=2 ^ k:=by
 rw[two_pow_cast];exact Int.natCast_nonneg _
theorem aW:OpR X (binaryOp .Add) (rI0 λi j=>.int (i+j)):=za λ_ _ _ _ _ _ _ q=>add_int q
theorem iq:OpR X (binaryOp .Sub) (rI0 λi j=>.int (i-j)):=za λ_ _ _ _ _ _ _ q=>sub_int q
theorem dI:OpR X (binaryOp .Mult) (rI Ae λi j=>.int (i*j)):=opI λ_ _ _ _ _ _ _ hc q=>mul_int q hc.ok
theorem cw:OpR X (binaryOp .FloorDiv) (rI DI λi j=>.int (i / j)):=opI λi j _ _ _ _ _ hc q=>by
 have h1:(0:Int)<j:=hc.1;have h2:j<1073741824:=hc.2;exact floordiv_int (by omega) (by rw[Int.fdiv_eq_ediv_of_nonneg i (by omega)];exact q) (.inl (PyProof.noPylong_small (by omega)))
theorem aV:OpR X (binaryOp .Mod) (rI (λ_ j=>0<j) λi j=>.int (i % j)):=opI λi j _ _ _ _ _ hc q=>by
 have h1:(0:Int)<j:=hc;exact mod_int' (by omega) (by rw[Int.fmod_eq_emod_of_nonneg i (by omega)];exact q)
theorem uF:OpR X (binaryOp .Pow) (rI EU λi j=>.int (i ^ j.toNat)):=opI λ_ _ _ _ _ _ _ hc q=>pow_int_small hc.1 hc.2.1 hc.2.2 q
theorem y6:OpR X (binaryOp .RShift) (rI (λ_ j=>0<=j) λi j=>.int (i / 2 ^ j.toNat)):=opI λi j _ _ _ _ _ hc q =>
 rshift_int hc (by rw[Int.fdiv_eq_ediv_of_nonneg i (o0 _)];exact q)
theorem y_:OpR X (binaryOp .BitAnd) (rI0 λi j=>.int (Builtin.bitAnd i j)):=za λ_ _ _ _ _ _ _ q=>and_int q
theorem unI {f:Value->Sem Value} {g:Int->Int}
  (rule:∀(i:Int) (t:Tok) (s:Shared) (Q:E1) (E:E1),Q (.int (g i) s.toks) { s with toks:=s.toks+1 }->wpAny (model X.prog X.w) X.A (f (.int i t)) Q E s) :
  UnR X f (rU λi=>.int (g i)):=by
 intro pins s U H x v Q I rx h;obtain⟨i,rfl,q⟩:=h;obtain⟨t,rfl⟩:=rx;exact rule i t s _ _ ⟨.int (g i),H,I.tok _,⟨_,rfl⟩,q⟩
theorem ja:UnR X (unaryOp .USub) (rU λi=>.int (-i)):=unI λ_ _ _ _ _ q=>neg_int q
end
noncomputable def wf:V->V->Bool
 | .non,.non=>true|.non,.int _=>true|.int _,.non=>true|.non,.bl _=>true|.bl _,.non=>true|.non,.str _=>true|.str _,.non=>true
 | .int _,.int _=>true|.bl _,.bl _=>true|.str _,.str _=>true|.byt _,.byt _=>true
 | .int _,.str _=>true|.str _,.int _=>true|.bl _,.str _=>true|.str _,.bl _=>true
 | _,_=>false
def rEq:R2:=λx y H Q=>wf x y=true/\Q (.bl (decide (x=y))) H
def rNe:R2:=λx y H Q=>wf x y=true/\Q (.bl (!decide (x=y))) H
theorem rJ {i j:Int}:decide (V.int i=V.int j)=(i==j):=by
 rw[Bool.eq_iff_iff];simp
theorem vJ {i j:Bool}:decide (V.bl i=V.bl j)=(i==j):=by
 rw[Bool.eq_iff_iff];simp
theorem rH {i j:Str}:decide (V.str i=V.str j)=(i==j):=by
 rw[Bool.eq_iff_iff];simp
theorem rK {i j:Array UInt8}:decide (V.byt i=V.byt j)=(i.toList==j.toList):=by
 rw[Bool.eq_iff_iff];cases i;cases j;simp
section
variable {X:Cx} {a b c:Expr} {ta tb tc:TE} {pos:Pos}
theorem bj {pins:E2} {U:St} {H:Hp} {s:Shared} {Q:VK} {k k':Bool} (I:Inv X pins U H s) (q:Q (.bl k) H) (e:k=k'):EP X pins U Q (.bool k') s:=by
 subst e;exact⟨.bl k,H,I,rfl,q⟩
theorem bZ:OpR X (compareOp .Eq) rEq:=by
 intro pins s U H x y v u Q I rx ry h;obtain⟨hs,q⟩:=h
 cases x with
 | non =>
  cases rx
  cases y with
  | non=>cases ry;exact PySem.EqNone.eq_none_none (bj I q (by simp))
  | bl j=>cases ry;exact PySem.EqNone.eq_none_bool (bj I q (by simp))
  | int j=>obtain⟨t',rfl⟩:=ry;exact PySem.EqNone.eq_none_int (bj I q (by simp))
  | str j=>obtain⟨t',rfl⟩:=ry;exact PySem.EqNone.eq_none_str (bj I q (by simp))
  | _=>exact absurd (show false=true from hs) Qk
 | bl i =>
  cases rx
  cases y with
  | non=>cases ry;exact PySem.EqNone.eq_bool_none (bj I q (by simp))
  | bl j=>cases ry;exact eq_bool (bj I q vJ)
  | str j=>obtain⟨t',rfl⟩:=ry;exact PySem.EqMixed.eq_bool_str (bj I q (by simp))
  | _=>exact absurd (show false=true from hs) Qk
 | int i =>
  obtain⟨t,rfl⟩:=rx
  cases y with
  | non=>cases ry;exact PySem.EqNone.eq_int_none (bj I q (by simp))
  | int j=>obtain⟨t',rfl⟩:=ry;exact eq_int (bj I q rJ)
  | str j=>obtain⟨t',rfl⟩:=ry;exact PySem.EqMixed.eq_int_str (bj I q (by simp))
  | _=>exact absurd (show false=true from hs) Qk
 | str i =>
  obtain⟨t,rfl⟩:=rx
  cases y with
  | non=>cases ry;exact PySem.EqNone.eq_str_none (bj I q (by simp))
  | bl j=>cases ry;exact PySem.EqMixed.eq_str_bool (bj I q (by simp))
  | int j=>obtain⟨t',rfl⟩:=ry;exact PySem.EqMixed.eq_str_int (bj I q (by simp))
  | str j=>obtain⟨t',rfl⟩:=ry;exact eq_str (bj I q rH)
  | _=>exact absurd (show false=true from hs) Qk
 | byt i =>
  obtain⟨t,rfl⟩:=rx
  cases y with
  | byt j=>obtain⟨t',rfl⟩:=ry;exact PySem.W.eq_bytes (bj I q rK)
  | _=>exact absurd (show false=true from hs) Qk
 | _=>cases y <;> exact absurd (show false=true from hs) Qk
theorem iF:OpR X (compareOp .NotEq) rNe:=by
 intro pins s U H x y v u Q I rx ry h;obtain⟨hs,q⟩:=h
 cases x with
 | non =>
  cases rx
  cases y with
  | non=>cases ry;exact PySem.EqNone.ne_none_none (bj I q (by simp))
  | bl j=>cases ry;exact PySem.EqNone.ne_none_bool (bj I q (by simp))
  | int j=>obtain⟨t',rfl⟩:=ry;exact PySem.EqNone.ne_none_int (bj I q (by simp))
  | str j=>obtain⟨t',rfl⟩:=ry;exact PySem.EqNone.ne_none_str (bj I q (by simp))
  | _=>exact absurd (show false=true from hs) Qk
 | bl i =>
  cases rx
  cases y with
  | non=>cases ry;exact PySem.EqNone.ne_bool_none (bj I q (by simp))
  | bl j=>cases ry;exact ne_bool (bj I q (congrArg not vJ))
  | str j=>obtain⟨t',rfl⟩:=ry;exact PySem.EqMixed.ne_bool_str (bj I q (by simp))
  | _=>exact absurd (show false=true from hs) Qk
 | int i =>
  obtain⟨t,rfl⟩:=rx
  cases y with
  | non=>cases ry;exact PySem.EqNone.ne_int_none (bj I q (by simp))
  | int j=>obtain⟨t',rfl⟩:=ry;exact ne_int (bj I q (congrArg not rJ))
  | str j=>obtain⟨t',rfl⟩:=ry;exact PySem.EqMixed.ne_int_str (bj I q (by simp))
  | _=>exact absurd (show false=true from hs) Qk
 | str i =>
  obtain⟨t,rfl⟩:=rx
  cases y with
  | non=>cases ry;exact PySem.EqNone.ne_str_none (bj I q (by simp))
  | bl j=>cases ry;exact PySem.EqMixed.ne_str_bool (bj I q (by simp))
  | int j=>obtain⟨t',rfl⟩:=ry;exact PySem.EqMixed.ne_str_int (bj I q (by simp))
  | str j=>obtain⟨t',rfl⟩:=ry;exact ne_str (bj I q (congrArg not rH))
  | _=>exact absurd (show false=true from hs) Qk
 | byt i =>
  obtain⟨t,rfl⟩:=rx
  cases y with
  | byt j=>obtain⟨t',rfl⟩:=ry;exact PySem.W.ne_bytes (bj I q (congrArg not rK))
  | _=>exact absurd (show false=true from hs) Qk
 | _=>cases y <;> exact absurd (show false=true from hs) Qk
theorem lh:OpR X (compareOp .Lt) (rI0 λi j=>.bl (decide (i<j))):=zb λ_ _ _ _ _ _ _ q=>lt_int q
theorem xR:OpR X (compareOp .Gt) (rI0 λi j=>.bl (decide (j<i))):=zb λ_ _ _ _ _ _ _ q=>gt_int q
theorem AG:OpR X (compareOp .GtE) (rI0 λi j=>.bl (decide (j<=i))):=zb λ_ _ _ _ _ _ _ q=>ge_int q
theorem uH:OpR X (compareOp .Is) (λx y H Q=>y=.non/\Q (.bl (decide (x=.non))) H):=by
 intro pins s U H x y v u Q I rx ry h;obtain⟨rfl,q⟩:=h;cases ry;refine is_none_gen (bj I q ?_)
 cases x <;> first
  | (cases rx;rfl)
  | (obtain⟨t,rfl⟩:=rx;rfl)
theorem iZ:OpR X (compareOp .IsNot) (λx y H Q=>y=.non/\Q (.bl (!decide (x=.non))) H):=by
 intro pins s U H x y v u Q I rx ry h;obtain⟨rfl,q⟩:=h;cases ry;refine isnot_none_gen (bj I q ?_)
 cases x <;> first
  | (cases rx;rfl)
  | (obtain⟨t,rfl⟩:=rx;rfl)
variable {op:CmpOp}
theorem aO (b:Expr) (h:op≠.In:=by decide) (h2:op≠.NotIn:=by decide):behindInMarks op b=false:=by
 have e1:(op==CmpOp.In)=false:=by cases op <;> first|rfl|exact absurd rfl h
 have e2:(op==CmpOp.NotIn)=false:=by cases op <;> first|rfl|exact absurd rfl h2
 cases b <;> simp[behindInMarks,e1,e2]
theorem dq {r:R2} (ho:OpR X (compareOp op) r) (ha:PE X a ta) (hb:PE X b tb) (hm:behindInMarks op b=false):PE X (.Compare a [op] [b] pos) (tOp r ta tb):=by
 intro pins s U H Q I h;exact wpAny_Compare1 (z_ ha hb I h λv u s2 x y H2 I2 rx ry q=>ho pins s2 U H2 x y v u Q I2 rx ry q) hm
def xq (t:TE):TT:=λU H Q=>t U H λx H'=>∃k,x=.bl k/\Q k H'
theorem aH {r:R2} (ho:OpR X (compareOp op) r) (ha:PE X a ta) (hb:PE X b tb) (hm:behindInMarks op b=false):PT X (.Compare a [op] [b] pos) (xq (tOp r ta tb)):=by
 intro pins s U H Q I h
 refine wpAny_isTrue_Compare1 (thn (ha pins s U H _ I h) λv s1 ⟨x,H1,I1,r1,q1⟩=>thn (hb pins s1 U H1 _ I1 q1) λu s2 ⟨y,H2,I2,r2,q2⟩ =>
  thn (ho pins s2 U H2 x y v u _ I2 r1 r2 q2) λc s3 ⟨z,H3,I3,r3,k,e,q3⟩=>?_) hm
 subst e;cases r3;exact wpAny_truthy_bool ⟨H3,I3,q3⟩
theorem ir:(sizeLine:Nat)<2 ^ 63:=by rw[sizeLine_eq];decide
theorem bt:OpR X (binaryOp .Add) (λx y H Q=>∃i j,x=.str i/\y=.str j/\i.length+j.length<=sizeLine/\Q (.str (i++j)) H):=by
 intro pins s U H x y v u Q I rx ry h;obtain⟨i,j,rfl,rfl,hz,q⟩:=h;obtain⟨t,rfl⟩:=rx;obtain⟨t',rfl⟩:=ry;exact add_str (λt' tk=>⟨.str (i++j),H,I.tok _,⟨_,rfl⟩,q⟩) hz
theorem d6 {x:V} {us:List Value} (r:be [x] us):∃u,us=[u]/\aX x u:=by
 cases r with
 | cons r1 r2=>cases r2;exact⟨_,rfl,r1⟩
theorem nv {x y:V} {us:List Value} (r:be [x,y] us):∃u w',us=[u,w']/\aX x u/\aX y w':=by
 cases r with
 | cons r1 r2 =>
 cases r2 with
 | cons r3 r4=>cases r4;exact⟨_,_,rfl,r1,r3⟩
theorem vU:cZ X (.builtin "abs") (λxs H Q=>∃i,xs=[.int i]/\Q (.int (if i<0 then -i else i)) H):=by
 intro pins s U H xs us Q I r h;obtain⟨i,rfl,q⟩:=h;obtain⟨u,rfl,t,rfl⟩:=d6 r;exact call_abs_int λu tk=>⟨.int (if i<0 then -i else i),H,I.tok _,⟨_,rfl⟩,q⟩
theorem lH (hc:X.calm=true):cZ X (.builtin "min") (λxs H Q=>∃i j,xs=[.int i,.int j]/\Q (.int (if j<i then j else i)) H):=by
 intro pins s U H xs us Q I r h;obtain⟨i,j,rfl,q⟩:=h;obtain⟨u,w',rfl,⟨t,rfl⟩,⟨t',rfl⟩⟩:=nv r;refine min_two_ints (I.ok.hd hc) λh' tk k=>⟨_,H,I.kept k,?_,q⟩;by_cases hj:j<i
 ·rw[QJ hj,QJ hj];exact⟨_,rfl⟩
 rw[QA hj,QA hj];exact⟨_,rfl⟩
end
structure ObjM (h:Heap) (x dx C:Addr) (mA:E3):Prop where
 obj:h.get? x=some (PySem.W.instObj C dx)
 ns:h.Ns1 dx mA
 ne:dx≠x
variable {mA:E3}
theorem lq (n:h.Ns1 dx mA):∃od,h.get? dx=some od/\∀name,PySem.W.lookIn name od=some (mA name):=by
 obtain⟨o,es,ep,ho,hd,hk,_,hm⟩:=n;refine⟨o,ho,λname=>?_⟩;have e:=hm name;unfold nsFind findBy at e;rw[<-Array.find?_toList]at e;unfold PySem.W.lookIn;rw[hd];dsimp only
 split
 ·rename_i y q
  rw[q]at e;exact congrArg some e
 rename_i q
 rw[q]at e
 have a:es.toList.any (·.refKey)=false:=by
  rw[List.any_eq_false];intro y hy;obtain⟨z,t,hkey⟩:=hk y (Array.mem_toList_iff.mp hy);simp[DictEntry.refKey,hkey]
 have a':¬es.toList.any (·.refKey)=true:=by rw[a];exact Qk
 rw[QA a'];exact congrArg some e
theorem ObjM.look {x:Addr} (I:ObjM h x dx C mA):∃od,PySem.W.InstAt h x (PySem.W.instObj C dx) C (some od)/\∀name,PySem.W.lookIn name od=some (mA name) :=
 let ⟨od,ho,hl⟩:=lq I.ns
 ⟨od,⟨I.obj,rfl,rfl,ho⟩,hl⟩
section
variable {prog:Program} {w:World} {A:Around} {E:E1} {s:Shared} {K:PySem.W.Frag} {x dx C f:Addr} {mA:E3} {name:Str} {v:Value}
end
theorem iR.some_of {v:V} {o:Option Value} (r:iR (some v) o):∃u,o=some u/\aX v u:=by
 cases o with
 | none=>exact(show False from r).elim
 | some u=>exact⟨u,rfl,r⟩
section
variable {P:Program} {w:World} {H H':Hp} {h h':Heap} {a C dx:Addr} {fs fs':List (Str × V)}
theorem wS (hok:HOk P w H h) (e:H a=some (.ins C dx fs)):∃mA,ObjM h a dx C mA/\(∀f,iR (fs.lookup f) (mA f))/\PySem.Within mA (fs.map (·.1))/\fs.length<=1000/\H dx=some (.own a):=by
 obtain⟨d,z,ne,ob,mA,n,r,q⟩:=(show bn P w H h a (.ins C dx fs) from hok a _ e);exact⟨mA,⟨ob,n,ne⟩,r,q,z,d⟩
end
structure Cls (K:PySem.W.Frag) (C:Addr):Prop where
 pg:PySem.W.plainGet K C Str.empty=true
 hd:PySem.W.hasDictIn K C=true
 po:PySem.W.plainOver K C=true
 sa:PySem.W.findIn K (.ref C) "__setattr__" = some (some (.builtin "object.__setattr__"))
theorem Cls.get {K:PySem.W.Frag} (c:Cls K C) (f:Str):PySem.W.plainGet K C f=true:=c.pg
structure Con (K:PySem.W.Frag) (C:Addr) (f:Str) (v:V) (u:Value):Prop where
 at_:PySem.W.findIn K (.ref C) f=some (some u)
 rel:aX v u
 get:PySem.W.specialIn K u "__get__" = some none
 cp:PySem.W.copiedNames.contains f=false
structure Meth (K:PySem.W.Frag) (C:Addr) (m:Str) (f:Addr):Prop where
 at_:PySem.W.findIn K (.ref C) m=some (some (.ref f))
 fn:PySem.W.isFn K (.ref f)=true
 kp:PySem.W.keepIn K (.ref f)=true
section
variable {X:Cx} {pins:E2} {U:St} {H:Hp} {s:Shared} {a C dx:Addr} {fs:List (Str × V)} {f:Str} {v:V} {A:Around} {E:E1}
end
def DH (X:Cx) (op:Operator) (rd:V->V->Hp->VK->Prop):Prop :=
 ∀(pins:E2) (s:Shared) (U:St) (H:Hp) (x y:V) (u v:Value) (Q:VK),Inv X pins U H s->aX x u->aX y v->rd x y H Q->wpAny (model X.prog X.w) X.A (inplaceOp op u v) (EP X pins U Q) X.xe s
section
variable {X:Cx} {o e value:Expr} {f:Str} {pos pos' tpos:Pos} {ta tv:TE}
def DM:V->V->Hp->VK->Prop:=λx y H Q=>∃i j,x=.int i/\y=.int j/\Q (.int (i-j)) H
theorem zR:DH X .Sub DM:=by
 rintro pins s U H x y u v Q I rx ry ⟨i,j,rfl,rfl,q⟩;obtain⟨t,rfl⟩:=(show ∃t,u=Value.int i t from rx);obtain⟨t',rfl⟩:=(show ∃t',v=Value.int j t' from ry);exact PyProof.Rows.isub_int ⟨.int (i-j),H,I.tok _,⟨_,rfl⟩,q⟩
end
section
variable {X:Cx} {pins:E2} {U:St} {H:Hp} {s:Shared} {A:Around} {E:E1} {Q:E1} {c:Value} {b:Bool}
inductive TyOf (K:PySem.W.Frag) (H:Hp):V->Value->Prop where
 | non:TyOf K H .non (.type "NoneType")
 | bl (x:Bool):TyOf K H (.bl x) (.type "bool")
 | int (i:Int):TyOf K H (.int i) (.type "int")
 | str (x:Str):TyOf K H (.str x) (.type "str")
 | flt (x:UInt64):TyOf K H (.flt x) (.type "float")
 | lst {a:Addr} {xs:List V} (e:H a=some (.lst xs)):TyOf K H (.ref a) (.type "list")
 | frz {a:Addr} {o:Obj} {xs:List V} (e:H a=some (.frz o (.lst xs))):TyOf K H (.ref a) (.type "list")
 | tup {a:Addr} {xs:List V} (e:H a=some (.tup xs)):TyOf K H (.ref a) (.type "tuple")
 | dK {a:Addr} {kvs:List (Key × V)} (e:H a=some (.dK kvs)):TyOf K H (.ref a) (.type "dict")
 | dT {a:Addr} {kvs:List (List Key × V)} (e:H a=some (.dT kvs)):TyOf K H (.ref a) (.type "dict")
 | ins {a C dx:Addr} {fs:List (Str × V)} (e:H a=some (.ins C dx fs)) (cl:Cls K C) (ha:PySem.W.findIn K (.ref C) "__class__" = some (some (.builtin "object.__class__")))
   (hn:PySem.W.specialIn K (.builtin "object.__class__") "__get__" = some (some (.builtin "getset_descriptor.__get__"))) (htk:PySem.W.takesIn K (.builtin "object.__class__")=some true)
   (hm:PySem.W.mroIn K C (.type "object")=some true):TyOf K H (.ref a) (.ref C)
theorem tf {x:V} {u t:Value} (I:Inv X pins U H s) (rx:aX x u) (ty:TyOf X.K H x t) (e:PySem.W.kitOne X.K t c=some b) (h:∀tk,Q (.bool b) { s with toks:=tk }) :
  wpAny (model X.prog X.w) A (call (.builtin "isinstance") [u,c]) Q E s:=by
 cases ty with
 | non=>cases (show u=Value.none from rx);exact Xl PySem.W.kitx_none I.kIn True.intro e (λz=>nomatch z) h
 | bl y=>cases (show u=Value.bool y from rx);exact Xl PySem.W.kitx_bool I.kIn True.intro e (λz=>nomatch z) h
 | int i=>obtain⟨t,q⟩:=(show ∃t,u=Value.int i t from rx);cases q;exact Xl PySem.W.kitx_int I.kIn True.intro e (λz=>nomatch z) h
 | str y=>obtain⟨t,q⟩:=(show ∃t,u=Value.str y t from rx);cases q;exact Xl PySem.W.kitx_str I.kIn True.intro e (λz=>nomatch z) h
 | flt y=>obtain⟨t,q⟩:=(show ∃t,u=Value.float y t from rx);cases q;exact Xl PySem.W.kitx_float I.kIn True.intro e (λz=>nomatch z) h
 | @lst a xs ea =>
  cases (show u=Value.ref a from rx);obtain⟨_,_,n,_,h1⟩:=(show bn X.prog X.w H s.heap a (.lst xs) from I.hok a _ ea);exact Xl PySem.W.kitx_list I.kIn ⟨_,h1,rfl⟩ e (λz=>nomatch z) h
 | @frz a ob xs ea =>
  cases (show u=Value.ref a from rx);obtain⟨_,_,_,n,_,h1⟩:=(show bn X.prog X.w H s.heap a (.frz ob (.lst xs)) from I.hok a _ ea);exact Xl PySem.W.kitx_list I.kIn ⟨_,h1,rfl⟩ e (λz=>nomatch z) h
 | @tup a xs ea =>
  cases (show u=Value.ref a from rx);obtain⟨_,_,_,p⟩:=(show bn X.prog X.w H s.heap a (.tup xs) from I.hok a _ ea);obtain⟨o,h1,h2,_⟩:=p;exact Xl PySem.W.kitx_tuple I.kIn ⟨o,h1,h2⟩ e (λz=>nomatch z) h
 | @dK a kvs ea =>
  cases (show u=Value.ref a from rx);obtain⟨_,_,vs,_,p⟩:=(show bn X.prog X.w H s.heap a (.dK kvs) from I.hok a _ ea);obtain⟨o,es,ep,h1,h2,_⟩:=p;exact Xl PySem.W.kitx_dict I.kIn ⟨o,h1,h2.1⟩ e (λz=>nomatch z) h
 | @dT a kvs ea =>
  cases (show u=Value.ref a from rx);obtain⟨_,_,xs,_,o,es,ep,h1,h2,_⟩:=(show bn X.prog X.w H s.heap a (.dT kvs) from I.hok a _ ea);exact Xl PySem.W.kitx_dict I.kIn ⟨o,h1,h2.1⟩ e (λz=>nomatch z) h
 | @ins a C dx fs ea cl ha hn htk hm =>
 cases (show u=Value.ref a from rx);obtain⟨mA,O,_⟩:=wS I.hok ea;obtain⟨od,J,_⟩:=O.look;exact Xl (PySem.W.kitx_own (cl.get _) cl.hd ha hn htk hm) I.kIn J e (λz=>nomatch z) h
end
structure Room (k:Nat) (A:Around):Prop where
 hd:A.handled=none
 dp:A.depth+3*k+5<recursionLimit
 un:A.units+16*k+200<cLine
theorem Room.mono {j k:Nat} (r:Room k A) (h:j<=k):Room j A:=⟨r.hd,by have:=r.dp;omega,by have:=r.un;omega⟩
theorem Room.deeper {k:Nat} (r:Room (k+1) A) (env:Env):Room k (A.deeper env) :=
 ⟨r.hd,by have:=r.dp;show A.depth+1+3*k+5<_;omega,by have:=r.un;show A.units+3+16*k+200<_;omega⟩
theorem Room.depth {k:Nat} (r:Room k A):A.depth<recursionLimit:=by have:=r.dp;omega
theorem Room.units {k:Nat} (r:Room k A):A.units+64<cLine:=by have:=r.un;omega
def eO:TA:=λ_ H Q=>Q [] H
def bq (ta:TE) (tr:TA):TA:=λU H Q=>ta U H λx H1=>tr U H1 λxs H2=>Q (x::xs) H2
section
variable {X:Cx} {e:Expr} {es:List Expr} {te:TE} {t:TA} {pos:Pos}
theorem ae:PA X [] eO:=λ_ _ _ _ H Q I h=>Calls.spliced_nil ⟨[],H,I,.nil,h⟩
theorem aa (ha:PE X e te) (hr:PA X es t) (hs:starEach (e::es) X.env=(false,eval e X.env)::starEach es X.env:=by rfl):PA X (e::es) (bq te t):=by
 intro pos pins s U H Q I h;rw[hs];show wpAny _ _ (spliced ((false,eval e X.env)::backTo pos (starEach es X.env))) _ _ s;refine Calls.spliced_cons (thn (ha pins s U H _ I h) λu s1 ⟨x,H1,I1,r1,q1⟩=>?_);exact thn (hr pos pins s1 U H1 _ I1 q1) λus s2 ⟨xs,H2,I2,r2,q2⟩=>⟨x::xs,H2,I2,.cons r1 r2,q2⟩
def nB (t:TA):TE:=λU H Q=>t U H λxs H1=>xs.length<=sizeLine/\∀p,H1 p=none->Q (.ref p) (upd H1 p (.tup xs))
def wb (t:TA):TE:=λU H Q=>t U H λxs H1=>xs.length<=sizeLine/\∀p,H1 p=none->Q (.ref p) (upd H1 p (.lst xs))
theorem pe_tup {x1} (h:PA X es t):PE X (.Tuple es x1 pos) (nB t):=by
 intro pins s U H Q I hq;refine wpAny_Tuple_spliced (thn (h pos pins s U H _ I hq) λus s1 ⟨xs,H1,I1,r,z,q⟩=>⟨by rw[<-r.length];exact z,?_⟩);have hf:H1 s1.heap.objs.size=none:=I1.hok.fresh (Qf _);refine⟨.ref s1.heap.objs.size,upd H1 s1.heap.objs.size (.tup xs),I1.laid (t':=s1.toks) (λb u e=>Qc _ e) (Qf _) ?_,rfl,q _ hf⟩;exact⟨z,us,r,⟨_,Qu _ rfl,rfl,_,rfl⟩⟩
theorem bo (h:PA X es t):PE X (.List es pos) (wb t):=by
 intro pins s U H Q I hq;refine wpAny_List_spliced (thn (h pos pins s U H _ I hq) λus s1 ⟨xs,H1,I1,r,z,q⟩=>⟨by rw[<-r.length];exact z,?_⟩);have hf:H1 s1.heap.objs.size=none:=I1.hok.fresh (Qf _);refine⟨.ref s1.heap.objs.size,upd H1 s1.heap.objs.size (.lst xs),I1.laid (t':=s1.toks) (λb u e=>Qc _ e) (Qf _) ?_,rfl,q _ hf⟩;exact⟨z,us,0,r,Qu _ rfl⟩
end
abbrev Sp:=List V->Hp->VK->XK->Prop
abbrev CXT:=List Env->Hp->Shared->XK->E1
structure Env0 (P:Program) (w:World) (K:PySem.W.Frag) (mg:E3) (base:Heap) (A:Around) (outer:List Env) (s:Shared) (H:Hp):Prop where
 frames:A.frames=some outer
 mod:Mod K mg base
 bs:∀b o,base.get? b=some o->s.heap.get? b=some o/\H b=none
 bsz:base.objs.size<=s.heap.objs.size
 funs:s.heap.FunFrames base outer
 frf:∀b∈frs outer,H b=none
 hok:HOk P w H s.heap
 bare:AllBare s.gens
def CE (outer:List Env) (P:Program) (w:World) (H:Hp) (s:Shared) (Q:VK) (u:Value) (s':Shared):Prop :=
 ∃v H',s'.os=s.os/\AllBare s'.gens/\Un (frs outer) [] H H' s.heap s'.heap/\HOk P w H' s'.heap/\aX v u/\Q v H'
def CR (CX:CXT) (outer:List Env) (P:Program) (w:World) (H:Hp) (s:Shared) (Q:VK) (E:XK) (r:Result) (s':Shared):Prop :=
 match r with
 | .ok (.ret u)=>CE outer P w H s Q u s'
 | .ok _=>False
 | .error e=>CX outer H s E e s'
structure FnOk (P:Program) (w:World) (K:PySem.W.Frag) (mg:E3) (base:Heap) (CX:CXT) (k:Nat) (f:Addr) (fd:FuncData) (ps:List Str) (sp:Sp):Prop where
 len:∀vs H Q E,sp vs H Q E->vs.length=ps.length
 run:∀(A:Around) (outer:List Env) (s:Shared) (H:Hp) (args:Args) (us:List Value) (vs:List V) (Q:VK) (E:XK),Room k A->Env0 P w K mg base A outer s H->BindsTo s fd args (ps.zip us)->be vs us->sp vs H Q E ->
  codeAny (model P w) A (.call (.ref f) args) (CR CX outer P w H s Q E) s
section
variable {X:Cx} {pins:E2} {U:St} {H:Hp} {s s':Shared}
theorem Inv.env0 (I:Inv X pins U H s):Env0 X.prog X.w X.K X.mg X.base X.A X.stack s H :=
 ⟨I.ok.frames,I.ok.mod,I.bs,QZ I.ok.bsz I.sz,I.stack,I.stkFree,I.hok,I.bare⟩
theorem Inv.after {Q:VK} {u:Value} (I:Inv X pins U H s) (h:CE X.stack X.prog X.w H s Q u s'):EP X pins U Q u s':=by
 obtain⟨v,H',os,bare,un,hok,r,q⟩:=h;obtain⟨hh,g,d,t,os'⟩:=s';obtain rfl:os'=s.os:=os;exact⟨v,H',I.call (h':=hh) (g':=g) (d':=d) (t':=t) (ch:=[]) un hok bare (λb z=>absurd z (by simp)),r,q⟩
end
def gJ (sp:Sp) (dvs:List V) (E:XK) (t:TA):TE:=λU H Q=>t U H λvs H1=>sp (vs++dvs) H1 Q E
def dW (K:PySem.W.Frag) (fd:FuncData) (ps:List Str) (ds:List Value):Prop :=
 ∀(s:Shared) (us:List Value),K.In s.heap->(us++ds).length=ps.length->BindsTo s fd ⟨us,[]⟩ (ps.zip (us++ds))
variable {ps N:List Str}
theorem dW.all {K:PySem.W.Frag} {fd:FuncData} (h:∀us:List Value,us.length=ps.length->bindArgs fd ⟨us,[]⟩=pure (ps.zip us)):dW K fd ps []:=λs us _ hl=>by
 rw[Xm]at hl ⊢;exact .of_eq (h us hl)
def gE (CX:CXT) (X:Cx) (E:XK):Prop:=∀(pins:E2) (U:St) (H:Hp) (s:Shared) (e:Value) (s':Shared),Inv X pins U H s->CX X.stack H s E e s'->X.xe e s'
section
variable {X:Cx} {CX:CXT} {k:Nat} {f C:Addr} {fd:FuncData} {ps:List Str} {sp:Sp} {dvs:List V} {ds:List Value} {E:XK} {x m:Str} {p pos apos:Pos} {e o:Expr} {es:List Expr} {ta:TE} {t:TA}
theorem yP {pins:E2} {U:St} {H:Hp} {s:Shared} {Q:VK} {us:List Value} {vs:List V} (F:FnOk X.prog X.w X.K X.mg X.base CX k f fd ps sp) (hr:Room k X.A) (hb:dW X.K fd ps ds) (hd:be dvs ds) (hx:gE CX X E)
  (I:Inv X pins U H s) (r:be vs us) (h:sp (vs++dvs) H Q E):wpAny (model X.prog X.w) X.A (call (.ref f) us) (EP X pins U Q) X.xe s:=by
 have r2:be (vs++dvs) (us++ds):=r.append hd;have hl:(us++ds).length=ps.length:=by rw[<-r2.length];exact F.len _ _ _ _ h
 refine wpAny_call (codeAny_mono (F.run X.A X.stack s H ⟨us,[]⟩ (us++ds) (vs++dvs) Q E hr I.env0 (hb s us I.kIn hl) r2 h) λr s' hq=>?_)
 cases r with
 | error e=>exact hx pins U H s e s' I hq
 | ok fl =>
 cases fl with
 | ret u=>exact I.after hq
 | next=>exact False.elim hq
 | brk=>exact False.elim hq
 | cont=>exact False.elim hq
theorem qZ (F:FnOk X.prog X.w X.K X.mg X.base CX k f fd ps sp) (hr:Room k X.A) (hg:Gl X x) (hm:X.mg x=some (.ref f)) (hk:PySem.W.keepIn X.K (.ref f)=true) (hb:dW X.K fd ps ds) (hd:be dvs ds) (hx:gE CX X E)
  (ha:PA X (e::es) t) (hdb:(x==("__debug__" : Str))=false:=by decide) (he:starEach (e::es) X.env=(false,eval e X.env)::starEach es X.env:=by rfl) (hpl:(backTo pos (starEach es X.env)).any (·.1)=false:=by rfl) :
  PE X (.Call (.Name x p) (e::es) [] pos) (gJ sp dvs E t):=by
 intro pins s U H Q I h;refine XA (fU I hg hm ?_ hdb);refine PySem.W.callWith_K (h₀:=X.base) I.ok.mod.kin hk (thn (ha pos pins s U H _ I h) λus s1 ⟨vs,H1,I1,r,q⟩=>⟨I1.kIn,?_⟩) he hpl;exact yP F hr hb hd hx I1 r q
structure Mk (K:PySem.W.Frag) (C f:Addr):Prop where
 makes:PySem.W.makesIn K C=true
 init:PySem.W.findIn K (.ref C) "__init__" = some (some (.ref f))
 fn:PySem.W.isFn K (.ref f)=true
 kp:PySem.W.keepIn K (.ref C)=true
end
def PK (X:Cx) (kws:List Keyword) (t:TA):Prop :=
 ∀(pos:Pos) (pins:E2) (s:Shared) (U:St) (H:Hp) (Q:List V->Hp->Prop),Inv X pins U H s->t U H Q->wpAny (model X.prog X.w) X.A (evalAll ((backToKw pos (keywordEach kws X.env)).map (·.2))) (AP X pins U Q) X.xe s
section
variable {X:Cx} {CX:CXT} {k:Nat} {f C:Addr} {fd:FuncData} {ps ks:List Str} {sp:Sp} {E:XK} {x m:Str} {p pos apos kpos:Pos} {e o:Expr} {es:List Expr} {kws:List Keyword} {te ta:TE} {t tk:TA} {nm:Option Str}
theorem yV:PK X [] eO:=λ_ _ _ _ H Q I h=>wpAny_evalAll_nil ⟨[],H,I,.nil,h⟩
theorem wq (ha:PE X e te) (hr:PK X kws t):PK X (⟨nm,e,kpos⟩::kws) (bq te t):=by
 intro pos pins s U H Q I h;show wpAny _ _ (evalAll ((do let v <-eval e X.env;standAt pos;pure v)::(backToKw pos (keywordEach kws X.env)).map (·.2))) _ _ s;refine wpAny_evalAll_cons (Qb (thn (ha pins s U H _ I h) λu s1 ⟨x,H1,I1,r1,q1⟩=>Qb (wpAny_standAt (Qm ?_))));exact thn (hr pos pins s1 U H1 _ I1 q1) λus s2 ⟨xs,H2,I2,r2,q2⟩=>⟨x::xs,H2,I2,.cons r1 r2,q2⟩
structure KBinds (K:PySem.W.Frag) (fd:FuncData) (ps ks:List Str) (g:List Value->List Value->List Value) (gV:List V->List V->List V):Prop where
 to:∀(s:Shared) (us ws:List Value),K.In s.heap->(g us ws).length=ps.length->BindsTo s fd ⟨us,ks.zip ws⟩ (ps.zip (g us ws))
 rel:∀{vs:List V} {us:List Value} {zs:List V} {ws:List Value},be vs us->be zs ws->be (gV vs zs) (g us ws)
variable {g:List Value->List Value->List Value} {gV:List V->List V->List V}
end
structure FnScope (N P:List Str) (sc:Scope):Prop where
 kind:sc.kind=.function
 co:sc.isCoroutine=false
 gen:sc.isGenerator=false
 nd:N.Nodup
 pre:N.take P.length=P
 par:∀x∈P,sc.names.lookup x=some .local\/sc.names.lookup x=some .cell
 nofree:∀y∈sc.names,y.2≠.free
theorem lI {kindOf:Str->Option NameKind} {x:Str}:∀{binds:List (Str × Value)} {m:E3},(∀v,(x,v)∉binds)->bindL kindOf binds m x=m x
 | [],_,_=>rfl
 | (n,v)::r,m,h=>by
  unfold bindL;rw[lI λw hw=>h w (Qv _ hw)]
  split
  ·have:x≠n:=by rintro rfl;exact h v Xi
   simp[this]
  rfl
theorem lK {kindOf:Str->Option NameKind} {x:Str}:∀{binds:List (Str × Value)} {m:E3},(∀v,(x,v)∉binds)->bindC kindOf binds m x=m x
 | [],_,_=>rfl
 | (n,v)::r,m,h=>by
  unfold bindC;rw[lK λw hw=>h w (Qv _ hw)]
  split
  ·rfl
  have:x≠n:=by rintro rfl;exact h v Xi
  simp[this]
theorem lJ {kindOf:Str->Option NameKind} {x:Str} {v:Value}:∀{P:List Str} {vs:List Value} {i:Nat} {m:E3},P.Nodup->P[i]?=some x->vs[i]?=some v->kindOf x=some .local ->
  bindL kindOf (P.zip vs) m x=some v
 | [],_,_,_,_,h,_,_=>by simp at h
 | _::_,[],_,_,_,_,h,_=>by simp at h
 | p::P,w::vs,0,m,nd,h1,h2,hk=>by
  simp at h1 h2;subst h1;subst h2;show bindL kindOf ((p,w)::P.zip vs) m p=_;unfold bindL;rw[lI λv hv=>(Xb.mp nd).1 (List.of_mem_zip hv).1,QJ hk];simp
 | p::P,w::vs,i+1,m,nd,h1,h2,hk=>by
  show bindL kindOf ((p,w)::P.zip vs) m x=_;unfold bindL;exact lJ (i:=i) (Xb.mp nd).2 (by simpa using h1) (by simpa using h2) hk
theorem lL {kindOf:Str->Option NameKind} {x:Str} {v:Value}:∀{P:List Str} {vs:List Value} {i:Nat} {m:E3},P.Nodup->P[i]?=some x->vs[i]?=some v->kindOf x≠some .local ->
  bindC kindOf (P.zip vs) m x=some v
 | [],_,_,_,_,h,_,_=>by simp at h
 | _::_,[],_,_,_,_,h,_=>by simp at h
 | p::P,w::vs,0,m,nd,h1,h2,hk=>by
  simp at h1 h2;subst h1;subst h2;show bindC kindOf ((p,w)::P.zip vs) m p=_;unfold bindC;rw[lK λv hv=>(Xb.mp nd).1 (List.of_mem_zip hv).1,QA hk];simp
 | p::P,w::vs,i+1,m,nd,h1,h2,hk=>by
  show bindC kindOf ((p,w)::P.zip vs) m x=_;unfold bindC;exact lL (i:=i) (Xb.mp nd).2 (by simpa using h1) (by simpa using h2) hk
def start (N:List Str) (vs:List V):St:=vs.map some++List.replicate (N.length-vs.length) none
noncomputable def cxOf (CX:CXT) (P:Program) (w:World) (K:PySem.W.Frag) (mg:E3) (base:Heap) (N:List Str) (qual:Str) (scope:Scope) (f:Addr) (cd:Value) (A:Around) (outer:List Env) (s:Shared) (H:Hp) (E:XK):Cx where
 prog:=P
 w:=w
 K:=K
 mg:=mg
 base:=base
 A:=A.deeper (envOfC qual scope s.heap.objs.size f cd)
 N:=N
 s₀:=s
 H₀:=H
 env:=envOfC qual scope s.heap.objs.size f cd
 outer:=outer
 stack:=envOfC qual scope s.heap.objs.size f cd::outer
 ex:=[]
 calm:=true
 fn:=λ_=>true
 pn:=[]
 xe:=λe s'=>wpAny (model P w) (A.deeper (envOfC qual scope s.heap.objs.size f cd)) (leaving (envOfC qual scope s.heap.objs.size f cd) e) (λ_ s''=>CX outer H s E e s'') (λe' s''=>CX outer H s E e' s'') s'
variable {sc scope:Scope}
theorem oQ {n:Nat} {x:Str} (h:sc.names.lookup x=some .cell):∃c,(cellsFrom n sc.names []).lookup x=some c:=by
 have q:=PySem.W.cellsFrom_some sc.names n [] (.inl h);exact Option.isSome_iff_exists.mp q
theorem tj {CX:CXT} {P:Program} {w:World} {K:PySem.W.Frag} {mg:E3} {base:Heap} {qual:Str} {outer:List Env} {E:XK} {us:List Value} {vs:List V}
  (S:FnScope N ps scope) (hd:A.handled=none) (e0:Env0 P w K mg base A outer s H) (hl:vs.length=ps.length) (r:be vs us)
  (x:InCallC s s.heap.objs.size (bindL (envOfC qual scope s.heap.objs.size f cd).kindOf (ps.zip us) λ_=>none) (cellsFrom (s.heap.objs.size+1) scope.names []) (bindC (envOfC qual scope s.heap.objs.size f cd).kindOf (ps.zip us) λ_=>none) s1) :
  Inv (cxOf CX P w K mg base N qual scope f cd A outer s H E) [] (start N vs) H s1:=by
 have hpl:ps.length<=N.length:=by have:=congrArg List.length S.pre;rw[Qs]at this;omega
 obtain⟨h1,tk,rfl,hk⟩:=x.done;have noA:∀b:Addr,b∉(cxOf CX P w K mg base N qual scope f cd A outer s H E).ex:=λb z=>absurd (show b∈([]:E4) from z) (by simp)
 refine⟨⟨e0.mod,S.kind,rfl,rfl,Qf _,λy z c h1 h2=>?_,λy hy=>?_,λy c _ h=>?_,λ_=>hd,Around.frames_deeper e0.frames,.inr ⟨rfl,rfl⟩,λb z=>absurd z (noA b),e0.bs,e0.bsz,λb _ _=>noA b,λb z=>absurd z (noA b),e0.funs,e0.frf⟩,
  rfl,e0.bare,Un.kept hk,⟨_,x.toInCall.ns,λi y v h1 h2 h3=>?_⟩,λy c h=>⟨_,x.cell y c h⟩,e0.hok.fresh (Qf _),λy c h=>?_,λp hp=>absurd (show p∈([]:E2) from hp) (by simp),e0.hok.kept hk,?_⟩
 ·exact name_of_addr x.apart (PySem.mem_of_lookup h1) (PySem.mem_of_lookup h2)
 ·have hy:scope.names.lookup y=some .cell\/scope.names.lookup y=some .free:=hy;rcases hy with hy|hy
  ·exact oQ hy
  exact absurd rfl (S.nofree _ (PySem.mem_of_lookup hy))
 ·exact Xx (x.above y c (PySem.mem_of_lookup h))
 ·have hi:i<vs.length:=by
   unfold start at h2;by_cases hi:i<vs.length
   ·exact hi
   rw[QE (by simpa using hi)]at h2;rw[List.getElem?_replicate]at h2
   split at h2 <;> cases h2
  have ha:vs[i]?=some v:=by
   unfold start at h2;rw[QM (by simpa using hi),Qi]at h2
   cases e:vs[i]? with
   | none=>rw[e]at h2;cases h2
   | some a=>rw[e]at h2;cases h2;rfl
  obtain⟨u,hu,rv⟩:=r.get ha
  have hp:ps[i]?=some y:=by
   rw[<-S.pre,List.getElem?_take_of_lt (by omega)];exact h1
  have ndP:ps.Nodup:=by rw[<-S.pre];exact S.nd.sublist (List.take_sublist _ _)
  refine⟨u,rv,?_⟩;rcases S.par y (Qj hp) with k|k
  ·exact .inl ⟨k,lJ ndP hp hu k⟩
  obtain⟨c,e⟩:=oQ (n:=s.heap.objs.size+1) k;refine .inr ⟨.inl k,c,e,?_⟩;have q:=x.cell y c e;rw[lL ndP hp hu (by show scope.names.lookup y≠_;rw[k];decide)]at q;exact q
 ·exact e0.hok.fresh (Xx (x.above y c (PySem.mem_of_lookup h)))
 unfold start;show _=N.length;rw[Qg,Qa,List.length_replicate];omega
theorem jN {CX:CXT} {P:Program} {w:World} {K:PySem.W.Frag} {mg:E3} {base:Heap} {k:Nat} {name qual:Str} {params:Arguments} {body:List Stmt} {kV:Value} {an od:Option Addr}
  {osl:Array (Option Value)} {sp:Sp} (lk:K.lookup f=some ⟨oc,od,.func (PySem.W.fnOf name qual params body scope dV kV doc pm an cdv ct),osl⟩) (hcd:PySem.W.codeIn K cdv qual=true) (S:FnScope N ps scope)
  (len:∀vs H Q E,sp vs H Q E->vs.length=ps.length)
  (hbody:∀(A:Around) (outer:List Env) (s:Shared) (H:Hp) (vs:List V) (Q:VK) (E:XK),Room k (A.deeper (envOfC qual scope s.heap.objs.size f cdv))->sp vs H Q E ->
   ∃t,PSs (cxOf CX P w K mg base N qual scope f cdv A outer s H E) body t/\t { nx:=λ_ H'=>Q .non H',rt:=Q } (start N vs) H) :
  FnOk P w K mg base CX (k+1) f (PySem.W.fnOf name qual params body scope dV kV doc pm an cdv ct) ps sp:=by
 refine⟨len,λA outer s H args us vs Q E hr e0 hb r hsp=>?_⟩;have hl:=len _ _ _ _ hsp;have KX:K.In s.heap:=e0.mod.kin.keeps λb o e=>(e0.bs b o e).1;have lim:s.heap.NoLimit:=e0.mod.nolimit.keeps λb o e=>(e0.bs b o e).1
 have hkind:∀y∈ps.zip us,scope.names.lookup y.1=some .local\/(scope.names.lookup y.1=some .cell/\((cellsFrom (s.heap.objs.size+1) scope.names []).lookup y.1).isSome=true):=λ⟨n,v⟩ hy=>by
  rcases S.par n (List.of_mem_zip hy).1 with q|q
  ·exact .inl q
  exact .inr ⟨q,PySem.W.cellsFrom_some _ _ _ (.inl q)⟩
 refine codeAny_call_function hr.depth (KX _ _ lk) rfl S.co S.gen rfl (PySem.W.codeRec_of KX hcd) (hb _ _ _ _ ?_);refine wpAny_newFunctionEnv_cells S.kind hkind λenv he s1 x=>?_;subst he;refine⟨lim.keeps x.toInCall.keep,codeAny_func ?_⟩;obtain⟨t,ht,hq⟩:=hbody A outer s H vs Q E (hr.deeper _) hsp;have I:Inv (cxOf CX P w K mg base N qual scope f cdv A outer s H E) [] (start N vs) H s1:=tj S hr.hd e0 hl r x;refine Q8 (ht [] s1 (start N vs) H _ I hq) (λfl s' hs=>?_) λe s' hs=>hs
 have fin:∀{σ':St} {H':Hp} {v:V} {u:Value},Inv (cxOf CX P w K mg base N qual scope f cdv A outer s H E) [] σ' H' s'->aX v u->Q v H'->CE outer P w H s Q u s' :=
  λ{σ' H' v u} J rv q=>⟨v,H',J.os,J.bare,J.base,J.hok,rv,q⟩
 cases fl with
 | ret u =>
  obtain⟨v,σ',H',J,rv,q⟩:=hs;exact fin J rv q
 | next =>
  obtain⟨σ',H',J,q⟩:=hs;exact fin (v:=V.non) (u:=Value.none) J rfl q
 | brk =>
  obtain⟨_,_,_,q⟩:=hs;exact False.elim q
 | cont =>
 obtain⟨_,_,_,q⟩:=hs;exact False.elim q
section
variable {X:Cx} {x:Str} {p pos:Pos} {e:Expr} {es:List Expr} {t:TA} {id T:String} {r:List V->Hp->VK->Prop}
def tCB (r:List V->Hp->VK->Prop) (t:TA):TE:=λU H Q=>t U H λvs H1=>r vs H1 Q
theorem aF (hc:cZ X (.builtin id) r) (hg:Gl X x) (hm:X.mg x=none) (hv:bootBuiltins x=some (.builtin id)) (ha:PA X (e::es) t) (hn:x ≠ "__name__" := by decide) (hdb:(x==("__debug__" : Str))=false:=by decide)
  (he:starEach (e::es) X.env=(false,eval e X.env)::starEach es X.env:=by rfl) (hpl:(backTo pos (starEach es X.env)).any (·.1)=false:=by rfl):PE X (.Call (.Name x p) (e::es) [] pos) (tCB r t):=by
 intro pins s U H Q I h;refine XA (dY I hg hm hv ?_ hn hdb);exact PyProof.Rows.callWith_builtin1 (thn (ha pos pins s U H _ I h) λus s1 ⟨vs,H1,I1,r1,q1⟩=>hc pins s1 U H1 vs us Q I1 r1 q1) he hpl
theorem dB (hc:cZ X (.type T) r) (hg:Gl X x) (hm:X.mg x=none) (hv:bootBuiltins x=some (.type T)) (ha:PA X (e::es) t) (hn:x ≠ "__name__" := by decide) (hdb:(x==("__debug__" : Str))=false:=by decide)
  (he:starEach (e::es) X.env=(false,eval e X.env)::starEach es X.env:=by rfl) (hpl:(backTo pos (starEach es X.env)).any (·.1)=false:=by rfl):PE X (.Call (.Name x p) (e::es) [] pos) (tCB r t):=by
 intro pins s U H Q I h;refine XA (dY I hg hm hv ?_ hn hdb);exact Xg (thn (ha pos pins s U H _ I h) λus s1 ⟨vs,H1,I1,r1,q1⟩=>hc pins s1 U H1 vs us Q I1 r1 q1) he hpl
end
end L2
namespace HT
open PySem PyProof.Rows
section
open PySem.SeqAt
open PySem.AutoSeq1 (wpAny_loadPart')
open PySem.MeetsSeq PySem.MeetsSeq2 PySem.MeetsSeq3
end
section
variable {prog:Program} {w:World} {A:Around} {E:E1} {s:Shared}
def sIx (n d:Nat):Option Int->Nat
 | none=>d
 | some v=>if v<0 then (v+(n:Int)).toNat else min v.toNat n
theorem jo (n d:Nat):sIx n d none=d:=rfl
theorem ml (n d k:Nat):sIx n d (some (k:Int))=min k n:=by
 show (if (k:Int)<0 then ((k:Int)+(n:Int)).toNat else min (k:Int).toNat n)=min k n;rw[QA (by omega),Int.toNat_natCast]
end
end HT
namespace L2
open PySem PySem.Spec PyProof.Rows
abbrev TO:=St->Hp->(Option Int->Hp->Prop)->Prop
def PO (X:Cx) (e:Option Expr) (t:TO):Prop :=
 ∀(pins:E2) (s:Shared) (U:St) (H:Hp) (Q:Option Int->Hp->Prop),Inv X pins U H s->t U H Q ->
  wpAny (model X.prog X.w) X.A (evalPart e X.env) (λu s'=>∃o H',Inv X pins U H' s'/\IsPart u o/\Q o H') X.xe s
def qF:TO:=λ_ H Q=>Q none H
def xr (t:TE):TO:=λU H Q=>t U H λx H1=>∃i,x=.int i/\Q (some i) H1
section
variable {X:Cx} {e:Expr} {te:TE} {lo hi:Option Expr} {tl th:TO} {pos p2:Pos}
theorem bK:PO X none qF:=by
 intro pins s U H Q I h;rw[evalPart_none];exact Qm ⟨none,H,I,.none,h⟩
theorem bJ (h:PE X e te):PO X (some e) (xr te):=by
 intro pins s U H Q I hw;rw[evalPart_some];refine thn (h pins s U H _ I hw) λu s1 ⟨x,H1,I1,r1,q1⟩=>?_;obtain⟨i,rfl,q⟩:=q1;obtain⟨t,rfl⟩:=r1;exact⟨some i,H1,I1,.int i t,q⟩
def SlR (X:Cx) (r:V->Option Int->Option Int->Hp->VK->Prop):Prop :=
 ∀(pins:E2) (s:Shared) (U:St) (H:Hp) (x:V) (v vl vu:Value) (lo hi:Option Int) (sl:Addr) (Q:VK),Inv X pins U H s->aX x v->s.heap.IsSliceOf sl vl vu .none->IsPart vl lo->IsPart vu hi->r x lo hi H Q ->
  ∃T id,typeLookup (.type T) "__getitem__" = pure (some (.builtin id))/\s.TypeIs v T/\wpAny (model X.prog X.w) X.A (getItem v (.ref sl)) (EP X pins U Q) X.xe s
def tSl (r:V->Option Int->Option Int->Hp->VK->Prop) (te:TE) (tl th:TO):TE:=λU H Q=>te U H λx H1=>tl U H1 λl H2=>th U H2 λu H3=>r x l u H3 Q
theorem bx {r:V->Option Int->Option Int->Hp->VK->Prop} (hr:SlR X r) (he:PE X e te) (hl:PO X lo tl) (hu:PO X hi th):PE X (.Subscript e (.Slice lo hi none p2) pos) (tSl r te tl th):=by
 intro pins s U H Q I h;refine Subscript_ (thn (he pins s U H _ I h) λv s1 ⟨x,H1,I1,r1,q1⟩=>?_);refine wpAny_Slice (thn (hl pins s1 U H1 _ I1 q1) λvl s2 ⟨l,H2,I2,pl,q2⟩=>thn (hu pins s2 U H2 _ I2 q2) λvu s3 ⟨u,H3,I3,pu,q3⟩=>?_);rw[evalPart_none];refine Qm ?_;have I4:Inv X pins U H3 { s3 with heap:=s3.heap.push { cls:=.type "slice", data:=.fields #[vl,vu,.none] } }:=I3.kept (t':=s3.toks) λb ob q=>Qc _ q;obtain⟨T,id,hT,ht,hg⟩:=hr pins { s3 with heap:=s3.heap.push { cls:=.type "slice", data:=.fields #[vl,vu,.none] } } U H3 x v vl vu l u s3.heap.objs.size Q I4 r1 (Heap.IsSliceOf.new ..) pl pu q3;show wpAny (model X.prog X.w) X.A (subscriptTail e (.Slice lo hi none p2) v (.ref s3.heap.objs.size)) (EP X pins U Q) X.xe { s3 with heap:=s3.heap.push { cls:=.type "slice", data:=.fields #[vl,vu,.none] } };exact tail_any (ops:=[.ref s3.heap.objs.size,v]) ht hT hg (by with_unfolding_all rfl)
def fB (xs:List V) (lo hi:Option Int):List V:=(xs.drop (HT.sIx xs.length 0 lo)).take (HT.sIx xs.length xs.length hi-HT.sIx xs.length 0 lo)
theorem iI (xs:List V) (lo hi:Option Int):(fB xs lo hi).length<=xs.length:=by
 unfold fB;rw[Qs,Q4];omega
end
def ixN (n:Nat) (i:Int):Option Nat:=if 0<=i then (if i<n then some i.toNat else none) else if -(n:Int)<=i then some (i+n).toNat else none
def atI {α:Type} (xs:List α) (i:Int):Option α:=(ixN xs.length i).bind λj=>xs[j]?
theorem rp {n:Nat} {i:Int} {j:Nat} (h:ixN n i=some j):seqIndex? i n=some j/\j<n/\-(n:Int)<=i/\i<n:=by
 unfold ixN at h;by_cases h0:0<=i
 ·rw[QJ h0]at h;by_cases h1:i<n
  ·rw[QJ h1]at h;have e:i.toNat=j:=QN h;exact⟨by rw[seqIndex_of h0 h1,e],by omega,by omega,h1⟩
  rw[QA h1]at h;cases h
 rw[QA h0]at h;by_cases h1:-(n:Int)<=i
 ·rw[QJ h1]at h;have e:(i+n).toNat=j:=QN h;exact⟨by rw[seqIndex_neg (by omega) h1,e],by omega,h1,by omega⟩
 rw[QA h1]at h;cases h
theorem m8 {α:Type} {xs:List α} {i:Int} {v:α} (h:atI xs i=some v):∃j,seqIndex? i xs.length=some j/\xs[j]?=some v/\j<xs.length/\-(xs.length:Int)<=i/\i<xs.length:=by
 unfold atI at h
 cases e:ixN xs.length i with
 | none=>rw[e]at h;cases h
 | some j =>
 rw[e]at h;obtain⟨h1,h2,h3,h4⟩:=rp e;exact⟨j,h1,h,h2,h3,h4⟩
theorem bU {α:Type} {xs:List α} {j:Nat} {v:α} (h:xs[j]?=some v):atI xs (j:Int)=some v:=by
 have hj:j<xs.length:=(Qe.mp h).1
 have e:ixN xs.length (j:Int)=some j:=by
  unfold ixN;rw[QJ (by omega),QJ (by omega)];simp
 unfold atI;rw[e];exact h
def xi (b:Expr):Prop:=∀o i,subscripted b false o i=operate [o,i] (getItem o i)
def IxR (X:Cx) (r:R2):Prop :=
 ∀(value slice:Expr) (pins:E2) (s:Shared) (U:St) (H:Hp) (x y:V) (v u:Value) (Q:VK),Inv X pins U H s->aX x v->aX y u->r x y H Q ->
  subscripted slice false v u=operate [v,u] (getItem v u)->wpAny (model X.prog X.w) X.A (subscriptTail value slice v u) (EP X pins U Q) X.xe s
def MtR (X:Cx) (id:String) (r:V->List V->Hp->VK->Prop):Prop :=
 ∀(pins:E2) (s:Shared) (U:St) (H:Hp) (x:V) (xs:List V) (v:Value) (us:List Value) (Q:VK),Inv X pins U H s->aX x v->be xs us->r x xs H Q ->
  wpAny (model X.prog X.w) X.A (call (.builtin id) (v::us)) (EP X pins U Q) X.xe s
section
variable {X:Cx} {a b:Expr} {ta tb:TE} {pos:Pos}
theorem aB {r:R2} (hr:IxR X r) (ha:PE X a ta) (hb:PE X b tb) (hs:xi b:=by exact λ_ _=>rfl):PE X (.Subscript a b pos) (tOp r ta tb):=by
 intro pins s U H Q I h;exact Subscript_ (z_ ha hb I h λv u s2 x y H2 I2 rx ry q=>hr a b pins s2 U H2 x y v u Q I2 rx ry q (hs _ _))
def pD (K:PySem.W.Frag):R2:=λx y H Q=>∃p xs i v,x=.ref p/\y=.int i/\SqL K H p xs/\atI xs i=some v/\Q v H
def n_ (K:PySem.W.Frag):R2:=λx y H Q=>∃p xs i v,x=.ref p/\y=.int i/\SqT K H p xs/\atI xs i=some v/\Q v H
def AC:R2:=λx y H Q=>∃z i c,x=.str z/\y=.int i/\z.length<=sizeLine/\atI z.cps.toList i=some c/\Q (.str ⟨#[c]⟩) H
theorem aI:IxR X (pD X.K):=by
 intro value slice pins s U H x y v u Q I rx ry h hs;obtain⟨p,xs,i,z,rfl,rfl,hq,he,q⟩:=h;cases rx;obtain⟨t,rfl⟩:=ry;obtain⟨its,r,pl,hz⟩:=I.list hq;obtain⟨j,h1,h2,h3,h4,h5⟩:=m8 he;obtain⟨w,ew,rw'⟩:=r.get h2;have hl:=r.length;have hn:=ir;have fin:EP X pins U Q w s:=⟨z,H,I,rw',q⟩;by_cases h0:0<=i
 ·have hj:i.toNat=j:=by
   rw[seqIndex_of h0 h5]at h1;exact QN h1
  exact item_listR pl.isList h0 (by omega) (by rw[hj];simpa using ew) fin hs
 have hj:(i+(its.toArray.size:Int)).toNat=j:=by
  rw[seqIndex_neg (by omega) h4]at h1;rw[Qh,<-hl];exact QN h1
 exact subscriptTail_builtinR (x:=w) pl.isList.typeIs slot_list_getitem.lookup
  (wpAny_getItem_list_neg (Q:=λr s'=>r=w/\EP X pins U Q r s') pl.isList (by omega) (by rw[Qh] <;> omega) (by omega) (by rw[hj];simpa using ew) ⟨rfl,fin⟩) hs
theorem a_:IxR X (n_ X.K):=by
 intro value slice pins s U H x y v u Q I rx ry h hs;obtain⟨p,xs,i,z,rfl,rfl,hq,he,q⟩:=h;cases rx;obtain⟨t,rfl⟩:=ry;obtain⟨its,r,pl,hz⟩:=I.tuple hq;obtain⟨j,h1,h2,h3,h4,h5⟩:=m8 he;obtain⟨w,ew,rw'⟩:=r.get h2;have hl:=r.length;have hn:=ir;have fin:EP X pins U Q w s:=⟨z,H,I,rw',q⟩
 exact subscriptTail_builtinR (x:=w) pl.typeIs slot_tuple_getitem.lookup
  (getItem_tuple (j:=j) (Q:=λr s'=>r=w/\EP X pins U Q r s') pl (by omega) (by omega) (by rw[Qh,<-hl];exact h1) (by simpa using ew) ⟨rfl,fin⟩) hs
theorem dL:IxR X AC:=by
 intro value slice pins s U H x y v u Q I rx ry h hs;obtain⟨z,i,c,rfl,rfl,hz,he,q⟩:=h;obtain⟨t,rfl⟩:=rx;obtain⟨t',rfl⟩:=ry;obtain⟨j,h1,h2,h3,h4,h5⟩:=m8 he;have hl:z.cps.toList.length=z.length:=by simp[Str.length]
 rw[hl]at h1 h4 h5;have hn:=ir
 exact tail_any (typeIs_str s z t) slot_str_getitem.lookup (getItem_str (c:=c) (by
  have e1:decide (i < -(2 ^ 63:Int))=false:=Xa (by omega);have e2:decide (i>=2 ^ 63)=false:=Xa (by omega)
  rw[e1,e2,Bool.or_false]) (by rw[h1];simpa using h2) ⟨.str ⟨#[c]⟩,H,I.tok _,⟨_,rfl⟩,q⟩) hs
theorem pT (its:List Value) (n j:Nat) (u:Value):Obj.mapSeq (·.setIfInBounds j u) { cls:=.type "list", data:=.seq its.toArray n }={ cls:=.type "list", data:=.seq (its.set j u).toArray n }:=by
 simp[Obj.mapSeq]
variable {s:Shared} {pins:E2}
theorem Inv.lst {U:St} {H:Hp} {p:Addr} {xs:List V} (I:Inv X pins U H s) (h:H p=some (.lst xs)) :
  ∃(its:List Value) (n:Nat),be xs its/\s.heap.get? p=some { cls:=.type "list", data:=.seq its.toArray n }/\xs.length<=sizeLine:=by
 obtain⟨z,its,n,r,e⟩:=I.hok p _ h;exact⟨its,n,r,e,z⟩
theorem Inv.lstUpd {U:St} {H:Hp} {p:Addr} {xs ys:List V} {its its':List Value} {n n':Nat} {f:Obj->Obj} (I:Inv X pins U H s) (h:H p=some (.lst xs))
  (ho:s.heap.get? p=some { cls:=.type "list", data:=.seq its.toArray n }) (hf:f { cls:=.type "list", data:=.seq its.toArray n }={ cls:=.type "list", data:=.seq its'.toArray n' }) (r:be ys its') (hz:ys.length<=sizeLine) (t:Nat) :
  Inv X pins U (upd H p (.lst ys)) { s with heap:=s.heap.update p f,toks:=t }:=by
 have e:(s.heap.update p f).get? p=some { cls:=.type "list", data:=.seq its'.toArray n' }:=by
  rw[Xu f ho (by rw[hf] <;> rfl),hf]
 refine I.write (x:=p) (e:=p) (by rw[h];trivial) (.inl rfl) (λb u hb q=>(QC _ _ (Xh hb)).trans q) ⟨_,e⟩ ?_;exact⟨hz,its',n',r,e⟩
def xH:V->V->V->Hp->(Hp->Prop)->Prop:=λo i v H Q=>∃p xs k j,o=.ref p/\i=.int k/\H p=some (.lst xs)/\ixN xs.length k=some j/\Q (upd H p (.lst (xs.set j v)))
theorem nP:DE X xH:=by
 intro pins s U H o i v ov iv u Q I ro ri rv h;obtain⟨p,xs,k,j,rfl,rfl,hp,hj,q⟩:=h;cases ro;obtain⟨t,rfl⟩:=ri;obtain⟨its,n,r,ho,hz⟩:=I.lst hp;obtain⟨h1,h2,h3,h4⟩:=rp hj;have hl:=r.length;have hn:=ir
 have I':Inv X pins U (upd H p (.lst (xs.set j v))) { s with heap:=s.heap.update p (Obj.mapSeq (·.setIfInBounds j u)) } :=
  I.lstUpd hp ho (pT its n j u) (r.set rv j) (by rw[List.length_set];exact hz) s.toks
 by_cases h0:0<=k
 ·have hk:k.toNat=j:=by
   rw[seqIndex_of h0 h4]at h1;exact QN h1
  exact PySem.W.ki_setAt ho h0 (by omega) (by rw[Qh,<-hl];exact h4) (by rw[hk];exact⟨_,I',q⟩)
 have hk:(k+(its.toArray.size:Int)).toNat=j:=by
  rw[seqIndex_neg (by omega) h3]at h1;rw[Qh,<-hl];exact QN h1
 exact PySem.W.ki_setBack ho (by omega) (by rw[Qh,<-hl];exact h3) (by omega) (by rw[hk];exact⟨_,I',q⟩)
theorem xC (i:Int) (n:Nat):max 0 (min (if i<0 then i+(n:Int) else i) (n:Int))=(((if i<0 then (i+(n:Int)).toNat else min i.toNat n):Nat):Int):=by
 by_cases h:i<0
 ·rw[QJ h,QJ h,Int.min_eq_left (by omega)];omega
 obtain⟨k,rfl⟩:=Int.eq_ofNat_of_zero_le (Int.not_lt.mp h);rw[QA h,QA h,Int.toNat_natCast];omega
theorem l6 (lo hi:Option Int) (n:Nat):(sliceBounds lo hi none n).1=((HT.sIx n 0 lo:Nat):Int)/\(sliceBounds lo hi none n).2.1=((HT.sIx n n hi:Nat):Int)/\(sliceBounds lo hi none n).2.2=1:=by
 refine⟨?_,?_,rfl⟩
 ·cases lo with
  | none=>simp[sliceBounds,HT.sIx]
  | some i =>
   simp only[sliceBounds,HT.sIx,Option.getD_none,show (1:Int)>0 by decide,if_true];exact xC i n
 cases hi with
 | none=>simp[sliceBounds,HT.sIx]
 | some i =>
 simp only[sliceBounds,HT.sIx,Option.getD_none,show (1:Int)>0 by decide,if_true];exact xC i n
theorem kA (its:List Value) (lo hi:Option Int):slicePick its.toArray lo hi none=((its.drop (HT.sIx its.length 0 lo)).take (HT.sIx its.length its.length hi-HT.sIx its.length 0 lo)).toArray:=by
 obtain⟨h1,h2,h3⟩:=l6 lo hi its.toArray.size;unfold slicePick;rw[h1,h2,h3];simp only[sliceRange_one,pick_run,Qh] <;> rfl
def AA (K:PySem.W.Frag):V->Option Int->Option Int->Hp->VK->Prop:=λx lo hi H Q=>∃a xs,x=.ref a/\SqL K H a xs/\∀p,H p=none->Q (.ref p) (upd H p (.lst (fB xs lo hi)))
theorem fO:SlR X (AA X.K):=by
 intro pins s U H x v vl vu lo hi sl Q I rx hs pl pu h;obtain⟨a,xs,rfl,hx,q⟩:=h;cases rx;obtain⟨its,r,ht,hz⟩:=I.list hx;have hlen:=r.length;refine⟨"list", _,slot_list_getitem.lookup,ht.isList.typeIs,?_⟩;refine wpAny_getItem_list_slice ht.isList hs pl pu .none (by simp) ?_ (by rw[Qh] <;> omega);rw[kA,<-hlen];refine⟨.ref s.heap.objs.size,_,I.laid (t':=s.toks) (o:=.lst (fB xs lo hi)) (λb ob q=>Qc _ q) (Qf _) ?_,rfl,q _ (I.hok.fresh (Qf _))⟩;exact⟨QZ (iI xs lo hi) hz,_,0,(r.drop (HT.sIx xs.length 0 lo)).take (HT.sIx xs.length xs.length hi-HT.sIx xs.length 0 lo),Qu _ rfl⟩
def cQ:V->Bool
 | .non=>true
 | .bl _=>true
 | .int _=>true
 | .str _=>true
 | _=>false
def eqV:V->V->Bool
 | .non,.non=>true
 | .bl a,.bl b=>a==b
 | .bl a,.int b=>(if a then 1 else 0)==b
 | .int a,.bl b=>a==(if b then 1 else 0)
 | .int a,.int b=>a==b
 | .str a,.str b=>a==b
 | _,_=>false
variable {u v:Value}
theorem vH {A:Around} {y x:V} (ry:aX y u) (rx:aX x v) (fy:cQ y=true) (fx:cQ x=true):SeqAt.EqAt A s u v (eqV y x):=by
 cases y with
 | non =>
  cases ry
  cases x with
  | non=>cases rx;exact SeqAt.EqAt.same _
  | bl b=>cases rx;exact SeqAt.EqAt.none_bool b
  | int b=>obtain⟨t,rfl⟩:=rx;exact SeqAt.EqAt.none_int b t
  | str b=>obtain⟨t,rfl⟩:=rx;exact SeqAt.EqAt.none_str b t
  | _=>exact absurd (show false=true from fx) Qk
 | bl a =>
  cases ry
  cases x with
  | non=>cases rx;exact SeqAt.EqAt.bool_none a
  | bl b=>cases rx;exact SeqAt.EqAt.bool_bool a b
  | int b=>obtain⟨t,rfl⟩:=rx;exact SeqAt.EqAt.bool_int a b t
  | str b=>obtain⟨t,rfl⟩:=rx;exact SeqAt.EqAt.bool_str a b t
  | _=>exact absurd (show false=true from fx) Qk
 | int a =>
  obtain⟨t',rfl⟩:=ry
  cases x with
  | non=>cases rx;exact SeqAt.EqAt.int_none a t'
  | bl b=>cases rx;exact SeqAt.EqAt.int_bool a t' b
  | int b=>obtain⟨t,rfl⟩:=rx;exact SeqAt.EqAt.int_int a t' b t
  | str b=>obtain⟨t,rfl⟩:=rx;exact SeqAt.EqAt.int_str a t' b t
  | _=>exact absurd (show false=true from fx) Qk
 | str a =>
  obtain⟨t',rfl⟩:=ry
  cases x with
  | non=>cases rx;exact SeqAt.EqAt.str_none a t'
  | bl b=>cases rx;exact SeqAt.EqAt.str_bool a t' b
  | int b=>obtain⟨t,rfl⟩:=rx;exact SeqAt.EqAt.str_int a t' b t
  | str b=>obtain⟨t,rfl⟩:=rx;exact SeqAt.EqAt.str_str a t' b t
  | _=>exact absurd (show false=true from fx) Qk
 | _=>exact absurd (show false=true from fy) Qk
def eqU (x:V) (u:Value):Bool:=match u with
 | .none=>eqV .non x
 | .bool b=>eqV (.bl b) x
 | .int i _=>eqV (.int i) x
 | .str z _=>eqV (.str z) x
 | _=>false
theorem vG {x y:V} (r:aX y u) (f:cQ y=true):eqU x u=eqV y x:=by
 cases y with
 | non=>cases r;rfl
 | bl b=>cases r;rfl
 | int i=>obtain⟨t,rfl⟩:=r;rfl
 | str z=>obtain⟨t,rfl⟩:=r;rfl
 | _=>exact absurd (show false=true from f) Qk
theorem m9 {x:V}:∀{xs:List V} {us:List Value},be xs us->xs.all cQ=true->us.any (eqU x)=xs.any λy=>eqV y x
 | _,_,.nil,_=>rfl
 | y::xs,u::us,.cons r t,f=>by
  rw[List.all_cons,Xo]at f;rw[List.any_cons,List.any_cons,vG r f.1,m9 t f.2]
theorem jG {A:Around} {s:Shared} {x:V} {v:Value} (rx:aX x v) (fx:cQ x=true):∀{xs:List V} {us:List Value},be xs us->xs.all cQ=true->∀u∈us,SeqAt.EqAt A s u v (eqU x u)
 | _,_,.nil,_=>λu hu=>by cases hu
 | y::xs,u::us,.cons r t,f=>λu' hu=>by
  rw[List.all_cons,Xo]at f;rcases QV.mp hu with rfl|hu
  ·rw[vG r f.1];exact vH r rx f.1 fx
  exact jG rx fx t f.2 u' hu
def inV (x:V) (xs:List V):Bool:=xs.any λy=>eqV y x
def rIn (K:PySem.W.Frag) (neg:Bool):R2:=λx y H Q=>∃p xs,y=.ref p/\(SqL K H p xs\/SqT K H p xs)/\cQ x=true/\xs.all cQ=true/\Q (.bl (if neg then !inV x xs else inV x xs)) H
theorem sw:OpR X (compareOp .In) (rIn X.K false):=by
 intro pins s U H x y v u Q I rx ry h;obtain⟨p,xs,rfl,hq,fx,fs,q⟩:=h;cases ry;rcases hq with hq|hq
 ·obtain⟨its,r,pl,hz⟩:=I.list hq;refine SeqAt.in_listAt (eqU x) pl.isList (λw hw=>jG rx fx r fs w (by simpa using hw)) ⟨.bl _,H,I,rfl,?_⟩;rw[show its.toArray.any (eqU x)=its.any (eqU x) by simp,m9 r fs];exact q
 obtain⟨its,r,pl,hz⟩:=I.tuple hq;refine SeqAt.in_tupleAt (eqU x) pl (λw hw=>jG rx fx r fs w (by simpa using hw)) ⟨.bl _,H,I,rfl,?_⟩;rw[show its.toArray.any (eqU x)=its.any (eqU x) by simp,m9 r fs];exact q
theorem aJ:cZ X (.builtin "len") (λxs H Q=>∃p ys,xs=[.ref p]/\(SqL X.K H p ys\/SqT X.K H p ys)/\Q (.int ys.length) H):=by
 intro pins s U H xs us Q I r h;obtain⟨p,ys,rfl,hq,q⟩:=h;obtain⟨u,rfl,rx⟩:=d6 r;cases rx;have hn:=ir;rcases hq with hq|hq
 ·obtain⟨its,r',pl,hz⟩:=I.list hq;have hlen:=r'.length;exact Calls.call_len_list pl.isList (by simp only[Qh] <;> omega) ⟨.int ys.length,H,I.tok _,⟨s.toks+1,by rw[Qh,hlen]⟩,q⟩
 obtain⟨its,r',pl,hz⟩:=I.tuple hq;have hlen:=r'.length;exact len_tuple pl (by simp only[Qh] <;> omega) ⟨.int ys.length,H,I.tok _,⟨s.toks+1,by rw[Qh,hlen]⟩,q⟩
theorem du:cZ X (.builtin "len") (λxs H Q=>∃z,xs=[.str z]/\z.length<=sizeLine/\Q (.int z.length) H):=by
 intro pins s U H xs us Q I r h;obtain⟨z,rfl,hz,q⟩:=h;obtain⟨u,rfl,t,rfl⟩:=d6 r;have hn:=ir;exact len_str (by omega) ⟨.int z.length,H,I.tok _,⟨_,rfl⟩,q⟩
theorem eY:cZ X (.type "list") (λxs H Q=>∃p ys,xs=[.ref p]/\(SqL X.K H p ys\/SqT X.K H p ys)/\∀l,H l=none->Q (.ref l) (upd H l (.lst ys))):=by
 intro pins s U H xs us Q I r h;obtain⟨p,ys,rfl,hq,q⟩:=h;obtain⟨u,rfl,rx⟩:=d6 r;cases rx
 have fin:∀(its:List Value),be ys its->ys.length<=sizeLine->∀(h':Heap) (c':Nat),(∀b o',s.heap.get? b=some o'->h'.get? b=some o') ->
   h'.get? s.heap.objs.size=some { cls:=.type "list", dict:=none,data:=.seq its.toArray c',slots:=#[] }->EP X pins U Q (.ref s.heap.objs.size) { s with heap:=h' }:=λits r' hz h' c' kp e =>
  ⟨.ref s.heap.objs.size,_,I.laid (t':=s.toks) kp (Qf _) (show bn X.prog X.w _ h' _ (.lst ys) from⟨hz,its,c',r',e⟩),rfl,q _ (I.hok.fresh (Qf _))⟩
 rcases hq with hq|hq
 ·obtain⟨its,r',pl,hz⟩:=I.list hq;have hlen:=r'.length;obtain⟨o,ho,hc,n,hd⟩:=pl.isList;exact call_list_seq p (.inl rfl) ho hc hd (λh' c' kp e=>fin its r' hz h' c' kp e) (by simp only[Qh] <;> omega)
 obtain⟨its,r',pl,hz⟩:=I.tuple hq;have hlen:=r'.length;obtain⟨o,ho,hc,n,hd⟩:=pl;exact call_list_seq p (.inr rfl) ho hc hd (λh' c' kp e=>fin its r' hz h' c' kp e) (by simp only[Qh] <;> omega)
def tyV (K:PySem.W.Frag) (T:String) (x:V) (H:Hp):Prop:=match x with
 | .str _=>T = "str"
 | .int _=>T = "int"
 | .ref p=>(T = "list" /\ ∃xs,SqL K H p xs)\/(T = "tuple" /\ ∃o,K.lookup p=some o/\o.cls=.type "tuple" /\ o.dict=none) \/
   (T = "dict" /\ ((∃kvs,H p=some (.dK kvs))\/∃kvs,H p=some (.dT kvs)))\/(T = "set" /\ ∃S n,H p=some (.set S n))
 | _=>False
theorem tV {U:St} {H:Hp} {T:String} {x:V} (I:Inv X pins U H s) (r:aX x v) (ty:tyV X.K T x H) :
  s.TypeIs v T/\∀a,v=.ref a->∃ob,s.heap.get? a=some ob/\ob.dict=none:=by
 cases x with
 | str z =>
  obtain⟨t,rfl⟩:=r;cases (show T = "str" from ty);exact⟨typeIs_str s z t,λ_ e=>nomatch e⟩
 | int i =>
  obtain⟨t,rfl⟩:=r;cases (show T = "int" from ty);exact⟨typeIs_int s i t,λ_ e=>nomatch e⟩
 | ref p =>
  cases r;rcases ty with⟨rfl,xs,hq⟩|⟨rfl,o,hk,hc,hd⟩|⟨rfl,hk⟩|⟨rfl,S,n,hk⟩
  ·obtain⟨its,_,pl,_⟩:=I.list hq;refine⟨pl.isList.typeIs,λa e=>?_⟩;cases e;obtain⟨o,n,e,c,hd,_⟩:=pl;exact⟨o,e,hd⟩
  ·refine⟨⟨o,I.kIn p o hk,hc⟩,λa e=>?_⟩;cases e;exact⟨o,I.kIn _ o hk,hd⟩
  ·have z:∃o,s.heap.get? p=some o/\o.ExactDict:=by
    rcases hk with⟨kvs,hk⟩|⟨kvs,hk⟩
    ·obtain⟨_,_,_,_,o,_,_,e,ex,_⟩:=I.hok p _ hk;exact⟨o,e,ex⟩
    obtain⟨_,_,_,_,o,_,_,e,ex,_⟩:=I.hok p _ hk;exact⟨o,e,ex⟩
   obtain⟨o,e,ex⟩:=z;refine⟨⟨o,e,ex.1⟩,λa e2=>?_⟩;cases e2;exact⟨o,e,ex.2.1⟩
  obtain⟨o,_,_,_,e,ex,_⟩:=I.hok p _ hk;refine⟨⟨o,e,ex.1⟩,λa e2=>?_⟩;cases e2;exact⟨o,e,ex.2.1⟩
 | _=>exact False.elim ty
def Au (K:PySem.W.Frag) (T:String) (r:V->List V->Hp->VK->Prop) (to:TE):TE:=λU H Q=>to U H λx H1=>tyV K T x H1/\r x [] H1 Q
def tBM (K:PySem.W.Frag) (T:String) (r:V->List V->Hp->VK->Prop) (to:TE) (t:TA):TE:=λU H Q=>to U H λx H1=>tyV K T x H1/\t U H1 λxs H2=>r x xs H2 Q
variable {o e:Expr} {es:List Expr} {to:TE} {t:TA} {name:Str} {apos cpos:Pos} {T id:String} {r:V->List V->Hp->VK->Prop}
theorem yZ (pa:PlainAttrs T) (slot:Slot T name id) (hty:typeOf (.builtin id)=pure (.type "method_descriptor")) (hm:MtR X id r) (ho:PE X o to)
  (hbase:attributeBase o name X.env (eval o X.env)=eval o X.env:=by rfl) (hline:(apos.endLine==cpos.line)=true:=by rfl):PE X (.Call (.Attribute o name apos) [] [] cpos) (Au X.K T r to):=by
 intro pins s U H Q I h;refine wpAny_Call_method0_late hbase hline (thn (ho pins s U H _ I h) λv s1 ⟨x,H1,I1,r1,ty,q1⟩=>?_);obtain⟨h1,h2⟩:=tV I1 r1 ty;exact⟨T,id,pa,slot,hty,h1,h2,Calls.callWith_builtin rfl (PySem.evalArgs_none (hm pins s1 U H1 x [] v [] Q I1 r1 .nil q1))⟩
theorem dH (pa:PlainAttrs T) (slot:Slot T name id) (hty:typeOf (.builtin id)=pure (.type "method_descriptor")) (hm:MtR X id r) (ho:PE X o to) (ha:PA X (e::es) t)
  (hbase:attributeBase o name X.env (eval o X.env)=eval o X.env:=by rfl)
  (hfew:((backTo cpos (starEach (e::es) X.env)).all (fun x=>!x.1)&&(backToKw cpos (keywordEach [] X.env)).all (fun x=>x.1.isSome)
   && decide ((e::es).length+([]:List Keyword).length+(if ([]:List Keyword).isEmpty then 0 else 1)<30))=true:=by rfl)
  (hline:(apos.endLine==cpos.line)=true:=by rfl) (hs:starEach (e::es) X.env=(false,eval e X.env)::starEach es X.env:=by rfl) (hplain:(backTo cpos (starEach es X.env)).any (·.1)=false:=by rfl) :
  PE X (.Call (.Attribute o name apos) (e::es) [] cpos) (tBM X.K T r to t):=by
 intro pins s U H Q I h;refine wpAny_Call_method_late hbase hfew hline rfl (thn (ho pins s U H _ I h) λv s1 ⟨x,H1,I1,r1,ty,q1⟩=>?_);obtain⟨h1,h2⟩:=tV I1 r1 ty;refine⟨T,id,pa,slot,hty,h1,h2,?_⟩;have hA:=ha cpos pins s1 U H1 _ I1 q1;rw[hs]at hA ⊢;refine Calls.callWith_builtin (by show (false || (backTo cpos (starEach es X.env)).any (·.1))=false;rw[hplain] <;> rfl) (Calls.evalArgs_plain ?_);exact thn hA λus s2 ⟨vs,H2,I2,r2,q2⟩=>hm pins s2 U H2 x vs v us Q I2 r1 r2 q2
end
def MtM (X:Cx) (id:String) (r:V->List V->Hp->VK->Prop):Prop :=
 ∀(pins:E2) (s:Shared) (U:St) (H:Hp) (x:V) (xs:List V) (v:Value) (us:List Value) (Q:VK),Inv X pins U H s->aX x v->be xs us->r x xs H Q ->
  wpAny (model X.prog X.w) X.A (call (.builtin id) (v::us)) (EP X pins U Q) X.xe s
theorem be.one:∀{x:V} {us:List Value},be [x] us->∃u,us=[u]/\aX x u
 | _,_,.cons r .nil=>⟨_,rfl,r⟩
theorem be.zero:∀{us:List Value},be [] us->us=[]
 | _,.nil=>rfl
theorem be.dropLast {xs:List V} {us:List Value} (h:be xs us):be xs.dropLast us.dropLast:=by
 induction h with
 | nil=>exact .nil
 | cons r t ih =>
 cases t with
 | nil=>exact .nil
 | cons q t'=>exact .cons r ih
theorem qj {α:Type} (l:List α):l.eraseIdx (l.length-1)=l.dropLast:=by
 induction l with
 | nil=>rfl
 | cons a r ih =>
 cases r with
 | nil=>rfl
 | cons b r =>
 have e:(a::b::r).length-1=((b::r).length-1)+1:=by
  have h1:(a::b::r).length=r.length+2:=rfl;have h2:(b::r).length=r.length+1:=rfl;omega
 rw[e,List.eraseIdx_cons_succ,ih]
 all_goals rfl
section
variable {X:Cx} {pins:E2} {U:St} {H:Hp} {s:Shared} {l b:Addr} {xs ys zs:List V}
theorem Inv.lset {its its':List Value} {n:Nat} {f:Array Value->Array Value} {t':Nat} (I:Inv X pins U H s) (hH:H l=some (.lst xs))
  (e:s.heap.get? l=some { cls:=.type "list", data:=.seq its.toArray n }) (hf:f its.toArray=its'.toArray) (hv:be ys its') (hz:ys.length<=sizeLine) :
  Inv X pins U (upd H l (.lst ys)) { s with heap:=s.heap.update l (Obj.mapSeq f),toks:=t' }:=by
 have q:=PySem.IsL.update e f;rw[hf]at q;refine I.write (x:=l) (e:=l) (by rw[hH];exact trivial) (.inl rfl) (λb' u hb hu=>(QC s.heap (Obj.mapSeq f) (Xh hb)).trans hu) ⟨_,q⟩ ?_;exact⟨hz,its',_,hv,q⟩
theorem Inv.lnew {its:List Value} {t':Nat} (I:Inv X pins U H s) (hv:be ys its) (hz:ys.length<=sizeLine) :
  Inv X pins U (upd H s.heap.objs.size (.lst ys)) { s with heap:=s.heap.push { cls:=.type "list", data:=.seq its.toArray },toks:=t' } :=
 I.laid (λ_ _ q=>Qc _ q) (Qf _) ⟨hz,its,0,hv,Qu _ rfl⟩
theorem Inv.fresh (I:Inv X pins U H s):H s.heap.objs.size=none:=I.hok.fresh (Qf _)
theorem Inv.lstM (I:Inv X pins U H s) (hH:H l=some (.lst xs)):xs.length<=sizeLine/\∃(its:List Value) (n:Nat),be xs its/\xs.length=its.length/\s.heap.get? l=some { cls:=.type "list", data:=.seq its.toArray n }:=by
 obtain⟨z,its,n,r,e⟩:=I.hok l _ hH;exact⟨z,its,n,r,r.length,e⟩
end
section
variable {X:Cx}
def mt:V->List V->Hp->VK->Prop:=λx vs H Q=>∃l xs y,x=.ref l/\vs=[y]/\H l=some (.lst xs)/\xs.length<sizeLine/\Q .non (upd H l (.lst (xs++[y])))
theorem bu:MtM X "list.append" mt:=by
 intro pins s U H x vs v us Q I rx rv h;obtain⟨l,xs,y,rfl,rfl,hH,hz,q⟩:=h;cases rx;obtain⟨u,rfl,ru⟩:=rv.one;obtain⟨z,its,n,r,hl,e⟩:=I.lstM hH;refine call_meets F.slot_list_append ⟨_,e,rfl⟩ F.entry_list_append (F.args_list_append_2 _ _) (PySem.list_append l its.toArray n u (by rw[Qh];omega)) ⟨e,?_⟩;refine⟨.non,_,I.lset (its':=its++[u]) hH e (by simp) (r.append (.cons ru .nil)) ?_,rfl,q⟩;rw[Qg,List.length_singleton];omega
def DN:V->List V->Hp->VK->Prop:=λx vs H Q=>∃l xs y,x=.ref l/\vs=[]/\H l=some (.lst xs)/\xs[xs.length-1]?=some y/\Q y (upd H l (.lst xs.dropLast))
theorem zB:MtM X "list.pop" DN:=by
 intro pins s U H x vs v us Q I rx rv h;obtain⟨l,xs,y,rfl,rfl,hH,hy,q⟩:=h;cases rx;have hus:=rv.zero;subst hus;obtain⟨z,its,n,r,hl,e⟩:=I.lstM hH;obtain⟨u,hu,ru⟩:=r.get hy
 have hy':its.toArray[its.toArray.size-1]?=some u:=by
  show its.toArray[its.length-1]?=some u;rw[<-Qy,<-hl];exact hu
 refine call_meets F.slot_list_pop ⟨_,e,rfl⟩ F.entry_list_pop (F.args_list_pop_1 _) (MeetsSeq.list_pop_last l its.toArray n u hy' (by rw[Qh];omega)) ⟨e,?_⟩;refine⟨y,_,I.lset (its':=its.dropLast) hH e ?_ r.dropLast ?_,ru,q⟩
 ·show its.toArray.eraseIdxIfInBounds (its.toArray.size-1)=its.dropLast.toArray;rw[Qh,List.eraseIdxIfInBounds_toArray,qj]
 rw[List.length_dropLast];omega
def yT:R2:=λx y H Q=>∃l b xs zs,x=.ref l/\y=.ref b/\H l=some (.lst xs)/\H b=some (.lst zs)/\xs.length+zs.length<=sizeLine/\∀p,H p=none->Q (.ref p) (upd H p (.lst (xs++zs)))
theorem fu:OpR X (binaryOp .Add) yT:=by
 intro pins s U H x y v u Q I rx ry h;obtain⟨l,b,xs,zs,rfl,rfl,hH,hB,hz,q⟩:=h;cases rx;cases ry;obtain⟨z,its,n,r,hl,e⟩:=I.lstM hH;obtain⟨z2,its2,n2,r2,hl2,e2⟩:=I.lstM hB;refine PySem.P.add_list e e2 ?_ (by rw[Qh,Qh];omega);have ea:its.toArray++its2.toArray=(its++its2).toArray:=by simp
 rw[ea];exact⟨.ref _,_,I.lnew (t':=s.toks) (r.append r2) (by rw[Qg];omega),rfl,q _ I.fresh⟩
theorem wL {α:Type} (xs:List α) (k:Nat):(List.replicate k xs).flatten.length=k*xs.length:=by
 induction k with
 | zero=>simp
 | succ k ih=>rw[List.replicate_succ,List.flatten_cons,Qg,ih,Nat.succ_mul,Nat.add_comm]
end
section
variable {prog:Program} {w:World} {A:Around} {E:E1} {s:Shared}
end
section
variable {X:Cx}
end
section
variable {κ:Type} [DecidableEq κ]
def bw (kvs:List (κ × V)) (k:κ):Option V:=(kvs.find? λkv=>decide (kv.1=k)).map (·.2)
def cf (kvs:List (κ × V)) (k:κ) (v:V):List (κ × V) :=
 if (kvs.any λkv=>decide (kv.1=k))=true then kvs.map (λkv=>if kv.1=k then (kv.1,v) else kv) else kvs++[(k,v)]
variable {r kvs:List (κ × V)}
theorem bV {p:κ × V} {k:κ} (e:p.1=k):bw (p::r) k=some p.2:=by simp[bw,List.find?_cons,e]
theorem bX {p:κ × V} {k:κ} (e:¬p.1=k):bw (p::r) k=bw r k:=by simp[bw,List.find?_cons,e]
theorem cK (k:κ):∀kvs:List (κ × V),(kvs.any λkv=>decide (kv.1=k))=(bw kvs k).isSome
 | []=>rfl
 | p::r=>by
  rw[List.any_cons];by_cases e:p.1=k
  ·simp only[bV e,Xw e,Bool.true_or,Option.isSome_some]
  rw[bX e,Xa e,Bool.false_or];exact cK k r
theorem nz (k j:κ) (y:V):∀kvs:List (κ × V),bw (kvs.map λkv=>if kv.1=k then (kv.1,y) else kv) j=(bw kvs j).map λx=>if j=k then y else x
 | []=>rfl
 | p::r=>by
  have ih:=nz k j y r;rw[QH];by_cases h:p.1=k
  ·rw[QJ h];by_cases e:p.1=j
   ·rw[bV (p:=(p.1,y)) e,bV e,Option.map_some,QJ (e.symm.trans h)]
   rw[bX (p:=(p.1,y)) e,bX e,ih]
  rw[QA h];by_cases e:p.1=j
  ·rw[bV (p:=p) e,bV e,Option.map_some,QA (λz=>h (e.trans z))]
  rw[bX (p:=p) e,bX e,ih]
theorem kW (k j:κ) (y:V):∀kvs:List (κ × V),bw kvs k=none->bw (kvs++[(k,y)]) j=if j=k then some y else bw kvs j
 | [],_=>by
  by_cases e:k=j
  ·rw[QJ e.symm];exact bV (p:=(k,y)) e
  rw[QA (λz=>e z.symm)];exact bX (p:=(k,y)) e
 | p::r,hn=>by
  rw[List.cons_append];have hk:¬p.1=k:=λz=>by rw[bV z]at hn;cases hn
  rw[bX hk]at hn;have ih:=kW k j y r hn;by_cases e:p.1=j
  ·rw[bV e,bV e,QA (λz=>hk (e.trans z))]
  rw[bX e,bX e,ih]
theorem nw (kvs:List (κ × V)) (k j:κ) (y:V):bw (cf kvs k y) j=if j=k then some y else bw kvs j:=by
 unfold cf;by_cases a:(kvs.any λkv=>decide (kv.1=k))=true
 ·rw[QJ a,nz];rw[cK]at a;by_cases e:j=k
  ·obtain⟨x,hx⟩:=Option.isSome_iff_exists.mp a;rw[QJ e,e,hx,Option.map_some,QJ rfl]
  rw[QA e]
  cases bw kvs j with
  | none=>rfl
  | some x=>rw[Option.map_some,QA e]
 rw[QA a];refine kW k j y kvs ?_;rw[cK]at a
 cases q:bw kvs k with
 | none=>rfl
 | some x=>rw[q]at a;exact(a rfl).elim
theorem dQ (kvs:List (κ × V)) (k:κ) (v:V):(cf kvs k v).length<=kvs.length+1:=by
 unfold cf
 split
 ·rw[Qa];omega
 rw[Qg,QU,List.length_nil];omega
theorem d8 {k:κ} (v:V) (h:bw kvs k=none):cf kvs k v=kvs++[(k,v)]:=by
 unfold cf;rw[cK,h];exact QA (by decide)
theorem iR.isSome_eq {o:Option V} {u:Option Value} (r:iR o u):o.isSome=u.isSome:=by
 cases o with
 | none=>cases u with
  | none=>rfl
  | some _=>exact(show False from r).elim
 | some _=>cases u with
  | none=>exact(show False from r).elim
  | some _=>rfl
variable {vs:List (κ × Value)}
theorem KV.val (r:KV kvs vs) (k:κ):iR (bw kvs k) (valueAt vs k):=by
 unfold KV at r
 induction r with
 | nil=>exact True.intro
 | @cons p q ps qs h t ih =>
 obtain⟨h1,h2⟩:=h;by_cases e:p.1=k
 ·have e':q.1=k:=h1.symm.trans e;have b:valueAt (q::qs) k=some q.2:=by simp[valueAt,List.find?_cons,e']
  rw[bV e,b];exact h2
 have e':¬q.1=k:=λz=>e (h1.trans z);have b:valueAt (q::qs) k=valueAt qs k:=by simp[valueAt,List.find?_cons,e']
 rw[bX e,b];exact ih
theorem KV.any (r:KV kvs vs) (k:κ):(kvs.any λkv=>decide (kv.1=k))=vs.any λkv=>decide (kv.1=k):=by
 unfold KV at r
 induction r with
 | nil=>rfl
 | cons h t ih=>rw[List.any_cons,List.any_cons,ih,h.1]
theorem KV.repl (r:KV kvs vs) (k:κ) {y:V} {u:Value} (ry:aX y u) :
  KV (kvs.map λkv=>if kv.1=k then (kv.1,y) else kv) (vs.map λkv=>if kv.1=k then (kv.1,u) else kv):=by
 unfold KV at r ⊢
 induction r with
 | nil=>exact .nil
 | @cons p q ps qs h t ih =>
 rw[QH,QH];refine .cons ?_ ih;obtain⟨h1,h2⟩:=h;by_cases e:p.1=k
 ·rw[QJ e,QJ (h1.symm.trans e)];exact⟨h1,ry⟩
 rw[QA e,QA (λz=>e (h1.trans z))];exact⟨h1,h2⟩
theorem KV.put (r:KV kvs vs) (k:κ) {y:V} {u:Value} (ry:aX y u):KV (cf kvs k y) (stored vs k u):=by
 unfold cf stored;rw[r.any k];by_cases e:(vs.any λkv=>decide (kv.1=k))=true
 ·rw[QJ e,QJ e];exact r.repl k ry
 rw[QA e,QA e];exact Paired.snoc r ⟨rfl,ry⟩
theorem KV.length (r:KV kvs vs):kvs.length=vs.length:=Paired.length r
end
variable {u:Value}
theorem oH {P:Program} {w:World} {k:Key} (r:aX (kV k) u):(bp P w).is k u=true:=by
 cases k with
 | inl i=>obtain⟨t,e⟩:=(show ∃t,u=Value.int i t from r);subst e;exact oz P w i t
 | inr x=>obtain⟨t,e⟩:=(show ∃t,u=Value.str x t from r);subst e;exact fv P w x t
theorem lw {P:Program} {w:World}:∀{ks:List Key} {us:List Value},be (ks.map kV) us->ItemsAre (bp P w) ks us
 | [],_,r=>by rw[List.map_nil]at r;cases r;exact .nil
 | k::ks,_,r=>by
  rw[QH]at r
  cases r with
  | cons h t=>exact .cons (oH h) (lw t)
abbrev KT (H:Hp):List (List Key × V)->List (List Key × Addr × Value)->Prop:=Paired λp q=>p.1=q.1/\H q.2.1=some (.tup (p.1.map kV))/\aX p.2 q.2.2
variable {xs:List (List Key × Addr × Value)} {kvs:List (List Key × V)} {H H':Hp}
theorem KT.val (r:KT H kvs xs) (k:List Key):iR (bw kvs k) ((atKey xs k).map (·.2)):=by
 induction r with
 | nil=>exact True.intro
 | @cons p q ps qs h t ih =>
 obtain⟨h1,_,h2⟩:=h;by_cases e:p.1=k
 ·have e':q.1=k:=h1.symm.trans e;have b:atKey (q::qs) k=some q.2:=by simp[atKey,List.find?_cons,e']
  rw[bV e,b];exact h2
 have e':¬q.1=k:=λz=>e (h1.trans z);have b:atKey (q::qs) k=atKey qs k:=by simp[atKey,List.find?_cons,e']
 rw[bX e,b];exact ih
theorem KT.repl (r:KT H kvs xs) (k:List Key) {y:V} (ry:aX y u) :
  KT H (kvs.map λkv=>if kv.1=k then (kv.1,y) else kv) (xs.map (putAt k u)):=by
 induction r with
 | nil=>exact .nil
 | @cons p q ps qs h t ih =>
 rw[QH,QH];refine .cons ?_ ih;obtain⟨h1,h2,h3⟩:=h;unfold putAt;by_cases e:p.1=k
 ·rw[QJ e,QJ (h1.symm.trans e)];exact⟨h1,h2,ry⟩
 rw[QA e,QA (λz=>e (h1.trans z))];exact⟨h1,h2,h3⟩
theorem KT.put (r:KT H kvs xs) (k:List Key) {b:Addr} {y:V} (hb:H b=some (.tup (k.map kV))) (ry:aX y u) :
  KT H (cf kvs k y) (storedH xs k b u):=by
 have e:(kvs.any λkv=>decide (kv.1=k))=(atKey xs k).isSome:=by
  rw[cK,(r.val k).isSome_eq,Option.isSome_map]
 unfold cf storedH;rw[e];by_cases q:(atKey xs k).isSome=true
 ·rw[QJ q,QJ q];exact r.repl k ry
 rw[QA q,QA q];exact Paired.snoc r ⟨rfl,hb,ry⟩
theorem KT.keeps (r:KT H kvs xs) (ht:∀b ys,H b=some (.tup ys)->H' b=some (.tup ys)):KT H' kvs xs :=
 Paired.mapP r λ_ _ z=>⟨z.1,ht _ _ z.2.1,z.2.2⟩
section
variable {P:Program} {w:World} {H:Hp} {h:Heap} {a:Addr}
theorem xF {u:HO} (ok:HOk P w H h) (e:Rd H a u):bn P w H h a u:=e.ok ok
theorem jQ {kvs:List (Key × V)} (ok:HOk P w H h) (e:Rd H a (.dK kvs)):kvs.length<=sizeLine/\(a==sysModules)=false/\∃vs,KV kvs vs/\h.DictOf (bp P w) a vs :=
 show bn P w H h a (.dK kvs) from xF ok e
theorem rE {kvs:List (Key × V)} (ok:HOk P w H h) (e:H a=some (.dK kvs)):kvs.length<=sizeLine/\(a==sysModules)=false/\∃vs,KV kvs vs/\h.DictOf (bp P w) a vs:=jQ ok (.inl e)
theorem mJ {ks:List Key} (ok:HOk P w H h) (e:H a=some (.tup (ks.map kV))):(tupleKind (bp P w)).is h ks a:=by
 obtain⟨_,its,r,o,h1,h2,n,h3⟩:=(show bn P w H h a (.tup (ks.map kV)) from ok a _ e);exact⟨o,its.toArray,n,h1,h2,h3,by simpa using lw r⟩
variable {kvs:List (List Key × V)}
theorem rD (ok:HOk P w H h) (e:Rd H a (.dT kvs)):kvs.length<=sizeLine/\(a==sysModules)=false /\
  ∃xs,KT H kvs xs/\h.DictOfH (tupleKind (bp P w)) a xs:=by
 obtain⟨z,y,xs,r,o,es,ep,h1,h2,h3,h4,h5⟩:=(show bn P w H h a (.dT kvs) from xF ok e);refine⟨z,y,xs,r,o,es,ep,h1,h2,h3,h4,λx hx=>?_,h5⟩
 have all:∀{l:List (List Key × V)} {m:List (List Key × Addr × Value)},KT H l m->∀x∈m,(tupleKind (bp P w)).is h x.1 x.2.1:=by
  intro l m q
  induction q with
  | nil=>intro x hx;exact nomatch hx
  | @cons p q ps qs hq t ih =>
  intro x hx;rcases QV.mp hx with e|hx
  ·subst e;exact mJ ok (by rw[<-hq.1];exact hq.2.1)
  exact ih x hx
 exact all r x hx
theorem Ds (ok:HOk P w H h) (e:H a=some (.dT kvs)):kvs.length<=sizeLine/\(a==sysModules)=false /\
  ∃xs,KT H kvs xs/\h.DictOfH (tupleKind (bp P w)) a xs:=rD ok (.inl e)
end
def c8 (H:Hp) (a:Addr) (y:V) (r:Option V):Prop :=
 (∃kvs k,Rd H a (.dK kvs)/\y=kV k/\r=bw kvs k)\/∃kvs k b,Rd H a (.dT kvs)/\y=.ref b/\H b=some (.tup (k.map kV))/\r=bw kvs k
def hG (H:Hp) (a:Addr) (y v:V) (H':Hp):Prop :=
 (∃kvs k,H a=some (.dK kvs)/\y=kV k/\kvs.length<sizeLine/\H'=upd H a (.dK (cf kvs k v))) \/
 ∃kvs k b,H a=some (.dT kvs)/\y=.ref b/\H b=some (.tup (k.map kV))/\kvs.length<sizeLine/\H'=upd H a (.dT (cf kvs k v))
theorem c8.k {H:Hp} {a:Addr} {kvs:List (Key × V)} {k:Key} (e:H a=some (.dK kvs)):c8 H a (kV k) (bw kvs k):=.inl ⟨kvs,k,.inl e,rfl,rfl⟩
theorem hG.k {H:Hp} {a:Addr} {kvs:List (Key × V)} {k:Key} {v:V} (e:H a=some (.dK kvs)) (hl:kvs.length<sizeLine):hG H a (kV k) v (upd H a (.dK (cf kvs k v))):=.inl ⟨kvs,k,e,rfl,hl,rfl⟩
section
variable {X:Cx} {pins:E2} {U:St} {H:Hp} {s:Shared} {a:Addr} {y v:V} {u r:Value} {o:Option V} {A:Around} {E:E1}
theorem Inv.big (I:Inv X pins U H s):sysModules<s.heap.objs.size:=by
 have h:mainGlobals<s.heap.objs.size:=(I.mod.glob.keeps I.bk).lt;exact Nat.lt_trans (by decide) h
variable {Q:E1}
theorem lD (hu:A.units+1<cLine) (I:Inv X pins U H s) (g:c8 H a y (some v)) (ry:aX y u) (h:∀w' s',Inv X pins U H s'->aX v w'->Q w' s') :
  wpAny (model X.prog X.w) A (getItem (.ref a) u) Q E s:=by
 rcases g with⟨kvs,k,e,ey,l⟩|⟨kvs,k,b,e,ey,eb,l⟩
 ·subst ey;obtain⟨z,hd,vs,rel,dd⟩:=jQ I.hok e;obtain⟨w',hw,rw'⟩:=iR.some_of (v:=v) (o:=valueAt vs k) (by rw[l];exact rel.val k);exact wpAny_getItem_of (oH ry) dd.mapOf hw (h w' _ (I.tok _) rw')
 subst ey;cases (show u=Value.ref b from ry);obtain⟨z,hd,xs,rel,dd⟩:=rD I.hok e;obtain⟨w',hw,rw'⟩:=iR.some_of (v:=v) (o:=(atKey xs k).map (·.2)) (by rw[l];exact rel.val k);obtain⟨p,hp,hp2⟩:=Option.map_eq_some_iff.mp hw;refine wpAny_getItem_heap (tupleKind_room_in1 hu) (mJ I.hok eb) dd hp ?_;rw[hp2];exact h w' _ (I.tok _) rw'
theorem wY (hu:A.units+1<cLine) (I:Inv X pins U H s) (g:c8 H a y o) (ry:aX y u) (h:∀s',Inv X pins U H s'->Q (.bool (!o.isSome)) s') :
  wpAny (model X.prog X.w) A (compareOp .NotIn u (.ref a)) Q E s:=by
 rcases g with⟨kvs,k,e,ey,l⟩|⟨kvs,k,b,e,ey,eb,l⟩
 ·subst ey;obtain⟨z,hd,vs,rel,dd⟩:=jQ I.hok e;refine wpAny_notIn_of (oH ry) hd dd.mapOf ?_;rw[<-(rel.val k).isSome_eq,<-l];exact h _ (I.tok _)
 subst ey;cases (show u=Value.ref b from ry);obtain⟨z,hd,xs,rel,dd⟩:=rD I.hok e;refine wpAny_notIn_heap (tupleKind_room_in1 hu) (mJ I.hok eb) hd dd ?_;have q:=(rel.val k).isSome_eq;rw[Option.isSome_map]at q;rw[<-q,<-l];exact h _ (I.tok _)
theorem mO {h':Heap} {t':Nat} {ob:HO} (I:Inv X pins U H s) (mu:Mut (H a)) (hs:Heap.SameBut a s.heap h') (he:∃q,h'.get? a=some q) (new:bn X.prog X.w (upd H a ob) h' a ob) :
  Inv X pins U (upd H a ob) { s with heap:=h',toks:=t' } :=
 I.write (x:=a) (e:=a) mu (.inl rfl) (λb q hb z=>(hs.2 b hb).trans z) he new
theorem vI {P:Program} {w:World} {H':Hp} {h':Heap} {kvs:List (Key × V)} {vs:List (Key × Value)} (z:kvs.length<=sizeLine) (hd:(a==sysModules)=false) (rel:KV kvs vs) (dd:h'.DictOf (bp P w) a vs) :
  bn P w H' h' a (.dK kvs):=⟨z,hd,vs,rel,dd⟩
theorem lC {H':Hp} {Q:Unit->Shared->Prop} (hu:A.units+1<cLine) (I:Inv X pins U H s) (g:hG H a y v H') (ry:aX y u) (rv:aX v r) (h:∀s',Inv X pins U H' s'->Q () s') :
  wpAny (model X.prog X.w) A (setItem (.ref a) u r) Q E s:=by
 rcases g with⟨kvs,k,e,ey,l,eH⟩|⟨kvs,k,b,e,ey,eb,l,eH⟩
 ·subst ey eH;obtain⟨z,hd,vs,rel,dd⟩:=rE I.hok e;have hz:vs.length<=sizeLine:=by rw[<-rel.length];exact z
  have hl:(cf kvs k v).length<=sizeLine:=by have:=dQ kvs k v;omega
  refine wpAny_setItem_pairs (hsz:=hz) (oH ry) dd λh' dd' hs=>h _ ?_;have he:∃q,h'.get? a=some q:=let ⟨q,_,_,hq,_⟩:=dd';⟨q,hq⟩;exact mO I (by rw[e];exact True.intro) hs he (vI hl hd (rel.put k rv) dd')
 subst ey eH;cases (show u=Value.ref b from ry);obtain⟨z,hd,xs,rel,dd⟩:=Ds I.hok e;have hz:xs.length<=sizeLine:=by rw[<-Paired.length rel];exact z
 have hl:(cf kvs k v).length<=sizeLine:=by have:=dQ kvs k v;omega
 refine wpAny_setItem_heap (hsz:=hz) (tupleKind_room_in1 hu) (mJ I.hok eb) dd λh' dd' hs=>h _ ?_;obtain⟨q,es,ep,hq,h2,h3,h4,_,h5⟩:=dd';refine mO I (by rw[e];exact True.intro) hs ⟨q,hq⟩ ⟨hl,hd,_,(rel.put k eb rv).keeps λc ys ec=>?_,q,es,ep,hq,h2,h3,h4,h5⟩;rw[aj (jD ec e (λz=>nomatch z))];exact ec
end
section
variable {X:Cx} {pins:E2} {U:St} {H:Hp} {s:Shared} {a:Addr} {kvs:List (Key × V)} {k:Key} {u:Value} {A:Around} {E:E1}
theorem Dt {Q:E1} (I:Inv X pins U H s) (e:Rd H a (.dK kvs)) (h:∀t s',Inv X pins U H s'->Q (.int kvs.length t) s'):wpAny (model X.prog X.w) A (call (.builtin "len") [.ref a]) Q E s:=by
 obtain⟨z,hd,vs,rel,dd⟩:=jQ I.hok e;refine call_len_dict hd dd (by rw[<-rel.length];rw[sizeLine_eq]at z;omega) ?_;rw[<-rel.length];exact h _ _ (I.tok _)
end
def DF (i:Expr):Prop:=∀ov iv,subscripted i false ov iv=operate [ov,iv] (getItem ov iv)
variable {Q E:E1} {pos:Pos}
theorem wc {prog:Program} {w:World} {A:Around} {s:Shared} {env:Env} {value slice:Expr} {T id:String}
  (hl:typeLookup (.type T) "__getitem__" = pure (some (.builtin id))) (hs:DF slice)
  (h:wpAny (model prog w) A (eval value env) (λo s₁=>wpAny (model prog w) A (eval slice env) (λi s₂=>s₂.TypeIs o T/\wpAny (model prog w) A (getItem o i) Q E s₂) E s₁) E s) :
  wpAny (model prog w) A (eval (.Subscript value slice pos) env) Q E s:=by
 refine Subscript_ (Q8 h (λo s₁ h₁=>Q8 h₁ (λi s₂ h₂=>?_) λ_ _ x=>x) λ_ _ x=>x);obtain⟨hT,h₂⟩:=h₂;unfold subscriptTail;refine Qb ?_;rw[getitemInPython_of_ne hT.not_modules];refine Qb (wpAny_specialOf hT hl ?_)
 have fin:wpAny (model prog w) A (subscripted slice false o i) (λr s₃=>wpAny (model prog w) A (letTemporaryGo value o r >>= λ_=>pure r) Q E s₃) E s₂:=by
  rw[hs o i];exact wpAny_operating (Q8 h₂ (λr s₃ h₃=>Qb (wpAny_letTemporaryGo (Qm h₃))) λ_ _ x=>x)
 first
  | exact Qm (Qb fin)
  | exact Qb (Qm (Qb fin))
  | exact Qb fin
variable {X:Cx}
theorem oO {pins:E2} {U:St} {s:Shared} {a:Addr} {y:V} {o:Option V} (I:Inv X pins U H s) (g:c8 H a y o):s.TypeIs (.ref a) "dict" := by
 rcases g with⟨kvs,k,e,_,_⟩|⟨kvs,k,b,e,_,_,_⟩
 ·obtain⟨_,_,vs,_,dd⟩:=jQ I.hok e;exact dd.typeIs
 obtain⟨_,_,xs,_,dd⟩:=rD I.hok e;exact dd.typeIs
def xy (td ty:TE):TE:=λU H Q=>td U H λx H1=>ty U H1 λy H2=>∃a v,x=.ref a/\c8 H2 a y (some v)/\Q v H2
def qH (ty td:TE):TE:=λU H Q=>ty U H λy H1=>td U H1 λx H2=>∃a o,x=.ref a/\c8 H2 a y o/\Q (.bl (!o.isSome)) H2
def xD (td ty tv:TE):TS:=λD U H=>tv U H λv H1=>td U H1 λx H2=>ty U H2 λy H3=>∃a H4,x=.ref a/\hG H3 a y v H4/\D.nx U H4
def xE (td ty tv:TE) (rd:V->V->Hp->VK->Prop):TS:=λD U H=>td U H λx H1=>ty U H1 λy H2=>∃a v,x=.ref a/\c8 H2 a y (some v) /\
 tv U H2 λy2 H3=>rd v y2 H3 λz H4=>∃H5,hG H4 a y z H5/\D.nx U H5
section
variable {X:Cx} {o i e value:Expr} {pos pos' tpos:Pos} {td ty tv:TE}
theorem cu (hu:X.A.units+1<cLine) (ho:PE X o td) (hi:PE X i ty) (hs:DF i:=by exact λ_ _=>rfl):PE X (.Subscript o i pos) (xy td ty):=by
 intro pins s U H Q I h;refine wc PySem.F.slot_dict_getitem.lookup hs (thn (ho pins s U H _ I h) λu s1 ⟨x,H1,I1,rx,q1⟩=>thn (hi pins s1 U H1 _ I1 q1) λiv s2 ⟨y,H2,I2,ry,a,v,ex,g,q2⟩=>?_);subst ex;obtain rfl:u=Value.ref a:=rx;exact⟨oO I2 g,lD hu I2 g ry λw' s3 I3 rw'=>⟨v,H2,I3,rw',q2⟩⟩
theorem fQ (hu:X.A.units+1<cLine) (hi:PE X i ty) (ho:PE X o td):PC X .NotIn i o (qH ty td):=by
 intro pins s U H Q I h;refine thn (hi pins s U H _ I h) λiv s1 ⟨y,H1,I1,ry,q1⟩=>thn (ho pins s1 U H1 _ I1 q1) λu s2 ⟨x,H2,I2,rx,a,ov,ex,g,q2⟩=>?_;subst ex;obtain rfl:u=Value.ref a:=rx;exact wY hu I2 g ry λs3 I3=>⟨.bl (!ov.isSome),H2,I3,rfl,q2⟩
theorem fP (hu:X.A.units+1<cLine) (ho:PE X o td) (hi:PE X i ty) (hv:PE X value tv) (hs:swapsWith value (some (.Subscript o i pos')) pos.line X.env=pure false) :
  PS X (.Assign [.Subscript o i pos'] value pos) (xD td ty tv):=by
 intro pins s U H D I h;refine wpAny_Assign_Subscript (thn (hv pins s U H _ I h) λr s1 ⟨v,H1,I1,rv,q1⟩=>thn (ho pins s1 U H1 _ I1 q1) λu s2 ⟨x,H2,I2,rx,q2⟩=>thn (hi pins s2 U H2 _ I2 q2) λiv s3 ⟨y,H3,I3,ry,a,H4,ex,g,q3⟩=>?_) hs;subst ex;obtain rfl:u=Value.ref a:=rx;exact lC hu I3 g ry rv λs4 I4=>⟨U,H4,I4,q3⟩
theorem wn {op:Operator} {rd:V->V->Hp->VK->Prop} (hu:X.A.units+1<cLine) (ho:PE X o td) (hi:PE X i ty) (hv:PE X value tv) (hop:DH X op rd)
  (ha:∀ov iv new,augStore i ov iv new=(do holding [new,ov,iv] (setItem ov iv new);release [new,ov,iv] [];pure .next)):PS X (.AugAssign (.Subscript o i tpos) op value pos) (xE td ty tv rd):=by
 intro pins s U H D I h;refine wpAny_AugAssign_SubscriptAny (thn (ho pins s U H _ I h) λu s1 ⟨x,H1,I1,rx,q1⟩=>thn (hi pins s1 U H1 _ I1 q1) λiv s2 ⟨y,H2,I2,ry,a,v,ex,g,q2⟩=>?_) ha;subst ex;obtain rfl:u=Value.ref a:=rx;refine lD hu I2 g ry λw' s3 I3 rw'=>thn (hv pins s3 U H2 _ I3 q2) λw2 s4 ⟨y2,H3,I4,ry2,q3⟩=>thn (hop pins s4 U H3 v y2 w' w2 _ I4 rw' ry2 q3) λw3 s5 ⟨z,H4,I5,rz,H5,g5,q4⟩=>?_;exact lC hu I5 g5 ry rz λs6 I6=>⟨U,H5,I6,q4⟩
end
theorem oN {P:Program} {w:World} (h:Heap) (hb:sysModules<h.objs.size):bn P w H (h.push { cls:=.type "dict", data:=.dict #[] }) h.objs.size (.dK []) :=
 ⟨QQ _,beq_eq_false_iff_ne.mpr (Xh (QB hb)),[],.nil,Heap.DictOf.new h⟩
def yK:TE:=λ_ H Q=>∀p,H p=none->Q (.ref p) (upd H p (.dK []))
section
variable {X:Cx} {pos:Pos}
theorem fq:PE X (.Dict [] [] pos) yK:=λpins s U H Q I h =>
 wpAny_Dict_empty ⟨.ref s.heap.objs.size,_,I.laid (a:=s.heap.objs.size) (o:=.dK []) (t':=s.toks) (λ_ _ q=>Qc _ q) (Qf _) (oN s.heap I.big),rfl,h _ (I.hok.fresh (Qf _))⟩
end
def o_:List (TE × TE)->St->Hp->(List (V × V)->Hp->Prop)->Prop
 | [],_,H,Q=>Q [] H
 | (tk,tv)::r,U,H,Q=>tk U H λx H1=>tv U H1 λy H2=>o_ r U H2 λps H3=>Q ((x,y)::ps) H3
abbrev VV:List (V × V)->List (Value × Value)->Prop:=Paired λp q=>aX p.1 q.1/\aX p.2 q.2
def PPs (X:Cx) (pos:Pos) (keys:List (Option Expr)) (values:List Expr) (trs:List (TE × TE)):Prop :=
 ∀(pins:E2) (s:Shared) (U:St) (H:Hp) (Q:List (V × V)->Hp->Prop),Inv X pins U H s->o_ trs U H Q ->
  wpAny (model X.prog X.w) X.A (evalPairs (pairTrees keys values X.env pos)) (λvs s'=>∃ps H',Inv X pins U H' s'/\VV ps vs/\Q ps H') X.xe s
theorem wo:PPs X pos [] [] []:=λpins s U H Q I h=>pairTrees_nil_walk ⟨[],H,I,.nil,h⟩
variable {trs:List (TE × TE)}
theorem ut {k v:Expr} {ks:List (Option Expr)} {vs:List Expr} {tk tv:TE} (hk:PE X k tk) (hv:PE X v tv) (hr:PPs X pos ks vs trs) :
  PPs X pos (some k::ks) (v::vs) ((tk,tv)::trs):=λpins s U H Q I h =>
 pairTrees_cons_walk (thn (hk pins s U H _ I h) λu s1 ⟨x,H1,I1,rx,q1⟩=>thn (hv pins s1 U H1 _ I1 q1) λw2 s2 ⟨y,H2,I2,ry,q2⟩ =>
  thn (hr pins s2 U H2 _ I2 q2) λws s3 ⟨ps,H3,I3,rel,q3⟩=>⟨(x,y)::ps,H3,I3,.cons ⟨rx,ry⟩ rel,q3⟩)
def jF (kvs more:List (Key × V)):List (Key × V):=more.foldl (λacc kv=>cf acc kv.1 kv.2) kvs
theorem KV.merge:∀{more:List (Key × V)} {rs:List (Key × Value)} {kvs:List (Key × V)} {vs:List (Key × Value)},KV more rs->KV kvs vs->KV (jF kvs more) (merged vs rs):=by
 intro more rs kvs vs r;unfold KV at r
 induction r generalizing kvs vs with
 | nil=>intro q;exact q
 | @cons p q ps qs h t ih =>
 intro r0
 have e:KV (cf kvs p.1 p.2) (stored vs q.1 q.2):=by
  have:=r0.put p.1 h.2;rw[<-h.1];exact this
 exact ih e
theorem gd:∀(more kvs:List (Key × V)),(jF kvs more).length<=kvs.length+more.length
 | [],kvs=>by show kvs.length<=kvs.length+0;omega
 | p::r,kvs=>by
  have h1:=gd r (cf kvs p.1 p.2);have h2:=dQ kvs p.1 p.2;show (jF (cf kvs p.1 p.2) r).length<=_;rw[QU];omega
theorem jV {P:Program} {w:World}:∀{kvs:List (Key × V)} {ws:List (Value × Value)},VV (kvs.map λkv=>(kV kv.1,kv.2)) ws->∃rs,Carries (bp P w) ws rs/\KV kvs rs
 | [],_,r=>by rw[List.map_nil]at r;cases r;exact⟨[],True.intro,.nil⟩
 | p::kvs,_,r=>by
  rw[QH]at r
  cases r with
  | @cons a b as bs h t =>
  obtain⟨rs,c,q⟩:=jV (P:=P) (w:=w) t;obtain⟨b1,b2⟩:=b;exact⟨(p.1,b2)::rs,⟨oH h.1,rfl,c⟩,.cons ⟨rfl,h.2⟩ q⟩
def As (trs:List (TE × TE)):TE:=λU H Q=>∀p,H p=none->o_ trs U (upd H p (.dK [])) λps H2=>H2 p=some (.dK [])/\∃kvs:List (Key × V),ps=kvs.map (λkv=>(kV kv.1,kv.2))/\kvs.length<=15/\Q (.ref p) (upd H2 p (.dK (jF [] kvs)))
theorem wu {keys:List (Option Expr)} {values:List Expr} (h:PPs X pos keys values trs) (hall:keys.all (·.isSome)=true) (hl:keys.length=values.length) (h0:keys≠[])
  (h15:keys.length<=15):PE X (.Dict keys values pos) (As trs):=by
 intro pins s U H Q I q;have hn:=I.hok.fresh (Qf s.heap.objs.size);have I1:=I.laid (a:=s.heap.objs.size) (o:=.dK []) (h':=s.heap.push { cls:=.type "dict", data:=.dict #[] }) (t':=s.toks) (λ_ _ q=>Qc _ q) (Qf _) (oN s.heap I.big);refine wpAny_Dict_walk (knd:=bp X.prog X.w) hall hl h0 h15 (thn (h pins _ U _ _ I1 (q _ hn)) λws s2 ⟨ps,H2,I2,rel,e,kvs,ep,lk,q2⟩=>?_);subst ep;obtain⟨rs,c,rk⟩:=jV (P:=X.prog) (w:=X.w) rel;obtain⟨z,hd,vs0,r0,dd⟩:=rE I2.hok e;cases r0;refine⟨rs,c,dd,λh' dd' hs=>⟨.ref s.heap.objs.size,_,?_,rfl,q2⟩⟩
 have hz:(jF [] kvs).length<=sizeLine:=by
  have h1:=gd kvs [];rw[List.length_nil]at h1;rw[sizeLine_eq];omega
 have he:∃q,h'.get? s.heap.objs.size=some q:=let ⟨q,_,_,hq,_⟩:=dd';⟨q,hq⟩;exact mO I2 (by rw[e];exact True.intro) hs he (vI hz hd (rk.merge .nil) dd')
structure M1 (X:Cx) (o:Expr) (m:Str) (apos:Pos) (e:Expr) (cpos:Pos):Prop where
 base:attributeBase o m X.env (eval o X.env)=eval o X.env
 few:((backTo cpos (starEach [e] X.env)).all (λx=>!x.1)&&(backToKw cpos (keywordEach [] X.env)).all (λx=>x.1.isSome)
  && decide (([e]:List Expr).length+([]:List Keyword).length+(if ([]:List Keyword).isEmpty then 0 else 1)<30))=true
 line:(apos.endLine==cpos.line)=true
 trees:backTo cpos (starEach [e] X.env)=[(false,eval e X.env)]
structure M2 (X:Cx) (o:Expr) (m:Str) (apos:Pos) (e f:Expr) (cpos:Pos):Prop where
 base:attributeBase o m X.env (eval o X.env)=eval o X.env
 few:((backTo cpos (starEach [e,f] X.env)).all (λx=>!x.1)&&(backToKw cpos (keywordEach [] X.env)).all (λx=>x.1.isSome)
  && decide (([e,f]:List Expr).length+([]:List Keyword).length+(if ([]:List Keyword).isEmpty then 0 else 1)<30))=true
 line:(apos.endLine==cpos.line)=true
 trees:backTo cpos (starEach [e,f] X.env)=[(false,eval e X.env),(false,eval f X.env)]
section
variable {X:Cx} {pins:E2} {U:St} {H:Hp} {s:Shared} {a:Addr} {y d:V} {u r:Value} {o:Option V} {A:Around} {E:E1}
end
section
variable {X:Cx} {o e f:Expr} {apos cpos:Pos} {td ty tx:TE}
end
section
variable {X:Cx} {pins:E2} {U:St} {H:Hp} {s:Shared} {a:Addr} {kvs:List (Key × V)} {A:Around} {E:E1}
end
section
variable {X:Cx} {pins:E2} {U:St} {H:Hp} {s:Shared} {a:Addr} {y:V} {u:Value} {A:Around} {E:E1}
end
end L2
namespace Att
open PySem PySem.W PySem.Calls PyProof.Rows
theorem iQ {P:Params} {h:Heap}:∀(ns:List Int) (vs:List Value),WellAll P h vs (ns.map WData.int)->IntsAre vs ns:=by
 intro ns
 induction ns with
 | nil =>
  intro vs w;rw[List.map_nil]at w;cases w;exact .nil
 | cons n ns ih =>
 intro vs w;rw[QH]at w
 cases w with
 | cons a b =>
 cases a;exact .cons _ _ (ih _ b)
theorem si {l:OpenLaw} {n:Nat} (hn:l.most=some n) {P:Params} {h:Heap} {args:List WData} {vals:List Value}
  (hpre:l.row.toRowW.claim.pre args=true) (hwl:WellAll P h vals args) :
  ∃a vs ns,vals=[Value.ref a]/\args=[WData.list (ns.map WData.int)]/\h.get? a=some { cls:=.type "list", data:=.seq vs.toArray }/\IntsAre vs ns/\ns.length<=n:=by
 have hsh:WShape.hasAll [] args [.list .int]=true:=(pre_splitW hpre).1;have hc:l.pre.holds [] { args:=args }=true:=(pre_splitW hpre).2;obtain⟨d,r,rfl,h1,h2⟩:=hasAllW_cons hsh;obtain rfl:=hasAllW_nil h2;obtain⟨xs,rfl,h3⟩:=hasW_list h1;obtain⟨ns,rfl⟩:=items_int h3
 have hlen:ns.length<=n:=by
  unfold OpenLaw.pre at hc
  have h4:(WTm.not (.lt (.lit (.int (n:Int))) (.len (.arg 0)))).holds [] { args:=[.list (ns.map .int)] }=true:=by
   have h4:=(holds_andW hc).1;rw[hn]at h4;exact h4
  have h5:=condW_of h4 (w_not (w_lt w_lit (w_len_list (w_arg rfl))));rw[Qa]at h5;refine Nat.le_of_not_lt λq=>?_;have q':(n:Int)<((ns.length:Nat):Int):=by omega
  first
   | (rw[Xw q']at h5;exact absurd h5 (by decide))
   | (simp at h5;omega)
 cases hwl with
 | cons w1 w2 =>
 cases w2
 cases w1 with
 | list ho hall=>exact⟨_,_,ns,rfl,rfl,ho,iQ ns _ hall,hlen⟩
theorem sk (l:OpenLaw) (args:List WData):l.row.toRowW.claim.post args (.bool true) args=true :=
 postW_of (r:=l.row.toRowW) (X:=(true==true))
  (show WShape.has [] (.bool true) .bool=true by first|rfl|decide|simp[WShape.has,WShape.arms,WShape.armsAll])
  (show (WTm.eq .res (.lit (.bool true))).value [] { args:=args,res:=some (.bool true),after:=args }=some (.bool (true==true)) from w_eq_bool (w_res rfl) w_lit) rfl
theorem oV {l:OpenLaw} {n:Nat} {q:Program} {loose:List Str} {XP:E3->Heap->Prop} {YP:World->Heap->Prop} {d:DefRec}
  (hn:l.most=some n) (hdf:d.params.defaults=[])
  (call:∀(w:World) (s₀ s₁:Shared) (mg mb:E3) (fa:Addr) (o:Obj) (pm cd doc:Value) (a:Addr) (vs:List Value) (ns:List Int),
   Ground q loose [] XP w s₀ mg mb s₁.heap->YP w s₁.heap ->
   s₁.heap.get? fa=some o->o.data=.func (docDef d.name d.params d.body d.scope pm cd doc)->s₁.heap.CodeRec cd d.name->mg d.name=some (.ref fa) ->
   s₁.heap.get? a=some { cls:=.type "list", data:=.seq vs.toArray }->IntsAre vs ns->ns.length<=n->s₁.gens=#[] ->
   codeAny (model l.prog w) callerA (.call (.ref fa) ⟨[.ref a],[]⟩) (λr s'=>r=.ok (.ret (.bool true))/\OldK s₁.heap s'.heap/\s'.os=s₁.os/\AllBare s'.gens) s₁) :
  WalkO q loose XP YP l.row.toRowW d [] (λf vs=>PySem.call f vs):=by
 intro w s₀ s₁ mg mb G Y fa o pm cd doc dV kV ho hd hcd hD hmg hg args vals as hpre hlay hrd hwl hlo;obtain rfl:dV=.none:=Dflts.none hD hdf;obtain rfl:kV=.none:=Dflts.noKw hD;obtain⟨a,vs,ns,rfl,rfl,hobj,hints,hlen⟩:=si hn hpre hwl;refine enter_call (codeAny_mono (call w s₀ s₁ mg mb fa o pm cd doc a vs ns G Y ho (fd_plain hd) hcd hmg hobj hints hlen hg) λr s' hq=>?_);obtain⟨rfl,h2,h3,h4⟩:=hq;exact⟨.inl ⟨.bool true,.bool true,[],rfl,λ_=>rfl,.bool true,sk l _,λ_=>⟨List.Pairwise.nil,λ_ hm=>(nomatch hm)⟩⟩,h2,h3,h4⟩
section
variable {prog:Program} {w:World} {A:Around} {E:E1} {s:Shared} {K:Frag}
end
end Att
namespace L2
open PySem PySem.Spec PyProof.Rows
theorem kU:∀{vs:List Value} {ns:List Int},IntsAre vs ns->be (ns.map V.int) vs
 | _,_,.nil=>.nil
 | _,_,.cons n t h=>.cons ⟨t,rfl⟩ (kU h)
end L2
/- THE LAST THEOREM (shape;LID,My.* are yours):
  My.Adr: a structure of the addresses that your layer names (classes,functions);My.Txt K t: a structure (Prop) of the equations over K;
  My.txt_mk:{K} {implicit addresses ..} (e1:nsIn K mainGlobals "law" = some (some (.ref f))) (e2:K.lookup f=some ⟨oc,od,.func (fnOf "law" "law" params body scope dV kV doc pm an cdv ct),sl⟩) (e3:codeIn K cdv "law" = true) ..:∃t,My.Txt K t
(the tactic k_is has no namespace: write k_is) -/
namespace L2
open PySem PySem.Spec PyProof.Rows
abbrev CX0:CXT:=λ_ _ _ _ _ _=>False
abbrev E0:XK:=λ_ _ _=>False
theorem xQ {X:Cx}:gE CX0 X E0:=λ_ _ _ _ _ _ _ h=>h.elim
structure Fun (K:PySem.W.Frag) (x qual:Str) (st:Stmt) (f:Addr) (fd:FuncData):Prop where
 ex:∃(oc:Value) (od:Option Addr) (kV doc pm:Value) (an:Option Addr) (cdv ct:Value) (osl:Array (Option Value)),
  fd=PySem.W.fnOf x qual (cO st) (ck st) (az st) .none kV doc pm an cdv ct/\K.lookup f=some ⟨oc,od,.func fd,osl⟩/\PySem.W.codeIn K cdv qual=true
 kp:PySem.W.keepIn K (.ref f)=true
section
variable {P:Program} {w:World} {K:PySem.W.Frag} {mg:E3} {base:Heap}
variable {x qual:Str}
theorem Fun.ok {st:Stmt} {f:Addr} {fd:FuncData} {N ps:List Str} {k:Nat} {sp:Sp} (F:Fun K x qual st f fd) (S:FnScope N ps (az st)) (len:∀vs H Q E,sp vs H Q E->vs.length=ps.length)
  (hbody:∀(cdv:Value) (A:Around) (outer:List Env) (s:Shared) (H:Hp) (vs:List V) (Q:VK) (E:XK),Room k (A.deeper (envOfC qual (az st) s.heap.objs.size f cdv))->sp vs H Q E ->
   ∃t,PSs (cxOf CX0 P w K mg base N qual (az st) f cdv A outer s H E).nox (ck st) t/\t { nx:=λ_ H'=>Q .non H',rt:=Q } (start N vs) H):FnOk P w K mg base CX0 (k+1) f fd ps sp:=by
 obtain⟨oc,od,kV,doc,pm,an,cdv,ct,osl,rfl,lk,hcd⟩:=F.ex;refine jN lk hcd S len λA outer s H vs Q E hr hsp=>?_;obtain⟨t,h,q⟩:=hbody cdv A outer s H vs Q E hr hsp;exact⟨t,h.nox,q⟩
theorem Fun.binds {st:Stmt} {f:Addr} {fd:FuncData} {ps:List Str} (F:Fun K x qual st f fd)
  (h:∀(kV doc pm:Value) (an:Option Addr) (cdv ct:Value) (us:List Value),us.length=ps.length->bindArgs (PySem.W.fnOf x qual (cO st) (ck st) (az st) .none kV doc pm an cdv ct) ⟨us,[]⟩=pure (ps.zip us)):dW K fd ps []:=by
 obtain⟨oc,od,kV,doc,pm,an,cdv,ct,osl,rfl,lk,hcd⟩:=F.ex;exact .all (h kV doc pm an cdv ct)
theorem qh {st:Stmt} {f:Addr} {oc:Value} {od an:Option Addr} {osl:Array (Option Value)} {kV doc pm cdv ct:Value} (l:K.lookup f=some ⟨oc,od,.func (PySem.W.fnOf x qual (cO st) (ck st) (az st) .none kV doc pm an cdv ct),osl⟩)
  (c:PySem.W.codeIn K cdv qual=true) (k:PySem.W.keepIn K (.ref f)=true):Fun K x qual st f (PySem.W.fnOf x qual (cO st) (ck st) (az st) .none kV doc pm an cdv ct):=⟨⟨oc,od,kV,doc,pm,an,cdv,ct,osl,rfl,l,c⟩,k⟩
end
theorem dS {A:Around} {k:Nat} (hr:Room k A):A.units+1<cLine:=Xz (Nat.add_le_add_left (by decide:1<=64) _) hr.units
section
variable {X:Cx}
theorem pv (i:Nat) {x:Str} {pos:Pos} (hN:X.N[i]?=some x:=by rfl) (hv:Vis X.env.scope x:=by first|exact Or.inl rfl|exact Or.inr (Or.inl rfl)|exact Or.inr (Or.inr rfl)) (hd:(x==("__debug__" : Str))=false:=by decide)
  (hcd:(x==("__classdict__" : Str))=false:=by decide):PE X (.Name x pos) (cq i):=yW hN hv hd hcd
end
variable {A B c:Prop}
theorem cU (h:B):if false=true then A else B:=by
 rw[QA Qk];exact h
theorem cT (h:A):if true=true then A else B:=by
 rw[QJ rfl];exact h
theorem dZ [Decidable c] (h1:c->A) (h2:¬c->B):if c then A else B:=by
 by_cases h:c
 ·rw[QJ h];exact h1 h
 rw[QA h];exact h2 h
def am (H H':Hp):Prop:=∀b o,H b=some o->H' b=some o
theorem am.refl (H:Hp):am H H:=λ_ _ h=>h
theorem am.trans {H H1 H2:Hp} (a:am H H1) (b:am H1 H2):am H H2:=λc o h=>b c o (a c o h)
theorem am.free {H H':Hp} (e:am H H') {l:Addr} (h:H' l=Option.none):H l=Option.none:=by
 cases q:H l with
 | none=>rfl
 | some o =>
 rw[e l o q]at h;cases h
theorem am.seq {K:PySem.W.Frag} {H H':Hp} {a:Addr} {xs:List V} (e:am H H') (h:SqL K H a xs):SqL K H' a xs:=by
 rcases h with(h|⟨o,h⟩)|h
 ·exact .inl (.inl (e _ _ h))
 ·exact .inl (.inr ⟨o,e _ _ h⟩)
 exact .inr h
section
variable {κ:Type} [DecidableEq κ]
variable {kvs:List (κ × V)}
theorem tU {k:κ} (h:bw kvs k=none):¬k∈kvs.map (·.1):=by
 intro m;obtain⟨p,hp,e⟩:=Ql.mp m;have q:(kvs.any λkv=>decide (kv.1=k))=true:=List.any_eq_true.mpr ⟨p,hp,Xw e⟩;rw[cK,h]at q;exact absurd q (by simp)
theorem v6 {k:κ} {v:V} (h:bw kvs k=some v):k∈kvs.map (·.1):=by
 have q:(kvs.any λkv=>decide (kv.1=k))=true:=by
  rw[cK,h]
  all_goals rfl
 obtain⟨p,hp,e⟩:=List.any_eq_true.mp q;exact Ql.mpr ⟨p,hp,of_decide_eq_true e⟩
end
section
variable {X:Cx}
theorem tI:cZ X (.builtin "len") (λxs H Q=>∃a kvs,xs=[V.ref a]/\H a=some (.dK kvs)/\Q (.int kvs.length) H):=by
 intro pins s U H xs us Q I r h;obtain⟨a,kvs,rfl,ha,q⟩:=h;obtain⟨u,rfl,ru⟩:=d6 r;cases ru;exact Dt I (.inl ha) λt s' I'=>⟨.int kvs.length,H,I',⟨t,rfl⟩,q⟩
end
end L2
set_option maxHeartbeats 4000000
namespace L2
open PySem PySem.Spec PyProof.Rows
def wk:St->St->Prop
 | [],[]=>True
 | none::a,_::b=>wk a b
 | some x::a,y::b=>y=some x/\wk a b
 | _,_=>False
theorem lR:∀{a b:St},wk a b->a.length=b.length
 | [],[],_=>rfl
 | [],_::_,h=>h.elim
 | none::_,[],h=>h.elim
 | some _::_,[],h=>h.elim
 | none::a,_::b,h=>congrArg (·+1) (lR (a:=a) (b:=b) h)
 | some _::a,_::b,h=>congrArg (·+1) (lR (a:=a) (b:=b) h.2)
theorem lS:∀{a b:St},wk a b->∀(i:Nat) (v:V),a[i]?=some (some v)->b[i]?=some (some v)
 | [],[],_,i,v,e=>by simp at e
 | [],_::_,h,_,_,_=>h.elim
 | none::_,[],h,_,_,_=>h.elim
 | some _::_,[],h,_,_,_=>h.elim
 | none::a,y::b,h,0,v,e=>by simp at e
 | none::a,y::b,h,i+1,v,e=>by
  have:=lS (a:=a) (b:=b) h i v (by simpa using e);simpa using this
 | some x::a,y::b,h,0,v,e=>by
  have e':x=v:=by simpa using e
  subst e';rw[h.1];rfl
 | some x::a,y::b,h,i+1,v,e=>by
  have:=lS (a:=a) (b:=b) h.2 i v (by simpa using e);simpa using this
def cR (env:Env):List (Str × NameKind)->List (Str × Addr)->List (Str × Addr)
 | [],acc=>acc
 | (n,k)::r,acc=>cR env r (if (k==.free)=true then (n,(env.cells.lookup n).getD 0)::acc else acc)
theorem jT {env:Env}:∀(ns:List (Str × NameKind)) (acc:List (Str × Addr)),(∀y∈ns,y.2=.free->∃c,env.cells.lookup y.1=some c) ->
  (forIn ns acc (fun x r=>match x with
   | (name,kind)=>if (kind==NameKind.free)=true then (do let c <-cellOf env name;pure (ForInStep.yield ((name,c)::r))) else pure (ForInStep.yield r)):Sem (List (Str × Addr)))=pure (cR env ns acc)
 | [],acc,_=>rfl
 | (n,k)::r,acc,h=>by
  rw[List.forIn_cons];have ih:=λa=>jT (env:=env) r a λy hy=>h y (Qv _ hy);by_cases hk:(k==NameKind.free)=true
  ·obtain⟨c,hc⟩:=h (n,k) Xi (by simpa using hk);have e1:cellOf env n=pure c:=by unfold cellOf;rw[hc]
   simp only[hk,if_true,e1,pure_bind];unfold cR;simp only[hk,if_true,hc,Option.getD_some];exact ih _
  simp only[hk,if_false,pure_bind];unfold cR;simp only[hk,if_false];exact ih _
variable {env:Env} {scope:Scope}
theorem jU (h:∀y∈scope.names,y.2=.free->∃c,env.cells.lookup y.1=some c):closureFor scope env=pure (cR env scope.names []):=by
 have e:=jT scope.names [] h;unfold closureFor
 first
  | (rw[show (forIn scope.names ([]:List (Str × Addr)) _:Sem (List (Str × Addr)))=pure (cR env scope.names []) from e];rfl)
  | (simp only[bind_pure];exact e)
  | exact(congrArg (· >>= pure) e)
theorem iz {env:Env}:∀(ns:List (Str × NameKind)) (acc:List (Str × Addr)) (n:Str) (a:Addr),(n,a)∈cR env ns acc->(n,a)∈acc\/(a=(env.cells.lookup n).getD 0/\(n,NameKind.free)∈ns)
 | [],acc,n,a,h=>.inl h
 | (m,k)::r,acc,n,a,h=>by
  unfold cR at h;by_cases hk:(k==NameKind.free)=true
  ·rw[QJ hk]at h;rcases iz r _ n a h with q|⟨q1,q2⟩
   ·rcases QV.mp q with q|q
    ·cases q;have hk':k=.free:=by simpa using hk
     subst hk';exact .inr ⟨rfl,Xi⟩
    exact .inl q
   exact .inr ⟨q1,Qv _ q2⟩
  rw[QA hk]at h;rcases iz r _ n a h with q|⟨q1,q2⟩
  ·exact .inl q
  exact .inr ⟨q1,Qv _ q2⟩
theorem lG {env:Env}:∀(ns:List (Str × NameKind)) (acc:List (Str × Addr)) (p:Str × Addr),p∈acc->p∈cR env ns acc
 | [],_,_,h=>h
 | (m,k)::r,acc,p,h=>by
  unfold cR;refine lG r _ p ?_
  split
  ·exact Qv _ h
  exact h
theorem jS {env:Env}:∀(ns:List (Str × NameKind)) (acc:List (Str × Addr)) (n:Str),(n,NameKind.free)∈ns->(n,(env.cells.lookup n).getD 0)∈cR env ns acc
 | [],_,_,h=>nomatch h
 | (m,k)::r,acc,n,h=>by
  unfold cR;rcases QV.mp h with q|q
  ·cases q;refine lG r _ _ ?_;rw[QJ (by rfl)];exact Xi
  exact jS r _ n q
theorem dJ {α β:Type} [BEq α] [LawfulBEq α]:∀{l:List (α × β)} {x:α} {y:β},l.lookup x=some y->(x,y)∈l
 | [],_,_,h=>by simp at h
 | (a,b)::r,x,y,h=>by
  rw[Q5]at h;by_cases e:(x==a)=true
  ·rw[e]at h;have e':x=a:=by simpa using e
   have h':b=y:=by simpa using h
   subst e' h';exact Xi
  have e2:(x==a)=false:=by simpa using e
  rw[e2]at h;exact Qv _ (dJ (by simpa using h))
theorem gc {α β:Type} [BEq α] [LawfulBEq α]:∀{l:List (α × β)} {x:α} {y:β},(x,y)∈l->∃z,l.lookup x=some z
 | [],_,_,h=>nomatch h
 | (a,b)::r,x,y,h=>by
  rw[Q5];by_cases e:(x==a)=true
  ·rw[e];exact⟨b,rfl⟩
  have e2:(x==a)=false:=by simpa using e
  rw[e2];rcases QV.mp h with q|q
  ·cases q;simp at e
  exact gc q
variable {c it e T a p:Addr} {x z:Str} {ns:List (Str × NameKind)}
theorem vR (h:(cR env ns []).lookup x=some c) (hall:∀y∈ns,y.2=.free->∃c,env.cells.lookup y.1=some c):env.cells.lookup x=some c:=by
 rcases iz ns [] x c (dJ h) with q|⟨q1,q2⟩
 ·nomatch q
 obtain⟨c',hc⟩:=hall _ q2 rfl;have hc':env.cells.lookup x=some c':=hc;rw[hc']at q1;rw[hc',q1];rfl
theorem rM {env:Env} (h:(x,NameKind.free)∈ns):∃c,(cR env ns []).lookup x=some c:=gc (jS ns [] x h)
noncomputable def Cx.block (X:Cx) (N:List Str) (scope:Scope) (C:Addr) (s:Shared) (H:Hp) (fp:E4):Cx :=
 { X with N:=N,s₀:=s,H₀:=H,env:=compEnvC scope (cR X.env scope.names []) C X.env,outer:=X.stack,ex:=fp,fn:=λ_=>false,pn:=[],xe:=λ_ _=>False }
theorem mn {k:NameKind} (h:(relabel scope env).names.lookup x=some k):∃k',scope.names.lookup x=some k'/\(k=k'\/(k'=.free/\k=.cell)):=by
 unfold relabel at h;generalize scope.names=ns at h
 induction ns with
 | nil=>simp at h
 | cons p r ih =>
 obtain⟨n,k0⟩:=p;rw[QH]at h;by_cases e:(x==n)=true
 ·refine⟨k0,by rw[Q5,e],?_⟩;by_cases c:(k0==NameKind.free&&env.scope.kind==.function&&env.kindOf n==some .cell)=true
  ·have h1:some NameKind.cell=some k:=by
    have h2:=h;simp only[c,if_true]at h2;rw[Q5,e]at h2;exact h2
   have h3:k0=.free:=by
    simp only[Xo,beq_iff_eq]at c;exact c.1.1
   exact .inr ⟨h3,(QN h1).symm⟩
  have h1:some k0=some k:=by
   have h2:=h;simp only[c,QW,if_false]at h2;rw[Q5,e]at h2;exact h2
  exact .inl (QN h1).symm
 have e2:(x==n)=false:=by simpa using e
 rw[Q5,e2];refine ih ?_;by_cases c:(k0==NameKind.free&&env.scope.kind==.function&&env.kindOf n==some .cell)=true
 ·have h2:=h;simp only[c,if_true]at h2;rw[Q5,e2]at h2;exact h2
 have h2:=h;simp only[c,QW,if_false]at h2;rw[Q5,e2]at h2;exact h2
theorem mo (h:scope.names.lookup x=some .free):(relabel scope env).names.lookup x=some .cell\/(relabel scope env).names.lookup x=some .free:=by
 unfold relabel;show List.lookup x (scope.names.map _)=_\/List.lookup x (scope.names.map _)=_;generalize scope.names=ns at h
 induction ns with
 | nil=>simp at h
 | cons p r ih =>
 obtain⟨n,k0⟩:=p;rw[QH];by_cases e:(x==n)=true
 ·rw[Q5,e]at h;have h':k0=.free:=by simpa using h
  subst h';by_cases c:(NameKind.free==NameKind.free&&env.scope.kind==.function&&env.kindOf n==some .cell)=true
  ·left
   simp only[c,if_true];rw[Q5,e]
  right
  simp only[c,QW,if_false];rw[Q5,e]
 have e2:(x==n)=false:=by simpa using e
 rw[Q5,e2]at h;have h3:=ih h;by_cases c:(k0==NameKind.free&&env.scope.kind==.function&&env.kindOf n==some .cell)=true
 ·simp only[c,if_true];rw[Q5,e2];exact h3
 simp only[c,QW,if_false];rw[Q5,e2];exact h3
def xj (X:Cx) (ifs:List Expr) (t:TT):Prop :=
 ∀(pins:E2) (s:Shared) (U:St) (H:Hp) (Q:Bool->Hp->Prop),Inv X pins U H s->t U H Q ->
  wpAny (model X.prog X.w) X.A (forIn ifs true λc r=>if r=true then do let ok <-isTrue c X.env (eval c X.env);pure (ForInStep.yield ok) else pure (ForInStep.yield r)) (TP X pins U Q) X.xe s
def gI:TT:=λ_ H Q=>Q true H
theorem gO {X:Cx}:xj X [] gI:=λ_ _ _ H _ I h=>wpAny_tests_nil ⟨H,I,h⟩
theorem oh {X:Cx} {c:Expr} {t:TT} (h:PT X c t):xj X [c] t:=λpins s U H Q I hw=>wpAny_tests_one (h pins s U H Q I hw)
variable {pos px:Pos}
theorem gZ {prog:Program} {w:World} {A:Around} {R:Result->Shared->Prop} {s:Shared} {elt target iter:Expr} {ifs:List Expr} {it acc:Value} (I:Nat->Shared->Prop)
  (turn:∀n s,I n s->wpAny (model prog w) A (pyNext it) (fun r s1=>match r with
   | none=>R (.ok .next) s1
   | some v=>wpAny (model prog w) A (letOwnedTupleGo target it v) (λ_ s2=>wpAny (model prog w) A (assign target env v) (λ_ s3 =>
     wpAny (model prog w) A (forIn ifs true λc r=>if r=true then do let ok <-isTrue c env (eval c env);pure (ForInStep.yield ok) else pure (ForInStep.yield r)) (λok s4 =>
      if ok=true then wpAny (model prog w) A (eval elt env) (λx s5 =>
       wpAny (model prog w) A (call (.builtin "list.append") [acc,x]) (λ_ s6=>∃m,m<n/\I m s6) (λ_ _=>False) s5) (λ_ _=>False) s4
      else ∃m,m<n/\I m s4) (λ_ _=>False) s3) (λ_ _=>False) s2) (λ_ _=>False) s1) (λ_ _=>False) s)
  (n:Nat) (h:I n s):codeAny (model prog w) A (.compLoop (.ListComp elt [⟨target,iter,ifs,0⟩] scope pos) 0 it acc env) R s:=by
 refine codeAny_loop rfl I (λn s hI=>?_) n h;show wpAny _ A ((compTurn (.ListComp elt [⟨target,iter,ifs,0⟩] scope pos) 0 it acc env).onRaise (λx=>do noteFrame x env;theTreesLotGoes x)) _ _ s;refine wpAny_noted ?_;rw[compTurn_list];have no:∀{E:E1},∀e s',(λ(_:Value) (_:Shared)=>False) e s'->E e s':=λ_ _ z=>False.elim z;refine Qb (wpAny_standAt (Qb (Q8 (turn n s hI) (λr s1 h1=>?_) no)))
 cases r with
 | none=>exact Qm h1
 | some v =>
 refine Qb (Q8 h1 (λ_ s2 h2=>?_) no);refine Qb (Q8 h2 (λ_ s3 h3=>Qb (Q8 h3 (λok s4 h4=>?_) no)) no)
 cases ok with
 | false=>exact Qm ⟨rfl,h4⟩
 | true =>
 exact Qb (Qb (Q8 h4 (λx s5 h5=>Qb (Q8 h5 (λ_ s6 h6=>Qm (Qm ⟨rfl,h6⟩)) no)) no))
def bR (tgs:List Str) (cap:List (Str × Nat)) (U:St):St:=tgs.map (λ_=>none)++cap.map λc=>(U[c.2]?).join
def jc (wi:TI) (g:TG) (tt:TT) (te:TE) (f:St->St):TE:=λU H Q=>wi U H λJ H1=>∀D,H1 D=none->∃W:Nat->Nat->Hp->List V->Prop,(∃m,W 0 m (upd H1 D (.lst [])) []) /\
 ∀i m H ys,W i m H ys->H D=some (.lst ys)/\((J.stop i H/\Q (.ref D) H)\/(J.go i H/\∀x H',J.yld i H x H'->g x (f U) H' λσ2 H2=>wk (f U) σ2/\tt σ2 H2 λb H3 =>
  if b=true then te σ2 H3 λv H4=>H4 D=some (.lst ys)/\ys.length<sizeLine/\∃m',m'<m/\W (i+1) m' (upd H4 D (.lst (ys++[v]))) (ys++[v])
  else ∃m',m'<m/\W (i+1) m' H3 ys))
structure BlockOk (X:Cx) (scope:Scope) (tgs:List Str) (cap:List (Str × Nat)):Prop where
 kind:scope.kind=.function
 nocell:(scope.names.all λy=>!(y.2==NameKind.cell))=true
 names:(scope.names.all λy=>!(y.2==NameKind.local) || (scope.names.lookup y.1==some .local))=true
 free:(scope.names.all λy=>!(y.2==NameKind.free) || (X.env.scope.names.lookup y.1==some .cell) || (X.env.scope.names.lookup y.1==some .free))=true
 caps:(cap.all λc=>decide (X.N[c.2]?=some c.1)&&(scope.names.lookup c.1==some .free)&&(decide (X.env.scope.names.lookup c.1=some .cell) || decide (X.env.scope.names.lookup c.1=some .free)))=true
 tgl:(tgs.all λx=>(scope.names.lookup x==some .local))=true
section
variable {X:Cx} {scope:Scope} {tgs:List Str} {cap:List (Str × Nat)}
theorem BlockOk.cellAt (B:BlockOk X scope tgs cap) (ok:X.Ok):∀y∈scope.names,y.2=.free->∃c,X.env.cells.lookup y.1=some c:=λy hy hk=>by
 have q:=Q2.mp B.free y hy;rw[hk]at q;refine ok.has y.1 ?_;simp only[beq_self_eq_true,Bool.not_true,Bool.false_or,Bool.or_eq_true,beq_iff_eq]at q;exact q
theorem BlockOk.noc (B:BlockOk X scope tgs cap):∀y∈scope.names,y.2≠.cell:=λy hy hk=>by
 have q:=Q2.mp B.nocell y hy;rw[hk]at q;simp at q
theorem BlockOk.locs (B:BlockOk X scope tgs cap):∀y∈scope.names,y.2=.local->scope.names.lookup y.1=some .local:=λy hy hk=>by
 have q:=Q2.mp B.names y hy;rw[hk]at q;simpa using q
variable {pins:E2}
theorem Inv.enter {U:St} {H:Hp} {s:Shared} {h1:Heap} {tk:Nat} {fp:E4} (B:BlockOk X scope tgs cap) (I:Inv X pins U H s) (hfp:∀b∈fp,gF X pins H b) (hlt:∀b∈fp,b<s.heap.objs.size)
  (hns:h1.Ns s.heap.objs.size (λ_=>none)) (old:∀b o,s.heap.get? b=some o->h1.get? b=some o) :
  Inv (X.block (tgs++cap.map (·.1)) scope s.heap.objs.size s H fp) [] (bR tgs cap U) H { s with heap:=h1,toks:=tk }:=by
 have cellsIn:∀x c,(cR X.env scope.names []).lookup x=some c->X.env.cells.lookup x=some c:=λx c e=>vR e (B.cellAt I.ok)
 have kindIn:∀x,((relabel scope X.env).names.lookup x=some .cell\/(relabel scope X.env).names.lookup x=some .free)->(x,NameKind.free)∈scope.names:=λx hx=>by
  have go:∀k,(relabel scope X.env).names.lookup x=some k->(k=.cell\/k=.free)->(x,NameKind.free)∈scope.names:=λk hk hc=>by
   obtain⟨k',e1,e2⟩:=mn hk;have m:=dJ e1;rcases e2 with e2|⟨e2,_⟩
   ·subst e2;rcases hc with z|z
    ·exact absurd z (B.noc _ m)
    subst z;exact m
   subst e2;exact m
  rcases hx with h|h
  ·exact go _ h (.inl rfl)
  exact go _ h (.inr rfl)
 have nocl:∀x c,X.env.cells.lookup x=some c->c≠s.heap.objs.size:=λx c e=>by
  obtain⟨v,q⟩:=I.cell x c e;exact QB q.lt
 refine⟨⟨I.ok.mod,?_,I.ok.glob,I.ok.blt,Qf _,λx y c e1 e2=>I.ok.inj x y c (cellsIn x c e1) (cellsIn y c e2),λx hx=>?_,λx c hf _=>absurd (show false=true from hf) Qk,I.ok.hd,I.ok.frames,.inl rfl,
  λb hb=>⟨QB (hlt b hb),λx c e=>?_⟩,I.bs,QZ I.ok.bsz I.sz,λb o e hb=>?_,λb hb hf=>?_,I.stack,I.stkFree⟩,
  rfl,I.bare,Un.kept old,⟨_,hns,λi x v h2 h3 h4=>?_⟩,λx c e=>?_,?_,λx c e=>I.freeC x c (cellsIn x c e),λp hp=>absurd (show p∈([]:E2) from hp) (by simp),I.hok.kept old,?_⟩
 ·exact B.kind
 ·exact rM (kindIn x hx)
 ·exact(hfp b hb).2.2.2.2.1 x c (cellsIn x c e)
 ·-- no object of the base is an iterator of ours
  rcases(hfp b hb).2.2.2.1 with z|z
  ·exact I.ok.noex b o e z
  have q:=I.ok.bs b o e;exact absurd (Qz (Qn q.1) z) (Nat.lt_irrefl _)
 ·have hf':b∈frs X.stack:=hf;rcases QV.mp (I.stkSub b hf') with z|z
  ·exact(hfp b hb).2.1 z
  exact(hfp b hb).2.2.1 z
 ·-- a name that is known: one of the captured ones
  have hi:tgs.length<=i:=by
   by_cases hl:i<tgs.length
   ·exfalso;unfold bR at h3;rw[QM (by simpa using hl),Qi]at h3
    cases e:tgs[i]? with
    | none=>rw[e]at h3;cases h3
    | some z=>rw[e]at h3;cases h3
   exact om2 hl
  unfold bR at h3;rw[QE (by simpa using hi),Qa,Qi]at h3;have h2':(tgs++cap.map (·.1))[i]?=some x:=h2;rw[QE hi,Qi]at h2'
  cases e:cap[i-tgs.length]? with
  | none=>rw[e]at h2';cases h2'
  | some c =>
  rw[e]at h2' h3;have hx:c.1=x:=by simpa using h2'
  have hv:(U[c.2]?).join=some v:=by simpa using h3
  have hm:c∈cap:=Qj e;have q:=Q2.mp B.caps c hm;simp only[Xo,decide_eq_true_eq,beq_iff_eq,Bool.or_eq_true]at q;obtain⟨⟨q1,q2⟩,q3⟩:=q
  have hσ:U[c.2]?=some (some v):=by
   cases z:U[c.2]? with
   | none=>rw[z]at hv;cases hv
   | some o =>
   rw[z]at hv;have:o=some v:=by simpa using hv
   rw[this]
  obtain⟨m,_,hl⟩:=I.loc
  obtain⟨u,r,l⟩:=hl c.2 c.1 v q1 hσ (by
   rcases q3 with z|z
   ·exact .inr (.inl z)
   exact .inr (.inr z))
  subst hx;refine⟨u,r,.inr ⟨mo q2,?_⟩⟩
  have nl:¬X.env.kindOf c.1=some .local:=λz=>by
   rcases q3 with y|y
   ·have:X.env.kindOf c.1=some .cell:=y;rw[this]at z;cases z
   have:X.env.kindOf c.1=some .free:=y;rw[this]at z;cases z
  rcases l with⟨l1,_⟩|⟨_,d,l2,l3⟩
  ·exact absurd l1 nl
  obtain⟨d',e'⟩:=rM (env:=X.env) (dJ q2);have:d=d':=QN (l2.symm.trans (cellsIn _ _ e'));subst this;obtain⟨oc,ho,hd⟩:=l3;exact⟨d,e',oc,old d oc ho,hd⟩
 ·obtain⟨v,oc,ho,hd⟩:=I.cell x c (cellsIn x c e);exact⟨v,oc,old c oc ho,hd⟩
 ·exact I.hok.fresh (Qf _)
 unfold bR;show _=(tgs++cap.map (·.1)).length;simp
theorem Inv.leave {U σ':St} {H H':Hp} {s s':Shared} {h2:Heap} {fp:E4} {N:List Str} (I:Inv X pins U H s) (hfp:∀b∈fp,gF X pins H b)
  (J:Inv (X.block N scope s.heap.objs.size s H fp) [] σ' H' s') (hs:Heap.SameBut s.heap.objs.size s'.heap h2):Inv X pins U H' { s' with heap:=h2 }:=by
 have u:Un (frs X.stack) fp H H' s.heap s'.heap:=J.base;have ne:∀b o,s.heap.get? b=some o->b≠s.heap.objs.size:=λb o e=>QB (Qn e);have hf:H' s.heap.objs.size=none:=J.free;have k:∀b o,b≠s.heap.objs.size->s'.heap.get? b=some o->h2.get? b=some o:=λb o hb e=>(hs.2 b hb).trans e
 have u2:Un (frs X.stack) fp H H' s.heap h2 :=
  ⟨λb o e n h1 h3=>k b o (ne b o e) (u.keep b o e n h1 h3),λb o e n h1 h3=>let ⟨sl,q⟩:=u.slot b o e n h1 h3;⟨sl,k b _ (ne b o e) q⟩,u.free,λb o e h3=>let ⟨o',q⟩:=u.there b o e h3;⟨o',k b o' (ne b o e) q⟩,u.tups,u.frzs,u.tbls⟩
 have hok:HOk X.prog X.w H' h2:=λb ob e=>(J.hok b ob e).stay (λc v hc q=>k c v (by
  rcases hc with z|z
  ·subst z;intro y;rw[y,hf]at e;cases e
  intro y
  rw[y,hf]at z;cases z) q) (λ_ q=>q) λ_ _ q=>q
 exact Inv.call' I (s':={ s' with heap:=h2 }) J.os u2 hok J.bare λb hb=>by
  obtain⟨f0,f1,f2,f3,f4,f5⟩:=hfp b hb;exact⟨f3,f1,f4,f5⟩
theorem qX {elt tg iter:Expr} {ifs:List Expr} {pos:Pos} {wi:TI} {g:TG} {tt:TT} {te:TE} (hc:X.calm=true) (B:BlockOk X scope tgs cap) (hi:PI X tg iter wi)
  (hg:∀C s H fp,PG (X.block (tgs++cap.map (·.1)) scope C s H fp) tg g) (ht:∀C s H fp,xj (X.block (tgs++cap.map (·.1)) scope C s H fp) ifs tt) (he:∀C s H fp,PE (X.block (tgs++cap.map (·.1)) scope C s H fp) elt te)
  (hs:∀x,foldedSetIterable iter X.env x=pure x:=by intro _;rfl):PE X (.ListComp elt [⟨tg,iter,ifs,0⟩] scope pos) (jc wi g tt te (bR tgs cap)):=by
 intro pins s U H Q I h;rw[eval_ListComp];refine wpAny_comprehension_free (use:=none) rfl hs (jU (B.cellAt I.ok)) B.kind B.locs (thn (hi pins s U H _ I h) λv s1 h1=>thn h1 λitv s2 h2=>?_);obtain⟨it,fp,tn,J,H2,e,I2,T,st2,f2,q⟩:=h2;subst e;have lt2:∀b∈fp,b<s2.heap.objs.size:=λb hb=>let ⟨o,e,_⟩:=T.obj _ _ st2 b hb;Qn e;have hD:H2 s2.heap.objs.size=none:=I2.hok.fresh (Qf _);obtain⟨W,⟨m0,w0⟩,turn⟩:=q s2.heap.objs.size hD;refine wpAny_newObj_type ?_;have I3:Inv X pins U (upd H2 s2.heap.objs.size (.lst [])) { s2 with heap:=s2.heap.push { cls:=.type "list", dict:=none,data:=.seq ([]:List Value).toArray } }:=I2.lnew (t':=s2.toks) (ys:=[]) (its:=[]) .nil (QQ _);have st3:tn 0 (s2.heap.push { cls:=.type "list", dict:=none,data:=.seq ([]:List Value).toArray }):=T.keep _ _ _ st2 λb _ o e=>Qc _ e;have nD:∀b∈fp,b≠s2.heap.objs.size:=λb hb=>QB (lt2 b hb);have f3:∀b∈fp,gF X pins (upd H2 s2.heap.objs.size (.lst [])) b:=λb hb=>⟨by rw[aj (nD b hb)];exact(f2 b hb).1,(f2 b hb).2⟩;generalize hs3:({ s2 with heap:=s2.heap.push { cls:=.type "list", dict:=none,data:=.seq ([]:List Value).toArray } }:Shared)=s3 at I3 st3 ⊢;have st3':tn 0 s3.heap:=by rw[<-hs3];exact st3
 have lt3:∀b∈fp,b<s3.heap.objs.size:=λb hb=>let ⟨o,e,_⟩:=T.obj _ _ st3' b hb;Qn e;generalize hH3:upd H2 s2.heap.objs.size (.lst [])=H3 at I3 f3 w0;generalize s2.heap.objs.size=D at *;refine wpAny_newFunctionEnv B.noc (by intro y hy;simp at hy) (λh1 hns hsb=>?_) B.kind;have old:∀b o,s3.heap.get? b=some o->h1.get? b=some o:=λb o e=>hsb.extBut b o (QB (Qn e)) (Qc _ e);have I4:=Inv.enter (tk:=s3.toks+([]:List (Str × Value)).length) (h1:=h1) B I3 f3 lt3 hns old;have st4:tn 0 h1:=T.keep _ _ _ st3' λb _ o e=>old b o e
 have fpB:∀{H':Hp},(∀b∈fp,H' b=none)->∀b∈fp,gF (X.block (tgs++cap.map (·.1)) scope s3.heap.objs.size s3 H3 fp) [] H' b:=λ{H'} hn b hb =>
  ⟨hn b hb,QB (lt3 b hb),I4.ok.exfs b hb,.inl hb,λx c e=>(I4.ok.exf b hb).2 x c e,λp hp=>absurd (show p∈([]:E2) from hp) (by simp)⟩
 have loop:codeAny (model X.prog X.w) X.A (.compLoop (.ListComp elt [⟨tg,iter,ifs,0⟩] scope pos) 0 (.ref it) (.ref D) (compEnvC scope (cR X.env scope.names []) s3.heap.objs.size X.env))
   (compPost (model X.prog X.w) X.A X.xe none (EP X pins U Q) (.ref D) s3.heap.objs.size) { s3 with heap:=h1,toks:=s3.toks+([]:List (Str × Value)).length }:=by
  refine gZ (λn s'=>∃i H' ys,Inv (X.block (tgs++cap.map (·.1)) scope s3.heap.objs.size s3 H3 fp) [] (bR tgs cap U) H' s'/\tn i s'.heap/\(∀b∈fp,H' b=none)/\W i n H' ys) ?_ m0 ⟨0,H3,[],I4,st4,λb hb=>(f3 b hb).1,w0⟩;rintro n s5 ⟨i,H5,ys,I5,st5,fr5,w5⟩;obtain⟨hl,ht5⟩:=turn i n H5 ys w5;rcases ht5 with⟨stop,qd⟩|⟨go,step⟩
  ·refine thn (T.done (X.block (tgs++cap.map (·.1)) scope s3.heap.objs.size s3 H3 fp) rfl rfl rfl hc i [] s5 _ H5 _ I5 (fpB fr5) st5 stop) λr s6 ⟨hr,I6⟩=>?_;subst hr;obtain⟨m6,n6,_⟩:=I6.loc;exact⟨m6,n6,λh' hs'=>⟨.ref D,H5,Inv.leave I3 f3 I6 hs',rfl,qd⟩⟩
  refine thn (T.item (X.block (tgs++cap.map (·.1)) scope s3.heap.objs.size s3 H3 fp) rfl rfl rfl hc i [] s5 _ H5 _ I5 (fpB fr5) st5 go) λr s6 ⟨u,hr,h6⟩=>?_;subst hr;refine thn h6 λ_ s7 ⟨x,H7,I7,r7,y7,st7,fr7⟩=>?_;have I7':=I7.pinned (fpB fr7) (T.obj _ _ st7)
  have again:∀{σ8:St} {H8:Hp} {s8:Shared} {ys8:List V},Inv (X.block (tgs++cap.map (·.1)) scope s3.heap.objs.size s3 H3 fp) ([]++ik fp s7.heap) σ8 H8 s8->wk (bR tgs cap U) σ8->(∃m',m'<n/\W (i+1) m' H8 ys8) ->
    ∃m,m<n/\∃i H' ys,Inv (X.block (tgs++cap.map (·.1)) scope s3.heap.objs.size s3 H3 fp) [] (bR tgs cap U) H' s8/\tn i s8.heap/\(∀b∈fp,H' b=none)/\W i m H' ys:=λ{σ8 H8 s8 ys8} I8 k8 ⟨m',hm,w8⟩=>by
   refine⟨m',hm,i+1,H8,ys8,I8.unpinned.weak (lR k8) (lS k8),T.keep _ _ _ st7 λb hb o e=>(I8.pin (b,o) (QL _ (QL _ (cS hb e)))).1,λb hb=>?_,w8⟩;obtain⟨o,e,d⟩:=T.obj _ _ st7 b hb;exact(I8.pin (b,o) (QL _ (QL _ (cS hb e)))).2.1
  refine thn (hg _ _ _ _ _ s7 _ H7 x u _ I7' r7 (step x H7 y7)) λ_ s8 ⟨σ8,H8,I8,k8,q8⟩=>?_;refine thn (ht _ _ _ _ _ s8 σ8 H8 _ I8 q8) λok s9 ⟨H9,I9,q9⟩=>?_
  cases ok with
  | false =>
   rw[QA Qk]at q9 ⊢;exact again I9 k8 q9
  | true =>
  rw[QJ rfl]at q9 ⊢;refine thn (he _ _ _ _ _ s9 σ8 H9 _ I9 q9) λy sA ⟨yv,HA,IA,rA,hA,zA,qA⟩=>?_;exact thn (bu _ sA σ8 HA (.ref D) [yv] (.ref D) [y] (λv H'=>v=.non/\∃m',m'<n/\W (i+1) m' H' (ys++[yv])) IA rfl (.cons rA .nil) ⟨D,ys,yv,rfl,rfl,hA,zA,rfl,qA⟩) λ_ sB ⟨_,HB,IB,_,_,qB⟩=>again IB k8 qB
 exact codeAny_compStart_list loop (T.self _ 0 _ _ _ st4 loop)
theorem f9 {X:Cx} {scope:Scope} {elt iter:Expr} {p pos:Pos} {wi:TI} {te:TE} (x:Str) (cap:List (Str × Nat)) (hi:PI X (.Name x p) iter wi) (he:∀C s H fp,PE (X.block ([x]++cap.map (·.1)) scope C s H fp) elt te) (hc:X.calm=true:=by rfl) (B:BlockOk X scope [x] cap:=by exact⟨rfl,rfl,rfl,rfl,rfl,rfl⟩) (hN:([x]++cap.map (·.1)).Nodup:=by decide +kernel) (hg:([x]++cap.map (·.1)).Nodup->∀C s H fp,PG (X.block ([x]++cap.map (·.1)) scope C s H fp) (.Name x p) (dU 0):=by intro h _ _ _ _;exact di (i:=0) h rfl (by z_go)) (hs:∀x,foldedSetIterable iter X.env x=pure x:=by intro _;rfl):PE X (.ListComp elt [⟨.Name x p,iter,[],0⟩] scope pos) (jc wi (dU 0) gI te (bR [x] cap)):=qX hc B hi (hg hN) (λ_ _ _ _=>gO) he hs
end
def Itf (n:Nat) (f:Nat->V):It:=⟨λi _=>i<n,λi H x H'=>H'=H/\x=f i,λi _=>i=n⟩
variable {n i:Nat}
theorem jb {P:Program} {w:World} {K:PySem.W.Frag} {f:Nat->V} {Pv:Nat->Value->Prop} {St:Nat->Heap->Prop}
  (W:∀A:Around,A.handled=none->Walks P w A it [it] [it] n Pv St) (hP:∀i v,Pv i v->aX (f i) v) (hobj:∀i h,St i h->∃o,h.get? it=some o/\∀v,o.data≠.cell v)
  (hfr:∀i h h',St i h->(∀o,h.get? it=some o->h'.get? it=some o)->St i h')
  (hself:∀(A:Around) (i:Nat) (s:Shared) (Q:E1) (E:E1),St i s.heap->Q (.ref it) s->wpAny (model P w) A (pyIter (.ref it)) Q E s) :
  Turn P w K (.Name x px) (Itf n f) [it] it St where
 mem:=by simp
 obj:=λi h st b hb=>by
  have e:b=it:=by simpa using hb
  subst e;exact hobj i h st
 keep:=λi h h' st k=>hfr i h h' st λo e=>k it (by simp) o e
 item:=by
  intro X hP' hw hK hc i pins s U H E I hf st hg;subst hP' hw hK;obtain⟨f0,f1,f2,f3,f4,f5⟩:=hf it (by simp);refine(W X.A (I.ok.hd hc)).item i s _ _ hg st λv h' tk hv st' kk=>?_;have I1:Inv X pins U H { s with heap:=h',toks:=tk }:=I.turned (λb o hb e=>kk b o (by simpa using hb) e) f0 f1 f3 f4 f5;refine⟨v,rfl,wpAny_of_eq (a:=()) (by rfl) ⟨f i,H,I1,hP i v hv,⟨rfl,rfl⟩,st',λb hb=>(hf b hb).1⟩⟩
 done:=by
  intro X hP' hw hK hc i pins s U H E I hf st hg;subst hP' hw hK;obtain⟨f0,f1,f2,f3,f4,f5⟩:=hf it (by simp);have e:i=n:=hg;subst e;exact(W X.A (I.ok.hd hc)).done s _ _ st λh' tk kk=>⟨rfl,I.turned (λb o hb e=>kk b o (by simpa using hb) e) f0 f1 f3 f4 f5⟩
 self:=λA i s Q E st h=>hself A i s Q E st h
def fg (z:Str) (i:Nat):V:=.str ⟨#[z.cps.getD i 0]⟩
theorem jj {v:Value} (h:SignAt z i v):aX (fg z i) v:=by
 obtain⟨c,u,h1,h2⟩:=h;subst h2;refine⟨u,?_⟩;have:z.cps.getD i 0=c:=by rw[Array.getD_eq_getD_getElem?,h1];rfl
 rw[this]
theorem tW {P:Program} {w:World} {K:PySem.W.Frag} {t:Tok} {ty:String} (hty:ty = "str_ascii_iterator" \/ ty = "str_iterator") :
  Turn P w K (.Name x px) (Itf z.cps.size (fg z)) [it] it (λi h=>h.IsStrIter it ty z t i):=by
 rcases hty with e|e
 ·subst e
  exact jb (λA hA=>Walks.strAscii hA it z t) (λi v h=>jj h) (λi h st=>let ⟨o,e,_,d⟩:=st;⟨o,e,λv q=>by rw[d]at q;cases q⟩)
   (λi h h' st k=>let ⟨o,e,r⟩:=st;⟨o,k o e,r⟩) λA i s Q E st q=>wpAny_pyIter_striter_ascii st q
 subst e
 exact jb (λA hA=>Walks.strWide hA it z t) (λi v h=>jj h) (λi h st=>let ⟨o,e,_,d⟩:=st;⟨o,e,λv q=>by rw[d]at q;cases q⟩)
  (λi h h' st k=>let ⟨o,e,r⟩:=st;⟨o,k o e,r⟩) λA i s Q E st q=>wpAny_pyIter_striter_wide st q
section
variable {X:Cx} {x:Str} {px:Pos}
def Dm (tl:TE):TI:=λU H R=>tl U H λv H1=>∃z:Str,v=.str z/\R (Itf z.cps.size (fg z)) H1
theorem uv {l:Expr} {tl:TE} (hl:PE X l tl):PI X (.Name x px) l (Dm tl):=by
 intro pins s U H R I h;refine thn (hl pins s U H _ I h) λv s1 ⟨y,H1,I1,r1,q1⟩=>?_;obtain⟨z,e,q⟩:=q1;subst e;obtain⟨t,e⟩:=r1;subst e
 have fin:∀ty:String,(ty = "str_ascii_iterator" \/ ty = "str_iterator")->PIE X pins U (.Name x px) R (.ref s1.heap.objs.size) { s1 with heap:=s1.heap.push { cls:=.type ty,data:=.fields #[.str z t,.int 0 0] } }:=λty hty=>by
  refine⟨s1.heap.objs.size,[s1.heap.objs.size],_,_,H1,rfl,I1.kept (t':=s1.toks) λb o e=>Qc _ e,tW (t:=t) hty,⟨_,Qu _ rfl,rfl,rfl⟩,λb hb=>?_,q⟩;have e:b=s1.heap.objs.size:=by simpa using hb
  subst e;exact I1.fpOk (Qf _) (I1.hok.fresh (Qf _))
 cases ha:z.cps.all (·<128) with
 | false=>exact wpAny_pyIter_wide ha (fin _ (.inr rfl))
 | true=>exact wpAny_pyIter_ascii ha (fin _ (.inl rfl))
end
section
variable {X:Cx}
def Az:V->Option Int->Option Int->Hp->VK->Prop:=λx lo hi H Q=>∃z:Str,x=.str z/\z.length<=sizeLine/\Q (.str (Txt.slice z lo hi)) H
theorem dE:SlR X Az:=by
 intro pins s U H x v vl vu lo hi sl Q I rx hs pl pu h;obtain⟨z,e,hz,q⟩:=h;subst e;obtain⟨t,e⟩:=rx;subst e;refine⟨"str", _,F.slot_str_getitem.lookup,typeIs_str _ _ _,?_⟩;have fin:∀(t':Tok) (k:Nat),EP X pins U Q (.str (Txt.slice z lo hi) t') { s with toks:=k }:=λt' k=>⟨.str _,H,I.tok k,⟨t',rfl⟩,q⟩
 cases pl with
 | none =>
  cases pu with
  | none=>exact wpAny_getItem_str_slice (l:=none) (u:=none) (st:=none) hs rfl (post_val_or_str ⟨QZ (Txt.slice_le z _ _) hz,fin⟩)
  | int j uj=>exact wpAny_getItem_str_slice (l:=none) (u:=some (j,uj)) (st:=none) hs rfl (post_val_or_str ⟨QZ (Txt.slice_le z _ _) hz,fin⟩)
 | int i ui =>
 cases pu with
 | none=>exact wpAny_getItem_str_slice (l:=some (i,ui)) (u:=none) (st:=none) hs rfl (post_val_or_str ⟨QZ (Txt.slice_le z _ _) hz,fin⟩)
 | int j uj=>exact wpAny_getItem_str_slice (l:=some (i,ui)) (u:=some (j,uj)) (st:=none) hs rfl (post_val_or_str ⟨QZ (Txt.slice_le z _ _) hz,fin⟩)
theorem gi:∀{ys:List Str} {us:List Value},be (ys.map V.str) us->StrsAre us ys
 | [],_,r=>by
  rw[List.map_nil]at r;cases r;exact .nil
 | y::ys,_,r=>by
  rw[QH]at r
  cases r with
  | cons r1 r2 =>
  obtain⟨t,e⟩:=r1;subst e;exact .cons y t (gi r2)
def AB (K:PySem.W.Frag):V->List V->Hp->VK->Prop:=λx vs H Q=>∃(z:Str) (l:Addr) (ys:List Str),x=.str z/\vs=[.ref l]/\SqL K H l (ys.map V.str)/\(ys.map (·.length)).sum+ys.length*z.length<=16777216/\Q (.str (Txt.join z ys)) H
theorem rf:MtR X "str.join" (AB X.K):=by
 intro pins s U H x vs v us Q I rx rv h;obtain⟨z,l,ys,e1,e2,hl,hz,q⟩:=h;subst e1 e2;obtain⟨t,e⟩:=rx;subst e;obtain⟨u,e,ru⟩:=rv.one;subst e;cases ru;obtain⟨its,r,pl,_⟩:=I.list hl;exact join_list pl.isList (by simpa using gi r) hz λt' k=>⟨.str _,H,I.tok k,⟨t',rfl⟩,q⟩
theorem ly (ys:List Str):(Txt.join Str.empty ys).cps.toList=(ys.map (·.cps.toList)).flatten:=by
 unfold Txt.join;rw[PySem.StrLaws.glued_eq_join]
 induction ys with
 | nil=>rfl
 | cons y r ih =>
 cases r with
 | nil=>simp[Str.join]
 | cons y2 r2 =>
 show (y++Str.empty++Str.join Str.empty (y2::r2)).cps.toList=_;rw[QH,List.flatten_cons,<-ih];show (y.cps++Str.empty.cps++(Str.join Str.empty (y2::r2)).cps).toList=_;simp[Str.empty]
end
inductive EqD (K:PySem.W.Frag) (H:Hp):Nat->V->V->Bool->Prop
 | flat {n:Nat} {x y:V}:cQ x=true->cQ y=true->EqD K H n x y (eqV x y)
 | same {n:Nat} {a:Addr}:EqD K H n (.ref a) (.ref a) true
 | lists {n:Nat} {a b:Addr} {xs ys:List V} {e:Nat->Bool}:SqL K H a xs->SqL K H b ys->xs.length=ys.length->(∀(j:Nat) x y,xs[j]?=some x->ys[j]?=some y->EqD K H n x y (e j))->a≠b ->
   EqD K H (n+1) (.ref a) (.ref b) ((List.range xs.length).all e)
 | tups {n:Nat} {a b:Addr} {xs ys:List V} {e:Nat->Bool}:SqT K H a xs->SqT K H b ys->(∀(j:Nat) x y,xs[j]?=some x->ys[j]?=some y->EqD K H n x y (e j))->a≠b ->
   EqD K H (n+1) (.ref a) (.ref b) ((List.range (min xs.length ys.length)).all e&&xs.length==ys.length)
theorem EqD.at {X:Cx} {pins:E2} {U:St} {H:Hp} {s:Shared} (I:Inv X pins U H s) {n:Nat} {x y:V} {b:Bool} (h:EqD X.K H n x y b) :
  ∀{A:Around} {u v:Value},A.units+n<cLine->aX x u->aX y v->SeqAt.EqAt A s u v b:=by
 induction h with
 | flat fx fy=>intro A u v _ rx ry;exact vH rx ry fx fy
 | same =>
  intro A u v _ rx ry;cases rx;cases ry;exact SeqAt.EqAt.same _
 | @lists n a c xs ys e ha hb hl hi hne ih =>
  intro A u v hu rx ry;cases rx;cases ry;obtain⟨its,r1,p1,_⟩:=I.list ha;obtain⟨its2,r2,p2,_⟩:=I.list hb;have l1:=r1.length;have l2:=r2.length;refine SeqAt.EqAt.of_refs hne ?_
  have q:=SeqAt.RcAt.lists (A:=A) (e:=e) p1.isList p2.isList (by rw[Qh,Qh];exact om7 hl l1 l2) (by exact om8 hu) λj h1 h2=>by
   rw[Qh]at h1 h2;have e1:xs[j]?=some xs[j]:=Qd (by exact om9 hl l1 l2 h1);have e2:ys[j]?=some ys[j]:=Qd (by exact Ey hl l1 l2 h1);obtain⟨w1,g1,rr1⟩:=r1.get e1;obtain⟨w2,g2,rr2⟩:=r2.get e2
   have g1':its.toArray[j]=w1:=by
    have:=(Qe.mp g1).2;simpa using this
   have g2':its2.toArray[j]=w2:=by
    have:=(Qe.mp g2).2;simpa using this
   rw[g1',g2'];exact ih j _ _ e1 e2 (by show A.units+1+n<cLine;exact C5 hu) rr1 rr2
  rw[Qh,<-l1]at q;exact q
 | @tups n a c xs ys e ha hb hi hne ih =>
 intro A u v hu rx ry;cases rx;cases ry;obtain⟨its,r1,p1,_⟩:=I.tuple ha;obtain⟨its2,r2,p2,_⟩:=I.tuple hb;have l1:=r1.length;have l2:=r2.length;refine SeqAt.EqAt.of_refs hne ?_
 have q:=SeqAt.RcAt.tuples (A:=A) (e:=e) (show s.heap.IsTuple a its.toArray from p1) (show s.heap.IsTuple c its2.toArray from p2) (by exact om8 hu) λj h1 h2=>by
  rw[Qh]at h1 h2;have e1:xs[j]?=some xs[j]:=Qd (by exact zn l1 h1);have e2:ys[j]?=some ys[j]:=Qd (by exact zn l2 h2);obtain⟨w1,g1,rr1⟩:=r1.get e1;obtain⟨w2,g2,rr2⟩:=r2.get e2
  have g1':its.toArray[j]=w1:=by
   have:=(Qe.mp g1).2;simpa using this
  have g2':its2.toArray[j]=w2:=by
   have:=(Qe.mp g2).2;simpa using this
  rw[g1',g2'];exact ih j _ _ e1 e2 (by show A.units+1+n<cLine;exact C5 hu) rr1 rr2
 rw[Qh,Qh,<-l1,<-l2]at q;exact q
section
variable {X:Cx}
theorem EqD.items {pins:E2} {U:St} {H:Hp} {s:Shared} (I:Inv X pins U H s) {n:Nat} {A:Around} (hu:A.units+1+n<cLine) {xs ys:List V} {its its2:List Value} (r1:be xs its) (r2:be ys its2) {e:Nat->Bool}
  (h:∀(j:Nat) x y,xs[j]?=some x->ys[j]?=some y->EqD X.K H n x y (e j)) (j:Nat) (h1:j<its.toArray.size) (h2:j<its2.toArray.size):SeqAt.EqAt A.in1 s its.toArray[j] its2.toArray[j] (e j):=by
 have l1:=r1.length;have l2:=r2.length;rw[Qh]at h1 h2;have e1:xs[j]?=some xs[j]:=Qd (by exact CL h1 l1);have e2:ys[j]?=some ys[j]:=Qd (by exact CL h2 l2);obtain⟨w1,g1,rr1⟩:=r1.get e1;obtain⟨w2,g2,rr2⟩:=r2.get e2
 have g1':its.toArray[j]=w1:=by
  have:=(Qe.mp g1).2;simpa using this
 have g2':its2.toArray[j]=w2:=by
  have:=(Qe.mp g2).2;simpa using this
 rw[g1',g2'];exact EqD.at I (h j _ _ e1 e2) (by show A.units+1+n<cLine;exact hu) rr1 rr2
def sj (K:PySem.W.Frag) (neg:Bool):R2:=λx y H Q=>∃a b xs ys e,x=.ref a/\y=.ref b/\SqL K H a xs/\SqL K H b ys/\(∀(j:Nat) x y,xs[j]?=some x->ys[j]?=some y->EqD K H 8 x y (e j)) /\
 Q (.bl (if neg then !(xs.length==ys.length&&(List.range xs.length).all e) else (xs.length==ys.length&&(List.range xs.length).all e))) H
def wg (K:PySem.W.Frag) (neg:Bool):R2:=λx y H Q=>∃a b xs ys e,x=.ref a/\y=.ref b/\SqT K H a xs/\SqT K H b ys/\(∀(j:Nat) x y,xs[j]?=some x->ys[j]?=some y->EqD K H 8 x y (e j)) /\
 Q (.bl (if neg then !((List.range (min xs.length ys.length)).all e&&xs.length==ys.length) else ((List.range (min xs.length ys.length)).all e&&xs.length==ys.length))) H
theorem pF (hu:X.A.units+64<cLine):OpR X (compareOp .Eq) (sj X.K false):=by
 intro pins s U H x y v u Q I rx ry h;obtain⟨a,b,xs,ys,e,e1,e2,ha,hb,hi,q⟩:=h;subst e1 e2;cases rx;cases ry;obtain⟨its,r1,p1,_⟩:=I.list ha;obtain⟨its2,r2,p2,_⟩:=I.list hb;have l1:=r1.length;have l2:=r2.length;by_cases hl:xs.length=ys.length
 ·refine SeqAt.eq_listAt (e:=e) p1.isList p2.isList (by rw[Qh,Qh];exact Cy l1 l2 hl) (by exact sF hu) (EqD.items I (by exact wA hu) r1 r2 hi) ⟨.bl _,H,I,rfl,?_⟩;rw[Qh,<-l1];have:(xs.length==ys.length)=true:=by simpa using hl
  rw[this]at q;exact q
 refine SeqAt.eq_list_lengthsAt p1.isList p2.isList (by rw[Qh,Qh,<-l1,<-l2];simpa using hl) (by exact sF hu) ⟨.bl _,H,I,rfl,?_⟩;have:(xs.length==ys.length)=false:=by simpa using hl
 rw[this]at q;exact q
theorem uG (hu:X.A.units+64<cLine):OpR X (compareOp .NotEq) (sj X.K true):=by
 intro pins s U H x y v u Q I rx ry h;obtain⟨a,b,xs,ys,e,e1,e2,ha,hb,hi,q⟩:=h;subst e1 e2;cases rx;cases ry;obtain⟨its,r1,p1,_⟩:=I.list ha;obtain⟨its2,r2,p2,_⟩:=I.list hb;have l1:=r1.length;have l2:=r2.length;by_cases hl:xs.length=ys.length
 ·refine SeqAt.RcNeAt.lists (e:=e) p1.isList p2.isList (by rw[Qh,Qh];exact Cy l1 l2 hl) (by exact sF hu) (EqD.items I (by exact wA hu) r1 r2 hi) _ _ _ _ ⟨.bl _,H,I,rfl,?_⟩;rw[Qh,<-l1];have:(xs.length==ys.length)=true:=by simpa using hl
  rw[this]at q;exact q
 refine SeqAt.RcNeAt.lists_lengths p1.isList p2.isList (by rw[Qh,Qh,<-l1,<-l2];simpa using hl) (by exact sF hu) _ _ _ _ ⟨.bl _,H,I,rfl,?_⟩;have:(xs.length==ys.length)=false:=by simpa using hl
 rw[this]at q;exact q
theorem y9 (hu:X.A.units+64<cLine):OpR X (compareOp .Eq) (wg X.K false):=by
 intro pins s U H x y v u Q I rx ry h;obtain⟨a,b,xs,ys,e,e1,e2,ha,hb,hi,q⟩:=h;subst e1 e2;cases rx;cases ry;obtain⟨its,r1,p1,_⟩:=I.tuple ha;obtain⟨its2,r2,p2,_⟩:=I.tuple hb;have l1:=r1.length;have l2:=r2.length;refine SeqAt.eq_tupleAt (e:=e) (show s.heap.IsTuple a its.toArray from p1) (show s.heap.IsTuple b its2.toArray from p2) (by exact sF hu) (EqD.items I (by exact wA hu) r1 r2 hi) ⟨.bl _,H,I,rfl,?_⟩;rw[Qh,Qh,<-l1,<-l2];exact q
theorem y8 (hu:X.A.units+64<cLine):OpR X (compareOp .NotEq) (wg X.K true):=by
 intro pins s U H x y v u Q I rx ry h;obtain⟨a,b,xs,ys,e,e1,e2,ha,hb,hi,q⟩:=h;subst e1 e2;cases rx;cases ry;obtain⟨its,r1,p1,_⟩:=I.tuple ha;obtain⟨its2,r2,p2,_⟩:=I.tuple hb;have l1:=r1.length;have l2:=r2.length;refine SeqAt.RcNeAt.tuples (e:=e) (show s.heap.IsTuple a its.toArray from p1) (show s.heap.IsTuple b its2.toArray from p2) (by exact sF hu) (EqD.items I (by exact wA hu) r1 r2 hi) _ _ _ _ ⟨.bl _,H,I,rfl,?_⟩;rw[Qh,Qh,<-l1,<-l2];exact q
end
section
variable {X:Cx}
theorem fD:cZ X (.builtin "isinstance") (λxs H Q=>∃x T ty b,xs=[x,.ty T]/\TyOf X.K H x ty/\PySem.W.kitOne X.K ty (.type T)=some b/\Q (.bl b) H):=by
 intro pins s U H xs us Q I r h;obtain⟨x,T,ty,b,e,t,k,q⟩:=h;subst e;obtain⟨u1,u2,e,r1,r2⟩:=nv r;subst e;cases r2;exact tf I r1 t k λtk=>⟨.bl b,H,I.tok tk,rfl,q⟩
theorem oE {K:PySem.W.Frag} (T:String):PySem.W.kitOne K (.type T) (.type T)=some true:=by
 unfold PySem.W.kitOne;rw[QJ (by simp)]
theorem tM (bs:List Bool):(List.range bs.length).all (λi=>bs.getD i false)=bs.all id:=by
 rw[Bool.eq_iff_iff];simp only[Q2,List.mem_range]
 constructor
 ·intro h x hx;obtain⟨i,hi,e⟩:=Qq.mp hx;have q:=h i hi;rw[QR,Qd hi,Option.getD_some,e]at q;exact q
 intro h i hi;rw[QR,Qd hi,Option.getD_some];exact h _ (Xr hi)
theorem oS (hc:X.calm=true):cZ X (.builtin "all") (λxs H Q=>∃(l:Addr) (bs:List Bool),xs=[.ref l]/\SqL X.K H l (bs.map V.bl)/\Q (.bl (bs.all id)) H):=by
 intro pins s U H xs us Q I r h;obtain⟨l,bs,e,hl,q⟩:=h;subst e;obtain⟨u,e,ru⟩:=d6 r;subst e;cases ru;obtain⟨its,rv,pl,hz⟩:=I.list hl;have hlen:=rv.length;rw[Qa]at hlen
 have ne:l≠s.heap.objs.size:=by
  obtain⟨o,ho,_⟩:=pl.isList;exact QB (Qn ho)
 refine call_all_walk (wpAny_pyIter_list pl.isList ?_);refine⟨s.heap.objs.size,_,_,_,_,_,(λi=>bs.getD i false),rfl,Walks.list (show X.A.in1.handled=none from I.ok.hd hc) s.heap.objs.size l ne its.toArray,⟨⟨_,Qu _ rfl,rfl,rfl⟩,pl.isList.push _⟩,?_,λh' tk hk=>?_⟩
 ·intro i v s' Q' E' hP hQ;have hP':its[i]?=some v:=by simpa using hP
  have hi:i<bs.length:=by
   have:=(Qe.mp hP').1;exact zn hlen this
  have e1:(bs.map V.bl)[i]?=some (.bl (bs.getD i false)):=by
   rw[Qi,Qd hi,QR,Qd hi];rfl
  obtain⟨u,hu,ru⟩:=rv.get e1;rw[hP']at hu;cases hu;cases ru;exact wpAny_truthy_bool hQ
 have hs:its.toArray.size=bs.length:=by rw[Qh];exact hlen.symm
 rw[hs,tM]
 exact⟨.bl _,H,I.kept λb o e=>hk b o (by
  have:=Qn e;simp only[QI]
  exact QB this) (Qc _ e),rfl,q⟩
abbrev qD (K:PySem.W.Frag) (T:Addr) (D:List (Str × KTD.Dat)):Prop:=KTD.tabLook (KTD.datLooks λa=>K.lookup a) (λa=>K.lookup a) T D=true
theorem lm {T:Addr} {D:List (Str × KTD.Dat)} (hT:qD X.K T D):OpR X (compareOp .In) (λx y H Q=>∃z,x=.str z/\y=.ref T/\Q (.bl (KTD.inKeys z D)) H):=by
 intro pins s U H x y v u Q I rx ry h;obtain⟨z,e1,e2,q⟩:=h;subst e1 e2;obtain⟨t,e⟩:=rx;subst e;cases ry;exact KTD.in_text (h₀:=X.base) ⟨KTD.text_of_look (get:=λa=>X.K.lookup a) (λa o e=>I.mod.kin a o e) hT,I.bk⟩ ⟨.bl _,H,I.tok _,rfl,q⟩
theorem jx:OpR X (binaryOp .Mult) (λx y H Q=>∃z n,x=.str z/\y=.int n/\MulOk z n/\Q (.str (Txt.mul z n)) H):=by
 intro pins s U H x y v u Q I rx ry h;obtain⟨z,n,e1,e2,hm,q⟩:=h;subst e1 e2;obtain⟨t,e⟩:=rx;subst e;obtain⟨t',e⟩:=ry;subst e;exact SB.mul hm λt' k=>⟨.str _,H,I.tok k,⟨t',rfl⟩,q⟩
theorem kP:cZ X (.type "int") (λxs H Q=>∃z n,xs=[.str z]/\PySem.intText? z=some n/\z.length<=640/\Q (.int n) H):=by
 intro pins s U H xs us Q I r h;obtain⟨z,n,e,h1,h2,q⟩:=h;subst e;obtain⟨u,e,ru⟩:=d6 r;subst e;obtain⟨t,e⟩:=ru;subst e;exact PySem.W.KIN.call_text h1 h2 ⟨.int n,H,I.tok _,⟨_,rfl⟩,q⟩
end
theorem Inv.turned2 {X:Cx} {pins:E2} {U:St} {H:Hp} {s:Shared} {h':Heap} {t':Nat} {o:HO} (I:Inv X pins U H s) (k:∀b o,b≠e->b≠it->s.heap.get? b=some o->h'.get? b=some o)
  (f1:gF X pins H e) (f2:gF X pins H it) (hT:s.heap.objs.size<=T) (new:bn X.prog X.w (upd H T o) h' T o):Inv X pins U (upd H T o) { s with heap:=h',toks:=t' }:=by
 have hn:H T=none:=I.hok.fresh hT;have nT:∀b u,s.heap.get? b=some u->b≠T:=λb u q=>QB (Qz (Qn q) hT);have n1:∀b u,H b=some u->b≠e:=λb u q z=>by rw[z,f1.1]at q;cases q
 have n2:∀b u,H b=some u->b≠it:=λb u q z=>by rw[z,f2.1]at q;cases q
 have kk:∀b u,b∉[e,it]->s.heap.get? b=some u->h'.get? b=some u:=λb u hc q=>k b u (λz=>hc (by simp[z])) (λz=>hc (by simp[z])) q
 refine I.step (g':=s.gens) (d':=s.drawn) (ch:=[e,it]) (λb hb=>?_) (λb u _ _ hc q _=>kk b u hc q) (λb u _ _ hc q _=>⟨u.slots,kk b u hc q⟩) (λb u _ q n=>by rw[aj (nT b u q)];exact n)
  (λb u hc q=>⟨u,kk b u hc q⟩) (λb xs q=>by rw[aj (aE q hn)];exact q) (λb u xs q=>by rw[aj (aE q hn)];exact q) (λb ps q=>⟨#[],by rw[aj (aE q hn),q];simp⟩) (λm hm=>?_) (λb u q=>?_) I.bare
 ·have z:b=e\/b=it:=by simpa using hb
  rcases z with z|z
  ·subst z;obtain⟨_,a2,_,a4,a5,a6⟩:=f1;exact⟨a4,a2,a5,a6⟩
  subst z;obtain⟨_,a2,_,a4,a5,a6⟩:=f2;exact⟨a4,a2,a5,a6⟩
 ·obtain⟨ob,es,ep,ho,r⟩:=hm;exact⟨ob,es,ep,k _ ob (Xh f1.2.1) (Xh f2.2.1) ho,r⟩
 by_cases hb:b=T
 ·subst hb;rw[af]at q;cases q;exact new
 rw[aj hb]at q;refine(I.hok b u q).stay (λc v hc z=>k c v ?_ ?_ z) (λc z=>by rw[aj (aE z hn)];exact z) λc xs z=>by rw[aj (aE z hn)];exact z
 ·rcases hc with z|z
  ·rw[z];exact n1 b u q
  exact n1 c _ z
 rcases hc with z|z
 ·rw[z];exact n2 b u q
 exact n2 c _ z
noncomputable def Ite (K:PySem.W.Frag) (a:Addr):It :=
 ⟨λi H=>∃xs x,SqL K H a xs/\xs[i]?=some x,λi H x H'=>∃T v,H T=none/\x=.ref T/\H'=upd H T (.tup [.int (i:Nat),v])/\∀xs,SqL K H a xs->xs[i]?=some v,λi H=>∃xs,SqL K H a xs/\xs.length<=i⟩
theorem r9 {P:Program} {w:World} {K:PySem.W.Frag} {elts:List Expr} {k:Nat} (a e it:Addr) (hne:e≠it) :
  Turn P w K (.Tuple elts k pos) (Ite K a) [e,it] e (λi h=>(∃old,IsEnum h e it (i:Nat) old)/\h.IsListIter it a i) where
 mem:=by simp
 obj:=λi h st b hb=>by
  obtain⟨⟨old,he⟩,o,ho,hc,hd⟩:=st;have z:b=e\/b=it:=by simpa using hb
  rcases z with z|z
  ·subst z
   exact⟨_,he,λv q=>by
    have q':Data.fields _=Data.cell v:=q
    cases q'⟩
  subst z;exact⟨o,ho,λv q=>by rw[hd]at q;cases q⟩
 keep:=λi h h' st kk=>by
  obtain⟨⟨old,he⟩,hl⟩:=st;exact⟨⟨old,kk e (by simp) _ he⟩,hl.at λo q=>kk it (by simp) o q⟩
 item:=by
  intro X hP hw hK hc i pins s U H E I hf st hg;subst hP hw hK;obtain⟨xs,x,hq,hx⟩:=hg;obtain⟨its,rv,p,hz⟩:=I.list hq;obtain⟨u,hu,ru⟩:=rv.get hx;obtain⟨⟨old,he⟩,hl⟩:=st;have f1:=hf e (by simp);have f2:=hf it (by simp);refine wpAny_pyNext_enum_item he hl p.isList (x:=u) (by simpa using hu) hne λh1 a1 a2 a3 a4 a5=>⟨_,rfl,?_⟩;refine wpAny_letOwnedTupleGo_enum a1 λh2 b1 b2=>?_
  have nTe:s.heap.objs.size≠e:=λz=>by
   have q:=Qn (show s.heap.get? e=some _ from he);rw[<-z]at q;exact Nat.lt_irrefl _ q
  have keep2:∀b o,b≠e->b≠it->s.heap.get? b=some o->h2.get? b=some o:=λb o n1 n2 q=>b2.extBut b o n1 (a5 b o n1 n2 q);have tup2:h2.get? s.heap.objs.size=some { cls:=.type "tuple", data:=.seq #[.int i s.toks,u] }:=b2.extBut _ _ nTe a3
  have I2:Inv X pins U (upd H s.heap.objs.size (.tup [.int (i:Nat),x])) { s with heap:=h2,toks:=s.toks+1 } :=
   I.turned2 keep2 f1 f2 (Qf _) ⟨(by show 2<=sizeLine;decide),[.int i s.toks,u],.cons ⟨_,rfl⟩ (.cons ru .nil),⟨_,tup2,rfl,_,rfl⟩⟩
  refine⟨.ref s.heap.objs.size,_,I2,rfl,⟨s.heap.objs.size,x,I.hok.fresh (Qf _),rfl,rfl,λys hy=>by rw[I.list_inj hy hq];exact hx⟩,⟨⟨u,?_⟩,(a2.extBut b2.extBut (Xh hne))⟩,λb hb=>?_⟩
  ·have q:IsEnum h2 e it ((i:Int)+1) u:=b1;have c:(((i+1:Nat):Nat):Int)=(i:Int)+1:=by omega
   rw[c];exact q
  have z:b=e\/b=it:=by simpa using hb
  have nT:b≠s.heap.objs.size:=by
   rcases z with z|z
   ·rw[z];exact Xh nTe
   rw[z];obtain⟨o,ho,_⟩:=hl;exact QB (Qn ho)
  rw[aj nT];exact(hf b hb).1
 done:=by
  intro X hP hw hK hc i pins s U H E I hf st hg;subst hP hw hK;obtain⟨xs,hq,hx⟩:=hg;obtain⟨its,rv,p,hz⟩:=I.list hq;obtain⟨⟨old,he⟩,hl⟩:=st;obtain⟨f0,f1,f2,f3,f4,f5⟩:=hf it (by simp);have hlen:=rv.length;exact wpAny_pyNext_enum_end (I.ok.hd hc) he hl p.isList (by simp;exact om4 hx hlen) λh' eb=>⟨rfl,I.turned (t':=s.toks) (λb o hb q=>eb b o hb q) f0 f1 f3 f4 f5⟩
 self:=λ_ _ _ _ _ st h=>by
  obtain⟨⟨old,he⟩,_⟩:=st;exact wpAny_pyIter_enum he h
section
variable {X:Cx} {elts:List Expr} {k:Nat} {tpos:Pos}
def Do (K:PySem.W.Frag) (ta:TA):TI:=λU H R=>ta U H λvs H1=>∃a,vs=[.ref a]/\(∃xs,SqL K H1 a xs)/\R (Ite K a) H1
theorem qV {a:Expr} {ta:TA} {p pos:Pos} (hg:Gl X "enumerate") (hm:X.mg "enumerate" = none) (ha:PA X [a] ta) (hs:starEach [a] X.env=[(false,eval a X.env)]:=by rfl):PI X (.Tuple elts k tpos) (.Call (.Name "enumerate" p) [a] [] pos) (Do X.K ta):=by
 intro pins s U H R I h;refine Call_ (dY I hg hm boot_enumerate (Xg (thn (ha pos pins s U H _ I h) λus s1 ⟨vs,H1,I1,r1,q1⟩=>?_) hs rfl));obtain⟨l,e,⟨xs,hq⟩,q⟩:=q1;subst e
 cases r1 with
 | cons r rr =>
 cases rr;cases r;obtain⟨its,rv,pl,hz⟩:=I1.list hq;refine call_enumerate_list pl.isList λh' b1 b2 b3 b4=>?_;refine wpAny_pyIter_enum b1 ?_;have I2:Inv X pins U H1 { s1 with heap:=h' }:=I1.kept (t':=s1.toks) b4;refine⟨s1.heap.objs.size+1,[s1.heap.objs.size+1,s1.heap.objs.size],_,_,H1,rfl,I2,r9 l (s1.heap.objs.size+1) s1.heap.objs.size (by show @Ne Nat _ _;exact om5),⟨⟨_,b1⟩,b2⟩,λb hb=>?_,q⟩;have z:b=s1.heap.objs.size+1\/b=s1.heap.objs.size:=by simpa using hb
 have hle:s1.heap.objs.size<=b:=by
  rcases z with z|z
  ·rw[z];exact Nat.le_succ _
  rw[z];exact Qf _
 exact I1.fpOk hle (I1.hok.fresh hle)
end
theorem oJ {K:PySem.W.Frag} {xs:List V} {g:TG} {tb:TS} {D:Ends} {U:St} {H:Hp} (Pv:Nat->St->Hp->Prop) (h0:Pv 0 U H) (hl:∀i U H,i<=xs.length->Pv i U H->SqL K H a xs)
  (hs:∀i x U H T,xs[i]?=some x->Pv i U H->H T=none->g (.ref T) U (upd H T (.tup [.int (i:Nat),x])) λσ2 H2=>tb { D with nx:=Pv (i+1),ct:=Pv (i+1),bk:=D.nx } σ2 H2) (hd:∀U H,Pv xs.length U H->D.nx U H) :
  ∃W:Nat->Nat->St->Hp->Prop,(∃m,W 0 m U H)/\∀i m U H,W i m U H ->
   ((Ite K a).stop i H/\D.nx U H)\/((Ite K a).go i H/\∃N:St->Hp->Prop,(∀σ' H',N σ' H'->∃m',m'<m/\W (i+1) m' σ' H')/\∀x H',(Ite K a).yld i H x H'->g x U H' λσ2 H2=>tb { D with nx:=N,ct:=N,bk:=D.nx } σ2 H2):=by
 refine⟨λi m U H=>m=xs.length-i/\i<=xs.length/\Pv i U H,⟨xs.length,by simp,QQ _,h0⟩,?_⟩;rintro i m U H ⟨rfl,hi,p⟩;have q:=hl i U H hi p;by_cases hlt:i<xs.length
 ·refine .inr ⟨⟨xs,xs[i],q,by simp[hlt]⟩,Pv (i+1),λσ' H' p'=>⟨xs.length-(i+1),by exact om6 hlt,rfl,hlt,p'⟩,λx H' y=>?_⟩;obtain⟨T,v,hT,ex,eH,y⟩:=y;subst ex eH;exact hs i v U H T (y xs q) p hT
 have e:i=xs.length:=by exact om0 hi hlt
 subst e;exact .inl ⟨⟨xs,q,Qf _⟩,hd U H p⟩
structure Fn (P:Program) (w:World) (K:PySem.W.Frag) (mg:E3) (base:Heap) (x:Str) (ps:List Str) (k:Nat) (sp:Sp):Prop where
 ex:∃f fd,FnOk P w K mg base CX0 k f fd ps sp/\mg x=some (.ref f)/\PySem.W.keepIn K (.ref f)=true/\dW K fd ps []
section
variable {X:Cx}
theorem xP {x:Str} {ps:List Str} {k:Nat} {sp:Sp} {e:Expr} {es:List Expr} {t:TA} {p pos:Pos} (F:Fn X.prog X.w X.K X.mg X.base x ps k sp) (hr:Room k X.A) (hg:Gl X x) (ha:PA X (e::es) t)
  (hdb:(x==("__debug__" : Str))=false:=by decide) (he:starEach (e::es) X.env=(false,eval e X.env)::starEach es X.env:=by rfl) (hpl:(backTo pos (starEach es X.env)).any (·.1)=false:=by rfl) :
  PE X (.Call (.Name x p) (e::es) [] pos) (gJ sp [] E0 t):=by
 obtain⟨f,fd,G,hm,hk,hb⟩:=F.ex;exact qZ G hr hg hm hk hb .nil xQ ha hdb he hpl
theorem aY {x:Str} {ps:List Str} {k j:Nat} {sp:Sp} {e:Expr} {es:List Expr} {t:TA} {p pos:Pos} (F:Fn X.prog X.w X.K X.mg X.base x ps k sp) (hr:Room j X.A) (ha:PA X (e::es) t) (hk:k<=j:=by first|decide|omega) (hg:Gl X x:=by rfl) (hdb:(x==("__debug__" : Str))=false:=by decide) (he:starEach (e::es) X.env=(false,eval e X.env)::starEach es X.env:=by rfl) (hpl:(backTo pos (starEach es X.env)).any (·.1)=false:=by rfl):PE X (.Call (.Name x p) (e::es) [] pos) (gJ sp [] E0 t):=xP F (hr.mono hk) hg ha hdb he hpl
end
section
variable {U:St} {H:Hp} {Q:VK} {K:PySem.W.Frag}
variable {v x y:V}
theorem ak {i:Nat} (h:U[i]?=some (some v)) (q:Q v H):cq i U H Q:=⟨v,h,q⟩
theorem i_c (q:Q v H):tC v U H Q:=q
variable {ta tb te ti tl:TE}
theorem bE {r:R2} (q:ta U H λx H1=>tb U H1 λy H2=>r x y H2 Q):tOp r ta tb U H Q:=q
variable {i j:Int}
theorem i_rI0 {g:Int->Int->V} (q:Q (g i j) H):rI0 g (.int i) (.int j) H Q:=⟨i,j,rfl,rfl,q⟩
theorem i_rI {C:Int->Int->Prop} {g:Int->Int->V} (c:C i j) (q:Q (g i j) H):rI C g (.int i) (.int j) H Q:=⟨i,j,rfl,rfl,c,q⟩
theorem i_eq (h:wf x y=true) (q:Q (.bl (decide (x=y))) H):rEq x y H Q:=⟨h,q⟩
theorem i_ne (h:wf x y=true) (q:Q (.bl (!decide (x=y))) H):rNe x y H Q:=⟨h,q⟩
variable {R:Bool->Hp->Prop}
theorem i_test {t:TE} (q:t U H λx H'=>∃k,x=.bl k/\R k H'):xq t U H R:=q
theorem i_tB {t:TE} (q:t U H λx H'=>∃k,x=.bl k/\R k H'):tB t U H R:=q
theorem i_and {t u:TT} (q:t U H λc H1=>if c=true then u U H1 R else R false H1):Av t u U H R:=q
theorem i_or {t u:TT} (q:t U H λc H1=>if c=true then R true H1 else u U H1 R):tOr t u U H R:=q
theorem i_not {t:TT} (q:t U H λc H1=>R (!c) H1):Am t U H R:=q
theorem i_andV (q:ta U H λx H1=>∃c,x=.bl c/\if c=true then tb U H1 Q else Q (.bl false) H1):xA ta tb U H Q:=q
theorem i_orV (q:ta U H λx H1=>∃c,x=.bl c/\if c=true then Q (.bl true) H1 else tb U H1 Q):Al ta tb U H Q:=q
theorem i_notV (q:ta U H λx H1=>∃c,x=.bl c/\Q (.bl (!c)) H1):xt ta U H Q:=q
theorem i_ifE {t:TT} (q:t U H λc H1=>if c=true then ta U H1 Q else tb U H1 Q):tIf t ta tb U H Q:=q
theorem aM {R:List V->Hp->Prop} (q:R [] H):eO U H R:=q
variable {tr t:TA}
theorem aq {R:List V->Hp->Prop} (q:te U H λx H1=>tr U H1 λxs H2=>R (x::xs) H2):bq te tr U H R:=q
theorem i_call {sp:Sp} {E:XK} (q:t U H λvs H1=>sp vs H1 Q E):gJ sp [] E t U H Q:=by
 show t U H λvs H1=>sp (vs++[]) H1 Q E;simpa only[Xm] using q
theorem i_cb {r:List V->Hp->VK->Prop} (q:t U H λvs H1=>r vs H1 Q):tCB r t U H Q:=q
theorem i_tup (q:t U H λxs H1=>xs.length<=sizeLine/\∀p,H1 p=none->Q (.ref p) (upd H1 p (.tup xs))):nB t U H Q:=q
theorem i_lst (q:t U H λxs H1=>xs.length<=sizeLine/\∀p,H1 p=none->Q (.ref p) (upd H1 p (.lst xs))):wb t U H Q:=q
theorem i_bm {T:String} {r:V->List V->Hp->VK->Prop} {to:TE} (q:to U H λx H1=>tyV K T x H1/\t U H1 λxs H2=>r x xs H2 Q):tBM K T r to t U H Q:=q
theorem i_sl {r:V->Option Int->Option Int->Hp->VK->Prop} {tl th:TO} (q:te U H λx H1=>tl U H1 λl H2=>th U H2 λu H3=>r x l u H3 Q):tSl r te tl th U H Q:=q
theorem i_nopart {R:Option Int->Hp->Prop} (q:R none H):qF U H R:=q
theorem i_part {t:TE} {R:Option Int->Hp->Prop} (q:t U H λx H1=>∃i,x=.int i/\R (some i) H1):xr t U H R:=q
variable {xs:List V}
theorem bB {p:Addr} {v:V} (h:SqL K H p xs) (e:atI xs i=some v) (q:Q v H):pD K (.ref p) (.int i) H Q:=⟨p,xs,i,v,rfl,rfl,h,e,q⟩
theorem i_ixT {p:Addr} (h:H p=some (.tup xs)) (e:atI xs i=some v) (q:Q v H):n_ K (.ref p) (.int i) H Q:=⟨p,xs,i,v,rfl,rfl,SqT.of h,e,q⟩
theorem fz {z:Str} {c:Nat} (hz:z.length<=sizeLine) (e:atI z.cps.toList i=some c) (q:Q (.str ⟨#[c]⟩) H):AC (.str z) (.int i) H Q:=⟨z,i,c,rfl,rfl,hz,e,q⟩
variable {D:Ends}
theorem s_seq {t u:TS} (q:t { D with nx:=u D } U H):wa t u D U H:=q
theorem bI {g:TG} (q:te U H λx H1=>g x U H1 D.nx):se te g D U H:=q
theorem aA {i:Nat} {R:St->Hp->Prop} (q:R (U.set i (some v)) H):dU i v U H R:=q
theorem s_drop (q:te U H λ_ H1=>D.nx U H1):xw te D U H:=q
theorem s_ret {te:TE} (q:te U H D.rt):Ak te D U H:=q
theorem s_next (q:D.nx U H):xu D U H:=q
theorem s_if {c:TT} {t u:TS} (q:c U H λb H1=>if b=true then t D U H1 else u D U H1):Ao c t u D U H:=q
theorem s_sub {to:TE} {t:xh} {R:St->Hp->Prop} (q:to U H λo H1=>ti U H1 λi H2=>t o i v H2 λH3=>R U H3):Dp to ti t v U H R:=q
theorem s_setL {p:Addr} {k:Int} {j:Nat} {R:Hp->Prop} (h:H p=some (.lst xs)) (e:ixN xs.length k=some j) (q:R (upd H p (.lst (xs.set j v)))):xH (.ref p) (.int k) v H R:=⟨p,xs,k,j,rfl,rfl,h,e,q⟩
theorem s_for {wi:TI} {g:TG} {tb:TS} (q:wi U H λJ H1=>∃W:Nat->Nat->St->Hp->Prop,(∃m,W 0 m U H1)/\∀i m U H,W i m U H ->
 (J.stop i H/\D.nx U H)\/(J.go i H/\∃N:St->Hp->Prop,(∀σ' H',N σ' H'->∃m',m'<m/\W (i+1) m' σ' H')/\∀x H',J.yld i H x H'->g x U H' λσ2 H2=>tb { D with nx:=N,ct:=N,bk:=D.nx } σ2 H2)):Aq wi g tb D U H:=q
theorem s_rng1 {ta:TA} {R:It->Hp->Prop} (q:ta U H λvs H1=>∃j:Int,vs=[.int j]/\-(2 ^ 62)<=j/\j<2 ^ 62/\R (Itr 0 j.toNat) H1):yt ta U H R:=q
theorem s_list {R:It->Hp->Prop} (q:tl U H λx H1=>∃a,x=.ref a/\(∃xs,SqL K H1 a xs)/\R (Itl K a) H1):oI K tl U H R:=q
theorem s_str {R:It->Hp->Prop} (q:tl U H λv H1=>∃z:Str,v=.str z/\R (Itf z.cps.size (fg z)) H1):Dm tl U H R:=q
theorem cN {wi:TI} {g:TG} {tt:TT} {f:St->St} (q:wi U H λJ H1=>∀D,H1 D=none->∃W:Nat->Nat->Hp->List V->Prop,(∃m,W 0 m (upd H1 D (.lst [])) []) /\
 ∀i m H ys,W i m H ys->H D=some (.lst ys)/\((J.stop i H/\Q (.ref D) H)\/(J.go i H/\∀x H',J.yld i H x H'->g x (f U) H' λσ2 H2=>wk (f U) σ2/\tt σ2 H2 λb H3 =>
  if b=true then te σ2 H3 λv H4=>H4 D=some (.lst ys)/\ys.length<sizeLine/\∃m',m'<m/\W (i+1) m' (upd H4 D (.lst (ys++[v]))) (ys++[v])
  else ∃m',m'<m/\W (i+1) m' H3 ys))):jc wi g tt te f U H Q:=q
end
def cA (Pv:Nat->Hp->List V->Prop) (n:Nat) (D:Addr) (i:Nat) (ys:List V):VK:=λv H4=>H4 D=some (.lst ys)/\ys.length<sizeLine/\∃m',m'<n-i/\(m'=n-(i+1)/\i+1<=n/\Pv (i+1) (upd H4 D (.lst (ys++[v]))) (ys++[v]))
theorem cA.mk {Pv:Nat->Hp->List V->Prop} {D:Addr} {ys:List V} {v:V} {H4:Hp} (hd:H4 D=some (.lst ys)) (hi:i<n) (hl:ys.length<sizeLine) (p:Pv (i+1) (upd H4 D (.lst (ys++[v]))) (ys++[v])):cA Pv n D i ys v H4 :=
 ⟨hd,hl,n-(i+1),by exact om6 hi,rfl,hi,p⟩
section
variable {K:PySem.W.Frag} {g:TG} {te:TE} {σ0:St} {QD:Hp->Prop} {H1:Hp} {D:Addr}
theorem eX {lo:Int} {n:Nat} (Pv:Nat->Hp->List V->Prop) (h0:Pv 0 (upd H1 D (.lst [])) []) (hD:∀i H ys,Pv i H ys->H D=some (.lst ys))
  (hs:∀i H ys,i<n->Pv i H ys->g (.int (lo+i)) σ0 H λσ2 H2=>wk σ0 σ2/\gI σ2 H2 λb H3=>if b=true then te σ2 H3 (cA Pv n D i ys) else ∃m',m'<n-i/\(m'=n-(i+1)/\i+1<=n/\Pv (i+1) H3 ys)) (hd:∀H ys,Pv n H ys->QD H) :
  ∃W:Nat->Nat->Hp->List V->Prop,(∃m,W 0 m (upd H1 D (.lst [])) [])/\∀i m H ys,W i m H ys->H D=some (.lst ys)/\(((Itr lo n).stop i H/\QD H)\/((Itr lo n).go i H/\∀x H',(Itr lo n).yld i H x H'->g x σ0 H' λσ2 H2=>wk σ0 σ2/\gI σ2 H2 λb H3 =>
   if b=true then te σ2 H3 λv H4=>H4 D=some (.lst ys)/\ys.length<sizeLine/\∃m',m'<m/\W (i+1) m' (upd H4 D (.lst (ys++[v]))) (ys++[v]) else ∃m',m'<m/\W (i+1) m' H3 ys)):=by
 refine⟨λi m H ys=>m=n-i/\i<=n/\Pv i H ys,⟨n,by simp,QQ _,h0⟩,?_⟩;rintro i m H ys ⟨rfl,hi,p⟩;refine⟨hD i H ys p,?_⟩;by_cases hlt:i<n
 ·refine .inr ⟨hlt,λx H' y=>?_⟩;obtain⟨e,y⟩:=y;subst e y;exact hs i _ ys hlt p
 have e:i=n:=by exact om0 hi hlt
 subst e;exact .inl ⟨Qf _,hd H ys p⟩
theorem eJ {a:Addr} {xs:List V} (Pv:Nat->Hp->List V->Prop) (h0:Pv 0 (upd H1 D (.lst [])) []) (hD:∀i H ys,Pv i H ys->H D=some (.lst ys)/\SqL K H a xs)
  (hs:∀i x H ys,xs[i]?=some x->Pv i H ys->g x σ0 H λσ2 H2=>wk σ0 σ2/\gI σ2 H2 λb H3=>if b=true then te σ2 H3 (cA Pv xs.length D i ys) else ∃m',m'<xs.length-i/\(m'=xs.length-(i+1)/\i+1<=xs.length/\Pv (i+1) H3 ys)) (hd:∀H ys,Pv xs.length H ys->QD H) :
  ∃W:Nat->Nat->Hp->List V->Prop,(∃m,W 0 m (upd H1 D (.lst [])) [])/\∀i m H ys,W i m H ys->H D=some (.lst ys)/\(((Itl K a).stop i H/\QD H)\/((Itl K a).go i H/\∀x H',(Itl K a).yld i H x H'->g x σ0 H' λσ2 H2=>wk σ0 σ2/\gI σ2 H2 λb H3 =>
   if b=true then te σ2 H3 λv H4=>H4 D=some (.lst ys)/\ys.length<sizeLine/\∃m',m'<m/\W (i+1) m' (upd H4 D (.lst (ys++[v]))) (ys++[v]) else ∃m',m'<m/\W (i+1) m' H3 ys)):=by
 refine⟨λi m H ys=>m=xs.length-i/\i<=xs.length/\Pv i H ys,⟨xs.length,by simp,QQ _,h0⟩,?_⟩;rintro i m H ys ⟨rfl,hi,p⟩;obtain⟨d1,d2⟩:=hD i H ys p;refine⟨d1,?_⟩;by_cases hlt:i<xs.length
 ·refine .inr ⟨⟨xs,xs[i],d2,by simp[hlt]⟩,λx H' y=>?_⟩;obtain⟨e,y⟩:=y;subst e;exact hs i x _ ys (y xs d2) p
 have e:i=xs.length:=by exact om0 hi hlt
 subst e;exact .inl ⟨⟨xs,d2,Qf _⟩,hd H ys p⟩
theorem vO {n:Nat} {f:Nat->V} (Pv:Nat->Hp->List V->Prop) (h0:Pv 0 (upd H1 D (.lst [])) []) (hD:∀i H ys,Pv i H ys->H D=some (.lst ys))
  (hs:∀i H ys,i<n->Pv i H ys->g (f i) σ0 H λσ2 H2=>wk σ0 σ2/\gI σ2 H2 λb H3=>if b=true then te σ2 H3 (cA Pv n D i ys) else ∃m',m'<n-i/\(m'=n-(i+1)/\i+1<=n/\Pv (i+1) H3 ys)) (hd:∀H ys,Pv n H ys->QD H) :
  ∃W:Nat->Nat->Hp->List V->Prop,(∃m,W 0 m (upd H1 D (.lst [])) [])/\∀i m H ys,W i m H ys->H D=some (.lst ys)/\(((Itf n f).stop i H/\QD H)\/((Itf n f).go i H/\∀x H',(Itf n f).yld i H x H'->g x σ0 H' λσ2 H2=>wk σ0 σ2/\gI σ2 H2 λb H3 =>
   if b=true then te σ2 H3 λv H4=>H4 D=some (.lst ys)/\ys.length<sizeLine/\∃m',m'<m/\W (i+1) m' (upd H4 D (.lst (ys++[v]))) (ys++[v]) else ∃m',m'<m/\W (i+1) m' H3 ys)):=by
 refine⟨λi m H ys=>m=n-i/\i<=n/\Pv i H ys,⟨n,by simp,QQ _,h0⟩,?_⟩;rintro i m H ys ⟨rfl,hi,p⟩;refine⟨hD i H ys p,?_⟩;by_cases hlt:i<n
 ·refine .inr ⟨hlt,λx H' y=>?_⟩;obtain⟨e,y⟩:=y;subst e y;exact hs i _ ys hlt p
 have e:i=n:=by exact om0 hi hlt
 subst e;exact .inl ⟨rfl,hd H ys p⟩
end
section
variable {H:Hp} {Q:VK} {K:PySem.W.Frag}
theorem fw {z:Str} {lo hi:Option Int} (h:z.length<=sizeLine) (q:Q (.str (Txt.slice z lo hi)) H):Az (.str z) lo hi H Q:=⟨z,rfl,h,q⟩
variable {xs zs:List V} {a p l b:Addr}
theorem lx {lo hi:Option Int} (h:SqL K H a xs) (q:∀p,H p=none->Q (.ref p) (upd H p (.lst (fB xs lo hi)))):AA K (.ref a) lo hi H Q:=⟨a,xs,rfl,h,q⟩
theorem ED {x:V} (h:SqL K H p xs) (fx:cQ x=true) (fs:xs.all cQ=true) (q:Q (.bl (inV x xs)) H):rIn K false x (.ref p) H Q:=⟨p,xs,rfl,.inl h,fx,fs,q⟩
theorem iH (h1:H l=some (.lst xs)) (h2:H b=some (.lst zs)) (hz:xs.length+zs.length<=sizeLine) (q:∀p,H p=none->Q (.ref p) (upd H p (.lst (xs++zs)))):yT (.ref l) (.ref b) H Q:=⟨l,b,xs,zs,rfl,rfl,h1,h2,hz,q⟩
theorem fA {y:V} (h:H l=some (.lst xs)) (hz:xs.length<sizeLine) (q:Q .non (upd H l (.lst (xs++[y])))):mt (.ref l) [y] H Q:=⟨l,xs,y,rfl,rfl,h,hz,q⟩
theorem i_tyL (h:H p=some (.lst xs)):tyV K "list" (.ref p) H:=.inl ⟨rfl,xs,SqL.of h⟩
end
theorem ai {H:Hp} {o:HO} (hp:H p=none):am H (upd H p o):=λb u e=>by rw[aj (aE e hp)];exact e
end L2
namespace L2
open PySem
section
variable {U:St} {H:Hp} {D:Ends}
theorem s_seqT {t u:TS} (q:let D':Ends:={ D with nx:=u D };t D' U H):wa t u D U H:=q
theorem s_nameT {i:Nat} {v:V} {R:St->Hp->Prop} (q:let σ':St:=U.set i (some v);R σ' H):dU i v U H R:=q
end
variable {H:Hp}
theorem i_yes {U:St} {R:Bool->Hp->Prop} (q:R true H):gI U H R:=q
theorem i_dget {td ty:TE} {U:St} {Q:VK} (q:td U H λx H1=>ty U H1 λy H2=>∃a v,x=.ref a/\c8 H2 a y (some v)/\Q v H2):xy td ty U H Q:=q
theorem i_un {r:V->Hp->VK->Prop} {ta:TE} {U:St} {Q:VK} (q:ta U H λx H1=>r x H1 Q):tUn r ta U H Q:=q
theorem i_rU {g:Int->V} {i:Int} {Q:VK} (q:Q (g i) H):rU g (.int i) H Q:=⟨i,rfl,q⟩
end L2
namespace L2
open PySem PySem.Spec PyProof.Rows
def de (H:Hp) (c:Addr):Hp:=λb=>if b=c then none else H b
variable {c b f cell fa a T:Addr} {H:Hp}
theorem cV:de H c c=none:=QJ rfl
theorem bH (h:b≠c):de H c b=H b:=QA h
theorem tE {o:HO} (h:de H c b=some o):b≠c/\H b=some o:=by
 by_cases e:b=c
 ·subst e;rw[cV]at h;cases h
 rw[bH e]at h;exact⟨e,h⟩
def c6 (o:Obj):HO:=.frz o (.ext λ_=>True)
section
variable {P:Program} {w:World} {H H1:Hp} {h h1:Heap} {c:Addr} {o:Obj} {fs ex:E4}
theorem rR {H:Hp} (e:h.get? c=some o):bn P w H h c (c6 o):=⟨e,trivial,⟨o,e⟩,λ_ _ _ _=>trivial⟩
theorem HOk.drop (x:HOk P w H h) (hc:H c=some (c6 o)):HOk P w (de H c) h:=λb u e=>by
 obtain⟨_,e⟩:=tE e;refine(x b u e).stay (λ_ _ _ q=>q) (λd q=>?_) λd xs q=>?_
 ·rw[bH];exact q;intro z;subst z;rw[hc]at q;cases q
 rw[bH];exact q;intro z;subst z;rw[hc]at q;cases q
theorem HOk.take (x:HOk P w H h) (hc:H c=none) (e:h.get? c=some o):HOk P w (upd H c (c6 o)) h:=λb u q=>by
 by_cases hb:b=c
 ·subst hb;rw[af]at q;cases q;exact rR e
 rw[aj hb]at q;refine(x b u q).stay (λ_ _ _ r=>r) (λd r=>?_) λd xs r=>?_
 ·rw[aj (aE r hc)];exact r
 rw[aj (aE r hc)];exact r
theorem Un.back (u:Un fs ex (de H c) H1 h h1) (hc:H c=some (c6 o)) (e:h.get? c=some o) (nf:c∉fs) (nx:c∉ex):Un fs ex H (upd H1 c (c6 o)) h h1/\H1 c=none/\h1.get? c=some o:=by
 have h1c:=u.free c o e cV nx;have e1:=u.keep c o e cV nf nx;have ne:∀{b v},H b=some v->v≠c6 o->b≠c:=λq n z=>by subst z;rw[hc]at q;cases q;exact n rfl
 have nn:∀{b},H b=none->b≠c:=λq z=>by subst z;rw[hc]at q;cases q
 refine⟨⟨λb ob q n hb hx=>?_,λb ob q n hb hx=>?_,λb ob q n hx=>?_,λb ob q hx=>u.there b ob q hx,λb xs q=>?_,λb ob v q=>?_,λb ps q=>?_⟩,h1c,e1⟩
 ·exact u.keep b ob q (by rw[bH (nn n)];exact n) hb hx
 ·exact u.slot b ob q (by rw[bH (nn n)];exact n) hb hx
 ·rw[aj (nn n)];exact u.free b ob q (by rw[bH (nn n)];exact n) hx
 ·have nb:=ne q (λz=>by cases z);rw[aj nb];exact u.tups b xs (by rw[bH nb];exact q)
 ·by_cases nb:b=c
  ·subst nb;rw[hc]at q;cases q;exact af
  rw[aj nb];exact u.frzs b ob v (by rw[bH nb];exact q)
 have nb:=ne q (λz=>by cases z);rw[aj nb];exact u.tbls b ps (by rw[bH nb];exact q)
theorem Un.out (u:Un fs ex (upd H c (c6 o)) H1 h h1) (k1:HOk P w H1 h1) (hc:H c=none) (e:h.get? c=some o) (nf:c∉fs):Un fs ex H (de H1 c) h h1/\HOk P w (de H1 c) h1/\H1 c=some (c6 o):=by
 have h1c:=u.frzs c o _ af;have e1:=(k1 c _ h1c).1;refine⟨⟨λb ob q n hb hx=>?_,λb ob q n hb hx=>?_,λb ob q n hx=>?_,λb ob q hx=>u.there b ob q hx,λb xs q=>?_,λb ob v q=>?_,λb ps q=>?_⟩,k1.drop h1c,h1c⟩
 ·by_cases nb:b=c
  ·subst nb;rw[e]at q;cases q;exact e1
  exact u.keep b ob q (by rw[aj nb];exact n) hb hx
 ·have nb:b≠c:=λz=>by subst z;exact nf hb
  exact u.slot b ob q (by rw[aj nb];exact n) hb hx
 ·by_cases nb:b=c
  ·subst nb;exact cV
  rw[bH nb];exact u.free b ob q (by rw[aj nb];exact n) hx
 ·have nb:=aE q hc;rw[bH nb];exact u.tups b xs (by rw[aj nb];exact q)
 ·have nb:=aE q hc;rw[bH nb];exact u.frzs b ob v (by rw[aj nb];exact q)
 have nb:=aE q hc;rw[bH nb];exact u.tbls b ps (by rw[aj nb];exact q)
end
structure Lm where
 qual:Str
 params:Arguments
 body:Expr
 scope:Scope
 pos:Pos
def iK (c:Addr) (qual:Str):HO:=.ext λh=>h.CodeRec (.ref c) qual
def iC (f:Addr) (l:Lm) (cl:List (Str × Addr)) (c:Addr):HO:=.ext λh=>∃pm ctv,h.get? f=some (PySem.W.kla_obj "<lambda>" l.qual l.params l.body l.scope cl pm c ctv)
variable {qual y z x n:Str} {h h1:Heap}
theorem vQ {P:Program} {w:World} (r:h.CodeRec (.ref c) qual):bn P w H h c (iK c qual):=by
 obtain⟨d,oc,vs,t,e1,e2,r2⟩:=id r;cases e1;refine⟨r,⟨oc,e2⟩,λh1 h2 p k=>?_⟩;obtain⟨d,oc,vs,t,e1,e2,r2⟩:=p;cases e1;exact⟨_,oc,vs,t,rfl,k _ e2,r2⟩
variable {pm ctv u uy:Value} {cl:List (Str × Addr)}
theorem rm {P:Program} {w:World} {l:Lm} (e:h.get? f=some (PySem.W.kla_obj "<lambda>" l.qual l.params l.body l.scope cl pm c ctv)):bn P w H h f (iC f l cl c) :=
 ⟨⟨pm,ctv,e⟩,⟨_,e⟩,λ_ _ ⟨pm,ctv,q⟩ k=>⟨pm,ctv,k _ q⟩⟩
def eG (l:Lm) (c:Addr):Array Value:=#[rawInt l.pos.line,rawInt l.pos.col,.ref c]
def fF (T:Addr) (l:Lm) (H:Hp):Prop:=H T=some (.tbl #[])\/∃c,H T=some (.tbl (eG l c))/\H c=some (iK c l.qual)
structure Made (T:Addr) (l:Lm) (cl:List (Str × Addr)) (H:Hp) (f c:Addr) (H':Hp):Prop where
 new:H f=none
 fn:H' f=some (iC f l cl c)
 code:H' c=some (iK c l.qual)
 tab:H' T=some (.tbl (eG l c))
 old:∀b o,H b=some o->b≠T->H' b=some o
def gg (base:Heap) (mg:E3):Prop:=∃bm ob,mg "__builtins__" = some (.ref bm)/\bm≠builtinsNs/\bm≠mainGlobals/\base.get? bm=some ob/\ob.cls=.type "module" /\ ob.dict=some builtinsNs/\ob.data=.plain
def An (T:Addr) (l:Lm) (cl:List (Str × Addr)):TE:=λ_ H Q=>fF T l H/\∀f c H',Made T l cl H f c H'->Q (.ref f) H'
section
variable {X:Cx}
theorem yX {params:Arguments} {body:Expr} {scope:Scope} {pos:Pos} {cc T:Addr} {cl:List (Str × Addr)} (hcode:X.env.code=.ref cc) (C:PySem.W.CodeHd X.base cc T) (B:gg X.base X.mg) (hcl:closureFor scope X.env=pure cl) (hdef:defaultsOf params X.env=([],[]):=by rfl) :
  PE X (.Lambda params body scope pos) (An T ⟨X.env.qual ++ "<lambda>", params,body,scope,pos⟩ cl):=by
 intro pins s U H Q I h;obtain⟨tb,q⟩:=h;refine PySem.W.kla_eval hdef ?_;have hg:s.heap.Ns mainGlobals X.mg:=I.mod.glob.keeps I.bk;have hT:∃ps,H T=some (.tbl ps):=by rcases tb with e|⟨c,e,_⟩ <;> exact⟨_,e⟩
 obtain⟨ps0,hps0⟩:=hT
 have bne:∀{b ob},X.base.get? b=some ob->b≠T:=λe z=>by
  subst z;rw[(I.bs _ _ e).2]at hps0;cases hps0
 have hgP:mainGlobals≠T:=by
  obtain⟨o,es,ep,e,_⟩:=I.mod.glob;exact bne e
 obtain⟨bm,ob,b1,b2,b3,b4,b5,b6,b7⟩:=B;have hB:s.heap.BuiltinsAt X.mg T:=⟨bm,ob,b1,b2,b3,bne b4,I.bk _ _ b4,b5,b6,b7⟩;have CH:=C.keeps I.bk;rcases tb with e|⟨c,e,hc⟩
 ·have hP:s.heap.get? T=some (PySem.W.tabObj #[]):=I.hok T _ e;refine PySem.W.kla_makeFunction (mg:=X.mg) hcl I.ok.glob hg hcode CH hP trivial rfl hgP hB λc' ctv h' tk hx hge hlt hrec htb=>?_;have hsz:s.heap.objs.size<=h'.objs.size:=Xx (Xz hge hlt);have nT:T<s.heap.objs.size:=Qn hP;let f:Addr:=h'.objs.size;have Hf:H f=none:=I.hok.fresh hsz;have Hc:H c'=none:=I.hok.fresh hge;have nfc:c'≠f:=QB hlt;have nTf:T≠f:=QB (Qz nT hsz);have nTc:T≠c':=QB (Qz nT hge);let H':Hp:=upd (upd (upd H T (.tbl (eG ⟨X.env.qual ++ "<lambda>", params,body,scope,pos⟩ c'))) c' (iK c' (X.env.qual ++ "<lambda>"))) f (iC f ⟨X.env.qual ++ "<lambda>", params,body,scope,pos⟩ cl c')
  have hH:∀b o,H b=some o->b≠T->H' b=some o:=λb o e n=>by
   show upd (upd (upd H T _) c' _) f _ b=_;rw[aj (aE e Hf),aj (aE e Hc),aj n];exact e
  have hHT:H' T=some (.tbl (eG ⟨X.env.qual ++ "<lambda>", params,body,scope,pos⟩ c')):=by
   show upd (upd (upd H T _) c' _) f _ T=_;rw[aj nTf,aj nTc,af]
  have hHc:H' c'=some (iK c' (X.env.qual ++ "<lambda>")):=by
   show upd (upd (upd H T _) c' _) f _ c'=_;rw[aj nfc,af]
  have kx:∀b o,b≠T->s.heap.get? b=some o->(h'.push (PySem.W.kla_obj "<lambda>" (X.env.qual ++ "<lambda>") params body scope cl ((X.mg "__name__").getD .none) c' ctv)).get? b=some o:=λb o n e=>Qc _ (hx b o n e);have htb':h'.get? T=some (PySem.W.tabObj (eG ⟨X.env.qual ++ "<lambda>", params,body,scope,pos⟩ c')):=by simpa[eG] using htb
  have ntb:∀{b u},H b=some u->(∀ps,u≠.tbl ps)->b≠T:=λr n z=>by
   subst z;rw[e]at r;cases r;exact n _ rfl
  have un:Un X.fs [] H H' s.heap (h'.push (PySem.W.kla_obj "<lambda>" (X.env.qual ++ "<lambda>") params body scope cl ((X.mg "__name__").getD .none) c' ctv)):=by
   have nn:∀{b},H b=none->b≠T:=λn z=>by subst z;rw[e]at n;cases n
   refine⟨λb o r n _ _=>kx b o (nn n) r,λb o r n _ _=>⟨o.slots,kx b o (nn n) r⟩,λb o r n _=>?_,λb o r _=>?_,λb xs r=>hH b _ r (ntb r λ_ z=>nomatch z),λb o v r=>hH b _ r (ntb r λ_ z=>nomatch z),λb ps r=>?_⟩
   ·have lb:b<s.heap.objs.size:=Qn r;show upd (upd (upd H T _) c' _) f _ b=none;rw[aj (QB (Qz lb hsz)),aj (QB (Qz lb hge)),aj (nn n)];exact n
   ·by_cases z:b=T
    ·subst z;exact⟨_,Qc _ htb'⟩
    exact⟨o,kx b o z r⟩
   by_cases z:b=T
   ·subst z;rw[e]at r;cases r;exact⟨eG ⟨X.env.qual ++ "<lambda>", params,body,scope,pos⟩ c',by rw[hHT,Array.empty_append]⟩
   exact⟨#[],by rw[hH b _ r z];simp⟩
  have hok:HOk X.prog X.w H' (h'.push (PySem.W.kla_obj "<lambda>" (X.env.qual ++ "<lambda>") params body scope cl ((X.mg "__name__").getD .none) c' ctv)):=λb u qb=>by
   have qb:upd (upd (upd H T (.tbl (eG ⟨X.env.qual ++ "<lambda>", params,body,scope,pos⟩ c'))) c' (iK c' (X.env.qual ++ "<lambda>"))) f (iC f ⟨X.env.qual ++ "<lambda>", params,body,scope,pos⟩ cl c') b=some u:=qb;by_cases z1:b=f
   ·subst z1;rw[af]at qb;cases qb;exact rm (Qu _ rfl)
   rw[aj z1]at qb;by_cases z2:b=c'
   ·subst z2;rw[af]at qb;cases qb;obtain⟨d,oc,vs,t,e1,e2,r2⟩:=hrec;exact vQ ⟨d,oc,vs,t,e1,Qc _ e2,r2⟩
   rw[aj z2]at qb;by_cases z3:b=T
   ·subst z3;rw[af]at qb;cases qb;exact Qc _ htb'
   rw[aj z3]at qb;refine(I.hok b u qb).stay (λd v hd r=>kx d v ?_ r) (λd r=>hH d _ r (ntb r λ_ z=>nomatch z)) λd xs r=>hH d _ r (ntb r λ_ z=>nomatch z);rcases hd with z|z
   ·rw[z];exact z3
   intro y;subst y;rw[e]at z;cases z
  refine⟨.ref f,H',I.un (t':=tk) un hok,rfl,q f c' H' ⟨Hf,af,hHc,hHT,hH⟩⟩
 have hP:s.heap.get? T=some (PySem.W.tabObj (eG ⟨X.env.qual ++ "<lambda>", params,body,scope,pos⟩ c)):=I.hok T _ e;refine PySem.W.kla_makeFunctionHit (mg:=X.mg) (cv:=.ref c) hcl I.ok.glob hg hcode CH hP trivial (by simp[eG,codeAmong,rawInt]) hB λctv h' tk hk hsz=>?_;let f:Addr:=h'.objs.size;have Hf:H f=none:=I.hok.fresh hsz;refine⟨.ref f,_,I.laid (t':=tk) (a:=f) (o:=iC f ⟨X.env.qual ++ "<lambda>", params,body,scope,pos⟩ cl c) (λb o e=>Qc _ (hk b o e)) hsz (rm (Qu _ rfl)),rfl,q f c _ ⟨Hf,af,?_,?_,λb o e _=>?_⟩⟩
 ·rw[aj (aE hc Hf)];exact hc
 ·rw[aj (aE e Hf)];exact e
 rw[aj (aE e Hf)];exact e
end
structure LmScope (x y:Str) (sc:Scope):Prop where
 kind:sc.kind=.function
 co:sc.isCoroutine=false
 gen:sc.isGenerator=false
 par:sc.names.lookup x=some .local
 fre:sc.names.lookup y=some .free
 ne:x≠y
 nocell:∀z∈sc.names,z.2≠.cell
 only:∀z,sc.names.lookup z=some .free->z=y
noncomputable def rL (P:Program) (w:World) (K:PySem.W.Frag) (mg:E3) (base:Heap) (x y:Str) (l:Lm) (f c cell:Addr) (A:Around) (outer:List Env) (s:Shared) (H:Hp) (E:XK):Cx where
 prog:=P
 w:=w
 K:=K
 mg:=mg
 base:=base
 A:=A.deeper (PySem.W.envX l.qual l.scope s.heap.objs.size f (.ref c) [(y,cell)])
 N:=[x,y]
 s₀:=s
 H₀:=H
 env:=PySem.W.envX l.qual l.scope s.heap.objs.size f (.ref c) [(y,cell)]
 outer:=outer
 stack:=PySem.W.envX l.qual l.scope s.heap.objs.size f (.ref c) [(y,cell)]::outer
 ex:=[]
 calm:=true
 fn:=λ_=>false
 pn:=[]
 xe:=λe s'=>wpAny (model P w) (A.deeper (PySem.W.envX l.qual l.scope s.heap.objs.size f (.ref c) [(y,cell)])) (leaving (PySem.W.envX l.qual l.scope s.heap.objs.size f (.ref c) [(y,cell)]) e) (λ_ s''=>CX0 outer H s E e s'') (λe' s''=>CX0 outer H s E e' s'') s'
theorem lk1 (h:[(y,cell)].lookup z=some c):z=y/\c=cell:=by
 rw[Q5]at h;by_cases e:(z==y)=true
 ·rw[e]at h;cases h;exact⟨eq_of_beq e,rfl⟩
 have e:(z==y)=false:=by simpa using e
 rw[e]at h;cases h
theorem oC:[(y,cell)].lookup y=some cell:=by
 rw[Q5,beq_self_eq_true]
variable {s s₁:Shared}
theorem wR {P:Program} {w:World} {K:PySem.W.Frag} {mg:E3} {base:Heap} {l:Lm} {f c:Addr} {A:Around} {outer:List Env} {E:XK} {vx vy:V} {tk:Nat}
  (S:LmScope x y l.scope) (hd:A.handled=none) (e0:Env0 P w K mg base A outer s H) (rx:aX vx u) (ry:aX vy uy) (hc:s.heap.IsCell cell (some uy)) (hH:H cell=none)
  (hns:h1.Ns s.heap.objs.size (λz=>[(x,u)].reverse.lookup z)) (hk:∀b o,s.heap.get? b=some o->h1.get? b=some o) :
  Inv (rL P w K mg base x y l f c cell A outer s H E) [] [some vx,some vy] H { s with heap:=h1,toks:=tk }:=by
 have noA:∀b:Addr,b∉(rL P w K mg base x y l f c cell A outer s H E).ex:=λb z=>absurd (show b∈([]:E4) from z) (by simp);have hc1:h1.IsCell cell (some uy):=by obtain⟨o,e1,e2⟩:=hc;exact⟨o,hk _ _ e1,e2⟩
 refine⟨⟨e0.mod,S.kind,rfl,rfl,Qf _,λy' z c h1 h2=>(lk1 h1).1.trans (lk1 h2).1.symm,λz hz=>?_,(λy c h _=>nomatch h),λ_=>hd,Around.frames_deeper e0.frames,.inr ⟨rfl,rfl⟩,λb z=>absurd z (noA b),e0.bs,e0.bsz,λb _ _=>noA b,λb z=>absurd z (noA b),e0.funs,e0.frf⟩,
  rfl,e0.bare,Un.kept hk,⟨_,hns,λi z v h1 h2 h3=>?_⟩,λz c h=>?_,e0.hok.fresh (Qf _),λz c h=>?_,λp hp=>absurd (show p∈([]:E2) from hp) (by simp),e0.hok.kept hk,rfl⟩
 ·have hz:l.scope.names.lookup z=some .cell\/l.scope.names.lookup z=some .free:=hz;rcases hz with hz|hz
  ·exact absurd rfl (S.nocell _ (PySem.mem_of_lookup hz))
  rw[S.only z hz];exact⟨cell,oC⟩
 ·match i with
  | 0 =>
   cases h1;cases h2;refine⟨u,rx,.inl ⟨S.par,?_⟩⟩;show [(x,u)].reverse.lookup x=some u;simp[List.lookup]
  | 1 =>
   cases h1;cases h2;exact⟨uy,ry,.inr ⟨.inr S.fre,cell,oC,hc1⟩⟩
  | i+2 =>
   exact absurd h1 (by show ([x,y]:List Str)[i+2]?≠some z;simp)
 ·rw[(lk1 h).2];exact⟨_,hc1⟩
 rw[(lk1 h).2];exact hH
theorem wM {P:Program} {w:World} {K:PySem.W.Frag} {mg:E3} {base:Heap} {l:Lm} {A:Around} {outer:List Env} {Q:VK} {E:XK} {vx vy:V} {k:Nat} {t:TE} {args:Args}
  (S:LmScope x y l.scope) (hr:Room (k+1) A) (e0:Env0 P w K mg base A outer s H) (rx:aX vx u) (ry:aX vy uy) (hc:s.heap.IsCell cell (some uy)) (hH:H cell=none)
  (hf:s.heap.get? f=some (PySem.W.kla_obj "<lambda>" l.qual l.params l.body l.scope [(y,cell)] pm c ctv)) (hcd:s.heap.CodeRec (.ref c) l.qual) (hb:bindArgs (PySem.W.kla_fn "<lambda>" l.qual l.params l.body l.scope [(y,cell)] pm (.ref c) ctv) args=pure [(x,u)])
  (body:Room k (A.deeper (PySem.W.envX l.qual l.scope s.heap.objs.size f (.ref c) [(y,cell)]))->PE (rL P w K mg base x y l f c cell A outer s H E) l.body t) (q:t [some vx,some vy] H Q):codeAny (model P w) A (.call (.ref f) args) (CR CX0 outer P w H s Q E) s:=by
 have lim:s.heap.NoLimit:=e0.mod.nolimit.keeps λb o e=>(e0.bs b o e).1;refine PySem.W.kla_callFunE hr.depth hf rfl S.co S.gen rfl hcd ?_;rw[hb];refine Qm (wpAny_newFunctionEnv S.nocell (λz hz=>by rw[QI.mp hz];exact S.par) (λh1 hns hsb=>?_) S.kind);have hk1:∀b o,s.heap.get? b=some o->h1.get? b=some o:=λb o e=>hsb.extBut b o (QB (Qn e)) (Qc _ e);refine⟨lim.keeps hk1,?_⟩;show codeAny _ _ (.expr l.body (PySem.W.envX l.qual l.scope s.heap.objs.size f (.ref c) [(y,cell)])) _ _;have I:=wR (f:=f) (c:=c) (E:=E) (tk:=s.toks+[(x,u)].length) S hr.hd e0 rx ry hc hH hns hk1;refine PySem.W.kla_codeExpr (Q8 (body (hr.deeper _) [] _ _ H Q I q) (λv s' hs=>?_) λe s' hs=>hs);obtain⟨v',H',J,rv,qv⟩:=hs;exact⟨v',H',J.os,J.bare,J.base,J.hok,rv,qv⟩
def Calls (P:Program) (w:World) (K:PySem.W.Frag) (mg:E3) (base:Heap) (k:Nat) (f:Addr) (r:V->Hp->VK->Prop):Prop :=
 ∀(X:Cx),X.prog=P->X.w=w->X.K=K->X.mg=mg->X.base=base->gE CX0 X E0->Room k X.A->∀pins s U H vx u (Q:VK),Inv X pins U H s->aX vx u->r vx H Q->wpAny (model X.prog X.w) X.A (call (.ref f) [u]) (EP X pins U Q) X.xe s
def tY (P:Program) (w:World) (K:PySem.W.Frag) (mg:E3) (base:Heap) (k i:Nat) (te:TE):TE:=λU H Q=>∃f l cl c r,U[i]?=some (some (.ref f))/\Calls P w K mg base k f r/\H f=some (iC f l cl c)/\te U H λv H1=>H1 f=some (iC f l cl c)/\r v H1 Q
variable {pins:E2} {X:Cx}
theorem oK {U:St} {l:Lm} (I:Inv X pins U H s) (h:H f=some (iC f l cl c)):PySem.W.FnAt f s.heap:=by
 obtain⟨pm,ctv,e⟩:=(I.hok f _ h).1;exact⟨_,_,_,_,e⟩
theorem uD {k i:Nat} {e:Expr} {te:TE} {p pos:Pos} (hr:Room k X.A) (hx:gE CX0 X E0) (hn:PE X (.Name n p) (cq i)) (he:PE X e te) (hs:starEach [e] X.env=[(false,eval e X.env)]:=by rfl) (hs0:starEach ([]:List Expr) X.env=[]:=by rfl) (hpl:(backTo pos (starEach [] X.env)).any (·.1)=false:=by rfl) :
  PE X (.Call (.Name n p) [e] [] pos) (tY X.prog X.w X.K X.mg X.base k i te):=by
 intro pins s U H Q I h;obtain⟨f,l,cl,c,r,hi,C,hf,h⟩:=h;refine XA (thn (hn pins s U H (λv H1=>v=.ref f/\H1=H) I ⟨_,hi,rfl,rfl⟩) λu s1 ⟨v,H1,I1,ru,ev,eh⟩=>?_);subst ev eh;obtain rfl:u=Value.ref f:=ru;refine PySem.W.callWith_F (oK I1 hf) ?_ (by rw[hs,hs0]) hpl;rw[hs];refine Calls.spliced_cons (thn (he pins s1 U H1 _ I1 h) λiv s2 ⟨v,H2,I2,rv,hf2,q⟩=>?_);refine Calls.spliced_nil ⟨oK I2 hf2,?_⟩;exact C X rfl rfl rfl rfl rfl hx hr pins s2 U H2 v iv Q I2 rv q
theorem Inv.cellAt {U:St} {i:Nat} {vy:V} (I:Inv X pins U H s) (hN:X.N[i]?=some y) (hi:U[i]?=some (some vy)) (hk:X.env.kindOf y=some .cell) (hv:Vis X.env.scope y) (hl:X.env.cells.lookup y=some cell) :
  ∃o uy,s.heap.get? cell=some o/\o.data=.cell (some uy)/\aX vy uy/\H cell=none:=by
 obtain⟨m,_,loc⟩:=I.loc;obtain⟨u,ru,lk⟩:=loc i y vy hN hi hv;rcases lk with⟨k,_⟩|⟨_,c,e,o,e1,e2⟩
 ·rw[hk]at k;cases k
 rw[hl]at e;cases e;exact⟨o,u,e1,e2,ru,I.freeC y cell hl⟩
theorem Inv.cellOut {U:St} (I:Inv X pins U H s) (hf:X.fn y=true) (hl:X.env.cells.lookup y=some cell):cell∉frs X.stack:=λz=>by
 have ab:=I.ok.cab y cell hf hl
 have no:cell∉frs X.outer:=λz=>by
  obtain⟨_,o,ho,_⟩:=I.ok.funs.mem z;exact absurd (Qn ho) (Nat.not_lt.mpr ab)
 rcases I.ok.stk with e|⟨e,fr⟩
 ·rw[e]at z;exact no z
 rw[e]at z;unfold frs at z;rw[List.filterMap_cons,fr]at z;rcases QV.mp z with z|z
 ·exact I.cne y cell hl z
 exact no z
def yL (sp:Sp) (i:Nat) (cell:Addr) (t:TA):TE:=λU H Q=>t U H λvs H1=>∃vy,U[i]?=some (some vy)/\∀o uy,o.data=.cell (some uy)->aX vy uy->H1 cell=none->sp vs (upd H1 cell (c6 o)) (λv H2=>Q v (de H2 cell)) E0
variable {ps loose:List Str}
theorem yY {k i:Nat} {sp:Sp} {e:Expr} {es:List Expr} {t:TA} {p pos:Pos} (F:Fn X.prog X.w X.K X.mg X.base x ps k sp) (hr:Room k X.A) (hg:Gl X x) (ha:PA X (e::es) t)
  (hN:X.N[i]?=some y) (hky:X.env.kindOf y=some .cell) (hv:Vis X.env.scope y) (hl:X.env.cells.lookup y=some cell) (hfn:X.fn y=true)
  (hdb:(x==("__debug__" : Str))=false:=by decide) (he:starEach (e::es) X.env=(false,eval e X.env)::starEach es X.env:=by rfl) (hpl:(backTo pos (starEach es X.env)).any (·.1)=false:=by rfl) :
  PE X (.Call (.Name x p) (e::es) [] pos) (yL sp i cell t):=by
 obtain⟨f,fd,G,hm,hk,hb⟩:=F.ex;intro pins s U H Q I h;refine XA (fU I hg hm ?_ hdb);refine PySem.W.callWith_K (h₀:=X.base) I.ok.mod.kin hk (thn (ha pos pins s U H _ I h) λus s1 ⟨vs,H1,I1,r,q⟩=>⟨I1.kIn,?_⟩) he hpl;obtain⟨vy,hi,q⟩:=q;obtain⟨o,uy,e1,e2,ry,hn⟩:=I1.cellAt hN hi hky hv hl;have nf:=I1.cellOut hfn hl;have ab:=I1.ok.cab y cell hfn hl;have e0:=I1.env0
 have e0':Env0 X.prog X.w X.K X.mg X.base X.A X.stack s1 (upd H1 cell (c6 o)):=⟨e0.frames,e0.mod,λb ob e=>⟨(e0.bs b ob e).1,by
  rw[aj]
  ·exact(e0.bs b ob e).2
  ·intro z;have:=Qn (I1.ok.bs b ob e).1;rw[z]at this
   exact absurd this (Nat.not_lt.mpr ab)⟩,e0.bsz,e0.funs,λb hb=>by
  rw[aj]
  ·exact e0.frf b hb
  intro z;rw[z]at hb;exact nf hb,e0.hok.take hn e1,e0.bare⟩
 have hl2:us.length=ps.length:=by rw[<-r.length];exact G.len _ _ _ _ (q o uy e2 ry hn)
 refine wpAny_call (codeAny_mono (G.run X.A X.stack s1 _ ⟨us,[]⟩ us vs _ E0 hr e0' (by have:=hb s1 us I1.kIn (by rw[Xm];exact hl2);rwa [Xm]at this) r (q o uy e2 ry hn)) λrr s' hq=>?_)
 cases rr with
 | error e=>exact False.elim hq
 | ok fl =>
 cases fl with
 | ret u =>
  obtain⟨v,H',os,bare,un,hok,rv,qv⟩:=hq;obtain⟨un',hok',_⟩:=un.out hok hn e1 nf;exact I1.after ⟨v,_,os,bare,un',hok',rv,qv⟩
 | next=>exact False.elim hq
 | brk=>exact False.elim hq
 | cont=>exact False.elim hq
structure FunC (K:PySem.W.Frag) (x qual:Str) (st:Stmt) (f:Addr) (fd:FuncData) (c:Addr):Prop where
 ex:∃oc od kV doc pm an ct osl,fd=PySem.W.fnOf x qual (cO st) (ck st) (az st) .none kV doc pm an (.ref c) ct/\K.lookup f=some ⟨oc,od,.func (PySem.W.fnOf x qual (cO st) (ck st) (az st) .none kV doc pm an (.ref c) ct),osl⟩/\PySem.W.codeIn K (.ref c) qual=true
section
variable {P:Program} {w:World} {K:PySem.W.Frag} {mg:E3} {base:Heap}
theorem FunC.ok {x qual:Str} {st:Stmt} {f c:Addr} {fd:FuncData} {N ps:List Str} {k:Nat} {sp:Sp} (F:FunC K x qual st f fd c) (S:FnScope N ps (az st)) (len:∀vs H Q E,sp vs H Q E->vs.length=ps.length)
  (hbody:∀(A:Around) (outer:List Env) (s:Shared) (H:Hp) (vs:List V) (Q:VK) (E:XK),Room k (A.deeper (envOfC qual (az st) s.heap.objs.size f (.ref c)))->sp vs H Q E ->
   ∃t,PSs (cxOf CX0 P w K mg base N qual (az st) f (.ref c) A outer s H E).nox (ck st) t/\t { nx:=λ_ H'=>Q .non H',rt:=Q } (start N vs) H):FnOk P w K mg base CX0 (k+1) f fd ps sp:=by
 obtain⟨oc,od,kV,doc,pm,an,ct,osl,rfl,lk,hcd⟩:=F.ex;refine jN lk hcd S len λA outer s H vs Q E hr hsp=>?_;obtain⟨t,h,q⟩:=hbody A outer s H vs Q E hr hsp;exact⟨t,h.nox,q⟩
end
structure OnlyT (tabs:List (Addr × Addr)) (H:Hp):Prop where
 tab:∀q∈tabs,H q.2=some (.tbl #[])
 other:∀b,b∉tabs.map (·.2)->H b=none\/∃o xs,H b=some (.frz o (.lst xs))
theorem sU {P:Program} {w:World} {K:PySem.W.Frag} {mg mb:E3} {CX:CXT} {k:Nat} {fd:FuncData} {sp:Sp} {vs:List Value} {ns:List Int} {tabs:List (Addr × Addr)}
  (KX:K.In s₁.heap) (hns:s₁.heap.Ns mainGlobals mg) (hb:s₁.heap.Ns builtinsNs mb) (hbb:∀x:Str,x ≠ "__name__" -> mb x=bootBuiltins x) (hlim:s₁.heap.NoLimit) (hg:s₁.gens=#[])
  (hbm:gg s₁.heap mg) (hT:PySem.W.TabsAt tabs s₁.heap) (hTK:∀q∈tabs,K.lookup q.2=none)
  (ha:s₁.heap.get? a=some { cls:=.type "list", data:=.seq vs.toArray }) (hi:IntsAre vs ns) (hl:ns.length<=sizeLine) (hr:Room k callerA)
  (F:∀base:Heap,K.In base->base.Ns mainGlobals mg->gg base mg->FnOk P w K mg base CX k fa fd [x] sp) (hbind:∀(s:Shared) (u:Value),BindsTo s fd ⟨[u],[]⟩ [(x,u)])
  (hsp:∀H:Hp,OnlyT tabs H->SqL K H a (ns.map V.int)->sp [.ref a] H (λv _=>v=.bl true) λ_ _ _=>False)
  (hCX:∀H e s',CX [] H s₁ (λ_ _ _=>False) e s'->False) :
  codeAny (model P w) callerA (.call (.ref fa) ⟨[.ref a],[]⟩) (λr s'=>r=.ok (.ret (.bool true))/\OldK s₁.heap s'.heap/\s'.os=s₁.os/\AllBare s'.gens) s₁:=by
 have rv:=kU hi;have lenV:=hi.length
 have naT:a∉tabs.map (·.2):=λq=>by
  obtain⟨r,hr,e⟩:=Ql.mp q;have e2:=(hT r hr).2;rw[e,ha]at e2;cases e2
 have core:∀H:Hp,OnlyT tabs H->SqL K H a (ns.map V.int)->HOk P w H s₁.heap->(∀b,H b≠none->b=a\/b∈tabs.map (·.2))->(H a≠none->K.lookup a=none) ->
   codeAny (model P w) callerA (.call (.ref fa) ⟨[.ref a],[]⟩) (λr s'=>r=.ok (.ret (.bool true))/\OldK s₁.heap s'.heap/\s'.os=s₁.os/\AllBare s'.gens) s₁:=by
  intro H hO hS hok hA hK;have base_of:∀{b:Addr} {o:Obj},s₁.heap.get? b=some o->H b=none->(kM s₁.heap H).get? b=some o:=λe n=>vp e n
  have noA:∀{b:Addr} {o:Obj},s₁.heap.get? b=some o->(∀ps n,o.data≠.seq ps n)->(∀ps,o.data≠.fields ps)->H b=none:=λ{b o} e d1 d2=>by
   cases q:H b with
   | none=>rfl
   | some u =>
   rcases hA b (by rw[q];simp) with e'|e'
   ·subst e';rw[ha]at e;cases e;exact absurd rfl (d1 _ _)
   obtain⟨r,hr,er⟩:=Ql.mp e';have e2:=(hT r hr).2;rw[er,e]at e2;cases e2;exact absurd rfl (d2 _)
  have nsK:∀{b:Addr} {m:E3},s₁.heap.Ns b m->(kM s₁.heap H).Ns b m:=λ{b m} ⟨o,es,ep,e,d,r⟩=>⟨o,es,ep,base_of e (noA e (λ_ _ z=>by rw[d]at z;cases z) (λ_ z=>by rw[d]at z;cases z)),d,r⟩
  have hKb:K.In (kM s₁.heap H):=λb o e=>base_of (KX b o e) (by
   cases q:H b with
   | none=>rfl
   | some u =>
   rcases hA b (by rw[q];simp) with e'|e'
   ·subst e';rw[hK (by rw[q];simp)]at e;cases e
   obtain⟨r,hr,er⟩:=Ql.mp e';have e2:=hTK r hr;rw[er,e]at e2
   cases e2)
  have hM:Mod K mg (kM s₁.heap H):=⟨hKb,nsK hns,⟨mb,nsK hb,hbb⟩,let ⟨mc,h1,h2⟩:=hlim;⟨mc,nsK h1,h2⟩⟩
  have hB:gg (kM s₁.heap H) mg:=by
   obtain⟨bm,ob,b1,b2,b3,b4,b5,b6,b7⟩:=hbm;exact⟨bm,ob,b1,b2,b3,base_of b4 (noA b4 (λ_ _ z=>by rw[b7]at z;cases z) (λ_ z=>by rw[b7]at z;cases z)),b5,b6,b7⟩
  have e0:Env0 P w K mg (kM s₁.heap H) callerA [] s₁ H:=⟨rfl,hM,λb o e=>wI e,Nat.le_of_eq (tq _ _),trivial,λb hb=>absurd (show b∈([]:E4) from hb) (by simp),hok,.of_eq hg⟩;refine codeAny_mono ((F _ hKb (nsK hns) hB).run callerA [] s₁ H ⟨[.ref a],[]⟩ [.ref a] [.ref a] _ _ hr e0 (hbind s₁ (.ref a)) (.cons rfl .nil) (hsp H hO hS)) λr s' h=>?_
  cases r with
  | error e=>exact(hCX H e s' h).elim
  | ok fl =>
  cases fl with
  | next=>exact False.elim h
  | brk=>exact False.elim h
  | cont=>exact False.elim h
  | ret u =>
  obtain⟨v,H',os,bare,un,hok',r',q⟩:=h;have q':v=.bl true:=q;subst q';obtain rfl:u=Value.bool true:=r';refine⟨rfl,⟨λb o e=>?_,λb o e=>un.there b o e (by simp)⟩,os,bare⟩
  cases q:H b with
  | none=>exact .inl (un.keep b o e q (by intro z;exact absurd (show b∈([]:E4) from z) (by simp)) (by simp))
  | some u =>
  by_cases hb:b∈tabs.map (·.2)
  ·obtain⟨r,hr,er⟩:=Ql.mp hb;have t1:=hO.tab r hr;have e2:=(hT r hr).2;have ict:=((hT r hr).1.tab (hT r hr).2).isCodeTable;rw[er]at t1 e2 ict;rw[e]at e2;cases e2;obtain⟨more,t2⟩:=un.tbls b _ t1;have t3:s'.heap.get? b=some { cls:=.none,data:=.fields (#[]++more) }:=hok' b _ t2;exact .inr (.inl ⟨ict,rfl,#[],more,rfl,t3⟩)
  rcases hO.other b hb with z|⟨ob,xs,z⟩
  ·rw[q]at z;cases z
  have z2:=un.frzs b ob _ z;obtain⟨e1,_⟩:=hok b _ z;obtain⟨e2,_⟩:=hok' b _ z2;rw[e]at e1;cases e1;exact .inl e2
 let HT:Hp:=λb=>if b∈tabs.map (·.2) then some (.tbl #[]) else none
 have htab:∀b,b∈tabs.map (·.2)->s₁.heap.get? b=some (PySem.W.tabObj #[]):=λb hb=>by
  obtain⟨r,hr,er⟩:=Ql.mp hb;rw[<-er];exact(hT r hr).2
 cases hk:K.lookup a with
 | some o =>
  have e:=KX a o hk;rw[ha]at e;cases e;refine core HT ⟨λq hq=>QJ (Ql.mpr ⟨q,hq,rfl⟩),λb hb=>.inl (QA hb)⟩ (.inr ⟨_,vs.toArray,_,hk,rfl,rfl,rfl,by rw[Qh,lenV];exact hl,by simpa using rv⟩) (λb u z=>?_) (λb z=>?_) λz=>absurd (QA naT) z
  ·by_cases hb:b∈tabs.map (·.2)
   ·have z':=(QJ hb).symm.trans z;cases z';exact htab b hb
   have z':=(QA hb).symm.trans z;cases z'
  by_cases hb:b∈tabs.map (·.2)
  ·exact .inr hb
  exact absurd (QA hb) z
 | none =>
 let HA:Hp:=λb=>if b=a then some (.frz { cls:=.type "list", data:=.seq vs.toArray } (.lst (ns.map V.int))) else HT b;have hA1:HA a=some (.frz { cls:=.type "list", data:=.seq vs.toArray } (.lst (ns.map V.int))):=QJ rfl;have hA2:∀b,b≠a->HA b=HT b:=λb h=>QA h;refine core HA ⟨λq hq=>?_,λb hb=>?_⟩ (.inl (.inr ⟨{ cls:=.type "list", data:=.seq vs.toArray },hA1⟩)) (λb u z=>?_) (λb z=>?_) λ_=>hk
 ·rw[hA2 _ λz=>naT (Ql.mpr ⟨q,hq,z⟩)];exact QJ (Ql.mpr ⟨q,hq,rfl⟩)
 ·by_cases hba:b=a
  ·subst hba;exact .inr ⟨_,_,hA1⟩
  rw[hA2 b hba];exact .inl (QA hb)
 ·by_cases hba:b=a
  ·subst hba;rw[hA1]at z;cases z;exact⟨ha,by rw[Qa];exact hl,vs,_,rv,ha⟩
  rw[hA2 b hba]at z;by_cases hb:b∈tabs.map (·.2)
  ·have z':=(QJ hb).symm.trans z;cases z';exact htab b hb
  have z':=(QA hb).symm.trans z;cases z'
 by_cases hba:b=a
 ·exact .inl hba
 rw[hA2 b hba]at z;by_cases hb:b∈tabs.map (·.2)
 ·exact .inr hb
 exact absurd (QA hb) z
variable {p q:Program}
theorem vV {mean:ExcName->Option Value} {mg mb:E3} (T:Top p loose mean mg mb h):gg h mg:=by
 obtain⟨bm,ob,b1,b2,b3,b4,b5,b6⟩:=T.bmain;refine⟨bm,ob,b1,b2,λq=>?_,b3,b4,b5,b6⟩;obtain⟨o,es,ep,e,hd,_⟩:=T.g;rw[q,e]at b3;cases b3;rw[hd]at b6;cases b6
variable {l:PySem.W.OpenLaw}
theorem tS {n k:Nat} {XP:E3->Heap->Prop} {YP:World->Heap->Prop} {d:DefRec} {K:Params->PySem.W.Frag} {CX:World->CXT} {sp:World->Sp} (tabs:World->List (Addr × Addr))
  (hn:l.most=some n) (hn2:n<=sizeLine) (hdf:d.params.defaults=[]) (hr:Room k callerA)
  (hY:∀(w:World) (h:Heap),YP w h->(K w.params).In h) (hY2:∀(w:World) (h:Heap),YP w h->PySem.W.TabsAt (tabs w) h) (hTK:∀(w:World),∀q∈tabs w,(K w.params).lookup q.2=none)
  (F:∀(w:World) (mg:E3) (fa:Addr) (h:Heap),(K w.params).In h->h.Ns mainGlobals mg->mg d.name=some (.ref fa) ->
   ∃fd:FuncData,(∀(s:Shared) (u:Value),BindsTo s fd ⟨[u],[]⟩ [(x,u)]) /\
    ∀base:Heap,(K w.params).In base->base.Ns mainGlobals mg->gg base mg->FnOk l.prog w (K w.params) mg base (CX w) k fa fd [x] (sp w))
  (hsp:∀(w:World) (H:Hp) (a:Addr) (ns:List Int),ns.length<=n->OnlyT (tabs w) H->SqL (K w.params) H a (ns.map V.int)->sp w [.ref a] H (λv _=>v=.bl true) λ_ _ _=>False)
  (hCX:∀(w:World) (H:Hp) (s:Shared) (e:Value) (s':Shared),CX w [] H s (λ_ _ _=>False) e s'->False) :
  PySem.W.WalkO q loose XP YP l.row.toRowW d [] (λf vs=>PySem.call f vs):=by
 refine Att.oV hn hdf λw s₀ s₁ mg mb fa o pm cd doc a vs ns G Y ho hd hcd hmg hobj hints hlen hg=>?_;have KX:=hY w _ Y;obtain⟨fd,hb,hF⟩:=F w mg fa _ KX G.T.g hmg;exact sU KX G.T.g G.T.b G.T.builtins G.T.nolimit hg (vV G.T) (hY2 w _ Y) (hTK w) hobj hints (QZ hlen hn2) hr hF hb (λH hO hS=>hsp w H a ns hlen hO hS) λH e s'=>hCX w H s₁ e s'
def pW (K:PySem.W.Frag) (ts:E4):List (Addr × Addr):=ts.flatMap λT=>(K.filter λp=>PySem.W.codeHdIn K p.1 T).map λp=>(p.1,T)
def gR (K:PySem.W.Frag) (ts:E4):Bool:=ts.all λT=>(K.any λp=>PySem.W.codeHdIn K p.1 T)&&(K.lookup T).isNone
variable {ts as:E4}
theorem jI {K:PySem.W.Frag} {q:Addr × Addr} (h:q∈pW K ts):q.2∈ts/\PySem.W.codeHdIn K q.1 q.2=true:=by
 obtain⟨T,hT,h⟩:=List.mem_flatMap.mp h;obtain⟨p,hp,rfl⟩:=Ql.mp h;exact⟨hT,(List.mem_filter.mp hp).2⟩
theorem pV {K:PySem.W.Frag} (ok:gR K ts=true) (hT:T∈ts):∃c,(c,T)∈pW K ts:=by
 have h:=Q2.mp ok T hT;rw[Xo]at h;obtain⟨p,hp,e⟩:=List.any_eq_true.mp h.1;exact⟨p.1,List.mem_flatMap.mpr ⟨T,hT,Ql.mpr ⟨p,List.mem_filter.mpr ⟨hp,e⟩,rfl⟩⟩⟩
theorem pU {K:PySem.W.Frag} (ok:gR K ts=true) (hT:T∈ts):K.lookup T=none:=by
 have h:=Q2.mp ok T hT;rw[Xo]at h;exact Option.isNone_iff_eq_none.mp h.2
theorem tT {n k:Nat} {XP:E3->Heap->Prop} {d:DefRec} {K:Params->PySem.W.Frag} {e:∀P,as=(K P).map (·.1)} {CX:World->CXT} {sp:World->Sp}
  (hn:l.most=some n) (hn2:n<=sizeLine) (hdf:d.params.defaults=[]) (hr:Room k callerA) (ok:∀w:World,gR (K w.params) ts=true)
  (F:∀(w:World) (mg:E3) (fa:Addr) (h:Heap),(K w.params).In h->h.Ns mainGlobals mg->mg d.name=some (.ref fa) ->
   ∃fd:FuncData,(∀(s:Shared) (u:Value),BindsTo s fd ⟨[u],[]⟩ [(x,u)]) /\
    ∀base:Heap,(K w.params).In base->base.Ns mainGlobals mg->gg base mg->FnOk l.prog w (K w.params) mg base (CX w) k fa fd [x] (sp w))
  (hsp:∀(w:World) (H:Hp) (a:Addr) (ns:List Int),ns.length<=n->(∀T∈ts,H T=some (.tbl #[]))->SqL (K w.params) H a (ns.map V.int)->sp w [.ref a] H (λv _=>v=.bl true) λ_ _ _=>False)
  (hCX:∀(w:World) (H:Hp) (s:Shared) (e:Value) (s':Shared),CX w [] H s (λ_ _ _=>False) e s'->False) :
  PySem.W.WalkO q loose XP (PySem.W.kmHook K as e ts).says l.row.toRowW d [] (λf vs=>PySem.call f vs):=by
 refine tS (λw=>pW (K w.params) ts) hn hn2 hdf hr (λw h Y=>PySem.W.km_in_of Y) (λw h Y q hq=>?_) (λw q hq=>pU (ok w) (jI hq).1) F (λw H a ns h1 hO hS=>hsp w H a ns h1 (λT hT=>?_) hS) hCX
 ·obtain⟨h1,h2⟩:=jI hq;exact⟨PySem.W.codeHd_of_K (PySem.W.km_in_of Y) h2,PySem.W.km_tabs_of Y _ h1⟩
 obtain⟨c,hc⟩:=pV (ok w) hT;exact hO.tab _ hc
end L2
set_option maxHeartbeats 1000000
namespace Tm
open PySem PyProof.Rows
def mM:Bool->Keyed->Array Keyed->Nat->Nat->Nat->StateT SortSt Sem (Option Nat):=sortPriv% PySem.Builtin.gallop
def oA:Array Keyed->Array Keyed->StateT SortSt Sem (Array Keyed):=sortPriv% PySem.Builtin.mergeLo
def oB:Array Keyed->Array Keyed->StateT SortSt Sem (Array Keyed):=sortPriv% PySem.Builtin.mergeHi
def iB (κ:KeyKind) (kd:SortKind) (prog:Program) (w:World) (A:Around) (s:Shared):Prop :=
 ∀(E:E1) (x y:Value) (a b:κ.α) (Q:Bool->Shared->Prop),κ.keyOf x=some a->κ.keyOf y=some b->Q (κ.blt a b) s->wpAny (model prog w) A (keyLt' kd x y) Q E s
def kv (κ:KeyKind) (p:Keyed):κ.α:=(κ.keyOf p.1).getD κ.dflt
def Hk (κ:KeyKind) (p:Keyed):Prop:=∃a,κ.keyOf p.1=some a
variable {prog:Program} {w:World} {A:Around} {E:E1} {s:Shared} {κ:KeyKind} {kd:SortKind}
section
theorem aS {U α:Type} {M:Model} {Q:α->U->Prop} {st:U} {c:Prop} [Decidable c] {t e:StateT U Sem α} (h:c) (q:wpS M A E s t Q st):wpS M A E s (if c then t else e) Q st:=by rw[QJ h];exact q
theorem aQ {U α:Type} {M:Model} {Q:α->U->Prop} {st:U} {c:Prop} [Decidable c] {t e:StateT U Sem α} (h:¬c) (q:wpS M A E s e Q st):wpS M A E s (if c then t else e) Q st:=by rw[QA h];exact q
variable {i j n hint:Nat}
theorem bT (h:i=j):(i==j)=true:=by simp[h]
theorem bF (h:¬i=j):¬(i==j)=true:=by simpa using h
variable {Q:Option Bool->SortSt->Prop} {x y p key:Keyed} {st:SortSt}
theorem i_ (hL:iB κ kd prog w A s) (hk:kindOf st=kd) (hx:Hk κ x) (hy:Hk κ y) (h:Q (some (κ.blt (kv κ x) (kv κ y))) st):wpS (model prog w) A E s (lt' x y) Q st:=by
 obtain⟨a,ha⟩:=hx;obtain⟨b,hb⟩:=hy;rw[lt'_eq];refine Qp (wpS_get ?_);rw[hk];refine Qp (wpS_lift (wpAny_attempt (hL _ _ _ _ _ _ ha hb ⟨rfl,?_⟩)));unfold kv at h;rw[ha,hb]at h;exact Qt h
variable {arr:Array Keyed}
theorem bg {Q:Keyed->SortSt->Prop} (h:arr[i]?=some p) (q:Q p st):wpS (model prog w) A E s (elem' arr i) Q st:=by
 rw[elem'_eq,h];exact Qt q
def bey (κ:KeyKind) (left:Bool) (key p:Keyed):Bool:=if left then κ.blt (kv κ p) (kv κ key) else !κ.blt (kv κ key) (kv κ p)
theorem dD (hL:iB κ kd prog w A s) {left:Bool} {b:Bool} (hk:kindOf st=kd) (hkey:Hk κ key)
  (hP:∃p,arr[j]?=some p/\Hk κ p/\bey κ left key p=b) (h:Q (some b) st) :
  wpS (model prog w) A E s (elem' arr j >>= λx=>if left=true then lt' x key else lt' key x >>= λr=>pure (Option.map (λz=>!z) r)) Q st:=by
 obtain⟨p,hp,hkp,rfl⟩:=hP;refine Qp (bg hp ?_);unfold bey at h
 cases left with
 | true=>exact i_ hL hk hkp hkey h
 | false=>exact Qp (i_ hL hk hkey hkp (Qt h))
theorem oY (hL:iB κ kd prog w A s) {left:Bool} {base:Nat} {Q:Option Nat->SortSt->Prop} (P:Nat->Bool) (hk:kindOf st=kd) (hkey:Hk κ key)
  (hP:∀i,i<n->∃p,arr[base+i]?=some p/\Hk κ p/\bey κ left key p=P i) (mono:∀i j,i<=j->j<n->P j=true->P i=true) (hh:hint<n)
  (h:∀k,k<=n->(∀i,i<k->P i=true)->(∀i,k<=i->i<n->P i=false)->Q (some k) st):wpS (model prog w) A E s (mM left key arr base n hint) Q st:=by
 have monoF:∀i j,i<=j->j<n->P i=false->P j=false:=λi j h1 h2 h3=>by
  cases e:P j with
  | false=>rfl
  | true=>rw[mono i j h1 h2 e]at h3;cases h3
 unfold mM;refine Qp (dD hL hk hkey (hP hint hh) ?_)
 have fin:∀(lo hi:Nat) (F:(Option (Option Nat) × Nat × Nat)->StateT SortSt Sem (Option Nat)) (body:Nat->(Option (Option Nat) × Nat × Nat)->StateT SortSt Sem (ForInStep (Option (Option Nat) × Nat × Nat))),lo<=hi->hi<=n->(∀i,i<lo->P i=true)->(∀i,hi<=i->i<n->P i=false) ->
   (∀l k,F (none,l,k)=pure (some k))->(∀x l k (R:ForInStep (Option (Option Nat) × Nat × Nat)->SortSt->Prop),l<=k->k<=n->(l=k->R (.done (none,l,k)) st)->(l<k->P (l+(k-l) / 2)=true->R (.yield (none,l+(k-l) / 2+1,k)) st)->(l<k->P (l+(k-l) / 2)=false->R (.yield (none,l,l+(k-l) / 2)) st)->wpS (model prog w) A E s (body x (none,l,k)) R st) ->
   wpS (model prog w) A E s (forIn [0:n] (none,lo,hi) body >>= F) Q st:=λlo hi F body h1 h2 h3 h4 hF hb=>by
  refine Qp (wpS_mono (Xj (I:=λx c st'=>st'=st/\∃l k,c=(none,l,k)/\l<=k/\k<=n/\k-l<=n-x/\(∀i,i<l->P i=true)/\(∀i,k<=i->i<n->P i=false))
   (Q:=λc st'=>st'=st/\∃k,c=(none,k,k)/\k<=n/\(∀i,i<k->P i=true)/\(∀i,k<=i->i<n->P i=false)) ?_ ?_ ⟨rfl,lo,hi,rfl,h1,h2,by exact Ex h1 h2,h3,h4⟩) ?_)
  ·rintro x c st' _ hx ⟨rfl,l,k,rfl,a1,a2,a3,a4,a5⟩;refine hb x l k _ a1 a2 (λe=>?_) (λe p=>?_) (λe p=>?_)
   ·subst e;exact⟨rfl,l,rfl,a2,a4,a5⟩
   ·exact⟨rfl,_,k,rfl,by exact Ew e,a2,AV a3,λi hi=>mono i _ (by exact Ev hi) (by exact Eu a2 e) p,a5⟩
   exact⟨rfl,l,_,rfl,by exact Et,by exact Es a2 e,AU a3 e,a4,λi h1 h2=>monoF _ i h1 h2 p⟩
  ·rintro c st' ⟨rfl,l,k,rfl,a1,a2,a3,a4,a5⟩;have:l=k:=by exact Bk a1 a3
   subst this;exact⟨rfl,l,rfl,a2,a4,a5⟩
  rintro c st' ⟨rfl,k,rfl,a2,a4,a5⟩;rw[hF];exact Qt (h k a2 a4 a5)
 dsimp only
 cases hp:P hint with
 | true =>
  refine aS rfl ?_
  refine Qp (wpS_mono (Xj (I:=λx c st'=>st'=st/\∃l o,c=(none,l,o)/\l<o/\x+1<=o/\hint+l<n/\P (hint+l)=true)
   (Q:=λc st'=>st'=st/\∃l o,c=(none,l,o)/\l<o/\hint+l<n/\P (hint+l)=true/\(o<n-hint->P (hint+o)=false)) ?_ ?_ ⟨rfl,0,1,rfl,by omega,by omega,by exact Er hh,hp⟩) ?_)
  ·rintro x c st' _ hx ⟨rfl,l,o,rfl,a1,a2,a3,a4⟩;dsimp only;by_cases c1:o>=n-hint
   ·refine aS c1 ?_;exact Qt ⟨rfl,l,o,rfl,a1,a3,a4,λz=>by omega⟩
   refine aQ c1 ?_;refine Qp (dD hL hk hkey (hP (hint+o) (by exact Bh hh c1)) ?_);dsimp only
   cases e:P (hint+o) with
   | true =>
    refine aQ Qk ?_;exact Qt ⟨rfl,o,2*o+1,rfl,by exact Bb,by omega,by exact Bh hh c1,e⟩
   | false =>
   refine aS rfl ?_;exact Qt ⟨rfl,l,o,rfl,a1,a3,a4,λ_=>e⟩
  ·rintro c st' ⟨rfl,l,o,rfl,a1,a2,a3,a4⟩;exact⟨rfl,l,o,rfl,a1,a3,a4,λz=>by omega⟩
  rintro c st' ⟨rfl,l,o,rfl,a1,a3,a4,a5⟩;dsimp only;refine fin _ _ _ _ (by exact Ep hh a1 a3) (by exact Eo hh) (λi hi=>mono i (hint+l) (by exact En hi) a3 a4) (λi h1 h2=>?_) (λl k=>rfl) ?_
  ·by_cases z:o<n-hint
   ·exact monoF (hint+o) i (by exact Em hh h1 z) h2 (a5 z)
   omega
  intro x l k R h1 h2 q1 q2 q3;dsimp only;by_cases c:l>=k
  ·refine aS c ?_;exact Qt (q1 (by exact zj h1 c))
  refine aQ c ?_;refine Qp (dD hL hk hkey (hP _ (by exact Ba h2 c)) ?_);dsimp only
  cases e:P (l+(k-l) / 2) with
  | true=>refine aS rfl ?_;exact Qt (q2 (by exact wz c) e)
  | false=>refine aQ Qk ?_;exact Qt (q3 (by exact wz c) e)
 | false =>
 refine aQ Qk ?_
 refine Qp (wpS_mono (Xj (I:=λx c st'=>st'=st/\∃l o,c=(none,l,o)/\l<o/\x+1<=o/\l<=hint/\P (hint-l)=false)
  (Q:=λc st'=>st'=st/\∃l o,c=(none,l,o)/\l<o/\l<=hint/\P (hint-l)=false/\(o<hint+1->P (hint-o)=true)) ?_ ?_ ⟨rfl,0,1,rfl,by omega,by omega,by exact zi,hp⟩) ?_)
 ·rintro x c st' _ hx ⟨rfl,l,o,rfl,a1,a2,a3,a4⟩;dsimp only;by_cases c1:o>=hint+1
  ·refine aS c1 ?_;exact Qt ⟨rfl,l,o,rfl,a1,a3,a4,λz=>by omega⟩
  refine aQ c1 ?_;refine Qp (dD hL hk hkey (hP (hint-o) (by exact El hh a1 c1)) ?_);dsimp only
  cases e:P (hint-o) with
  | true =>
   refine aS rfl ?_;exact Qt ⟨rfl,l,o,rfl,a1,a3,a4,λ_=>e⟩
  | false =>
  refine aQ Qk ?_;exact Qt ⟨rfl,o,2*o+1,rfl,by exact Bb,by omega,by exact Ek c1,e⟩
 ·rintro c st' ⟨rfl,l,o,rfl,a1,a2,a3,a4⟩;exact⟨rfl,l,o,rfl,a1,a3,a4,λz=>by omega⟩
 rintro c st' ⟨rfl,l,o,rfl,a1,a3,a4,a5⟩;dsimp only;refine fin _ _ _ _ (by exact Ej a1 a3) (by exact Ei hh a3) (λi hi=>?_) (λi h1 h2=>monoF (hint-l) i h1 h2 a4) (λl k=>rfl) ?_
 ·by_cases z:o<hint+1
  ·exact mono i (hint-o) (by exact Eh hi z) (by exact Eg hh a1 z) (a5 z)
  omega
 intro x l k R h1 h2 q1 q2 q3;dsimp only;by_cases c:l>=k
 ·refine aS c ?_;exact Qt (q1 (by exact zj h1 c))
 refine aQ c ?_;refine Qp (dD hL hk hkey (hP _ (by exact Ba h2 c)) ?_);dsimp only
 cases e:P (l+(k-l) / 2) with
 | true=>refine aS rfl ?_;exact Qt (q2 (by exact wz c) e)
 | false=>refine aQ Qk ?_;exact Qt (q3 (by exact wz c) e)
end
section
variable {κ:KeyKind}
def le (κ:KeyKind) (p q:Keyed):Prop:=κ.kle (kv κ p) (kv κ q)
structure MI (κ:KeyKind) (L o x y:List Keyed):Prop where
 perm:(o++(x++y)).Perm L
 so:o.Pairwise (le κ)
 sx:x.Pairwise (le κ)
 sy:y.Pairwise (le κ)
 ox:∀p∈o,∀q∈x,le κ p q
 oy:∀p∈o,∀q∈y,le κ p q
 last:∀q∈y,∀l,x.getLast?=some l->le κ q l
variable {L o x2 y x y2:List Keyed}
theorem MI.takeXs {x1:List Keyed} (h:MI κ L o (x1++x2) y) (hq:∀p∈x1,∀q∈y,le κ p q):MI κ L (o++x1) x2 y:=by
 have sx:=Q9.mp h.sx;refine⟨?_,Q9.mpr ⟨h.so,sx.1,λp hp q hq=>h.ox p hp q (Qr.mpr (.inl hq))⟩,sx.2.1,h.sy,λp hp q hq'=>?_,λp hp q hq'=>?_,λq hq' l hl=>?_⟩
 ·have:=h.perm;rwa [Xc,<-Xc o]at this
 ·rcases Qr.mp hp with a|a
  ·exact h.ox p a q (Qr.mpr (.inr hq'))
  exact sx.2.2 p a q hq'
 ·rcases Qr.mp hp with a|a
  ·exact h.oy p a q hq'
  exact hq p a q hq'
 refine h.last q hq' l ?_;rw[List.getLast?_append,hl];rfl
theorem MI.takeYs {y1:List Keyed} (h:MI κ L o x (y1++y2)) (hq:∀q∈y1,∀p∈x,le κ q p):MI κ L (o++y1) x y2:=by
 have sy:=Q9.mp h.sy;refine⟨?_,Q9.mpr ⟨h.so,sy.1,λp hp q hq=>h.oy p hp q (Qr.mpr (.inl hq))⟩,h.sx,sy.2.1,λp hp q hq'=>?_,λp hp q hq'=>?_,λq hq' l hl=>?_⟩
 ·refine List.Perm.trans ?_ h.perm;rw[Xc];refine List.Perm.append_left _ ?_;rw[<-Xc,<-Xc];exact List.Perm.append_right _ List.perm_append_comm
 ·rcases Qr.mp hp with a|a
  ·exact h.ox p a q hq'
  exact hq p a q hq'
 ·rcases Qr.mp hp with a|a
  ·exact h.oy p a q (Qr.mpr (.inr hq'))
  exact sy.2.2 p a q hq'
 exact h.last q (Qr.mpr (.inr hq')) l hl
variable {p q r l:Keyed}
theorem le_trans (a:le κ p q) (b:le κ q r):le κ p r:=KeyOrd.kle_trans a b
theorem fS (s:(p::x).Pairwise (le κ)) (h:le κ q p) (hr:r∈p::x):le κ q r:=by
 rcases QV.mp hr with e|e
 ·rw[e];exact h
 exact le_trans h ((List.pairwise_cons.mp s).1 r e)
theorem MI.takeY (h:MI κ L o (p::x) (q::y)) (c:le κ q p):MI κ L (o++[q]) (p::x) y :=
 MI.takeYs (y1:=[q]) h λr hr s hs=>by
  have e:r=q:=by simpa using hr
  subst e;exact fS h.sx c hs
theorem MI.takeX (h:MI κ L o (p::x) (q::y)) (c:le κ p q):MI κ L (o++[p]) x (q::y) :=
 MI.takeXs (x1:=[p]) h λr hr s hs=>by
  have e:r=p:=by simpa using hr
  subst e;exact fS h.sy c hs
def Srt (κ:KeyKind) (L r:List Keyed):Prop:=r.Perm L/\r.Pairwise (le κ)
theorem MI.endY (h:MI κ L o x []):Srt κ L (o++x):=⟨by simpa using h.perm,Q9.mpr ⟨h.so,h.sx,h.ox⟩⟩
theorem MI.endX (h:MI κ L o [] y):Srt κ L (o++y):=⟨by simpa using h.perm,Q9.mpr ⟨h.so,h.sy,h.oy⟩⟩
theorem MI.lastX (h:MI κ L o [l] y):Srt κ L (o++y++[l]):=by
 refine⟨List.Perm.trans ?_ h.perm,Q9.mpr ⟨Q9.mpr ⟨h.so,h.sy,h.oy⟩,by simp,λp hp q hq=>?_⟩⟩
 ·rw[Xc];exact List.Perm.append_left _ List.perm_append_comm
 have e:q=l:=by simpa using hq
 subst e;rcases Qr.mp hp with a|a
 ·exact h.ox p a q (by simp)
 exact h.last p a q rfl
end
section
structure Gs (st st':SortSt):Prop where
 kind:kindOf st'=kindOf st
 arr:arrOf st'=arrOf st
 pend:pendingOf st'=pendingOf st
 fail:failedOf st'=failedOf st
theorem Gs.refl (st:SortSt):Gs st st:=⟨rfl,rfl,rfl,rfl⟩
theorem Gs.trans {a b c:SortSt} (x:Gs a b) (y:Gs b c):Gs a c:=⟨y.kind.trans x.kind,y.arr.trans x.arr,y.pend.trans x.pend,y.fail.trans x.fail⟩
def qR:Nat->StateT SortSt Sem Unit:=sortPriv% PySem.Builtin.setMinGallop
variable {g ia ib n m i j:Nat}
theorem eL {st:SortSt} {Q:Unit->SortSt->Prop} (h:∀st',Gs st st'->Q () st'):wpS (model prog w) A E s (qR g) Q st:=by
 unfold qR;exact wpS_modify (h _ ⟨rfl,rfl,rfl,rfl⟩)
theorem iy (a:Array Keyed) (i:Nat):(a.extract i a.size).toList=a.toList.drop i:=by
 have:(a.toList.drop i).length<=a.size-i:=by simp
 simpa using Qw this
theorem i6 (a:Array Keyed) (i k:Nat):(a.extract i (i+k)).toList=(a.toList.drop i).take k:=by
 simp
theorem aZ {a:Array Keyed} {i:Nat} (h:i<a.size):∃p,a[i]?=some p/\a.toList.drop i=p::a.toList.drop (i+1)/\p∈a.toList :=
 ⟨a[i],Xs h,by rw[List.drop_eq_getElem_cons (by simpa using h)];simp,by simp⟩
structure LJ (κ:KeyKind) (a b:Array Keyed) (n:Nat) (out:Array Keyed) (ia ib:Nat):Prop where
 mi:MI κ (a.toList++b.toList) out.toList (a.toList.drop ia) (b.toList.drop ib)
 la:ia<=a.size
 lb:ib<=b.size
 lo:out.size=ia+ib
 n:n<=out.size
variable {a b:Array Keyed}
theorem LJ.less {out:Array Keyed} (h:LJ κ a b n out ia ib) (hm:m<=n):LJ κ a b m out ia ib:=⟨h.mi,h.la,h.lb,h.lo,QZ hm h.n⟩
theorem LJ.doneB {out:Array Keyed} (h:LJ κ a b n out ia ib) (e:ib=b.size):Srt κ (a.toList++b.toList) (out++a.extract ia a.size++b.extract ib b.size).toList:=by
 have m:=h.mi;have d:b.toList.drop ib=[]:=by rw[e];simp
 rw[d]at m;rw[QK,QK,iy,iy,d,Xm];exact m.endY
theorem LJ.doneA {out:Array Keyed} (h:LJ κ a b n out ia ib) (e:ia=a.size):Srt κ (a.toList++b.toList) (out++a.extract ia a.size++b.extract ib b.size).toList:=by
 have m:=h.mi;have d:a.toList.drop ia=[]:=by rw[e];simp
 rw[d]at m;rw[QK,QK,iy,iy,d,Xm];exact m.endX
theorem LJ.lastA {out:Array Keyed} (h:LJ κ a b n out ia ib) (e:ia+1=a.size):Srt κ (a.toList++b.toList) (out++b.extract ib b.size++a.extract ia a.size).toList:=by
 have m:=h.mi;obtain⟨p,_,d,_⟩:=aZ (a:=a) (i:=ia) (by exact Ef e);have d2:a.toList.drop (ia+1)=[]:=by rw[e];simp
 rw[d2]at d;rw[d]at m;rw[QK,QK,iy,iy,d];exact m.lastX
variable {p q key:Keyed}
theorem LJ.pushB {out:Array Keyed} (h:LJ κ a b n out ia ib) (ha:a[ia]?=some p) (hb:b[ib]?=some q) (c:le κ q p):LJ κ a b (n+1) (out.push q) ia (ib+1):=by
 have lb:=(QF.mp hb).1;have la:=(QF.mp ha).1;obtain⟨p',e1,d1,_⟩:=aZ la;obtain⟨q',e2,d2,_⟩:=aZ lb;rw[ha]at e1;rw[hb]at e2;cases e1;cases e2;have m:=h.mi;rw[d1,d2]at m;have m:=m.takeY c;rw[<-d1]at m;refine⟨by rw[Array.toList_push];exact m,h.la,lb,by rw[Array.size_push,h.lo];exact Ee,by rw[Array.size_push];have:=h.n;exact sE this⟩
theorem LJ.pushA {out:Array Keyed} (h:LJ κ a b n out ia ib) (ha:a[ia]?=some p) (hb:b[ib]?=some q) (c:le κ p q):LJ κ a b (n+1) (out.push p) (ia+1) ib:=by
 have lb:=(QF.mp hb).1;have la:=(QF.mp ha).1;obtain⟨p',e1,d1,_⟩:=aZ la;obtain⟨q',e2,d2,_⟩:=aZ lb;rw[ha]at e1;rw[hb]at e2;cases e1;cases e2;have m:=h.mi;rw[d1,d2]at m;have m:=m.takeX c;rw[<-d2]at m;refine⟨by rw[Array.toList_push];exact m,la,h.lb,by rw[Array.size_push,h.lo];exact Ed,by rw[Array.size_push];have:=h.n;exact sE this⟩
theorem LJ.runA {out:Array Keyed} {k:Nat} (h:LJ κ a b n out ia ib) (hb:b[ib]?=some q) (hk:ia+k<=a.size) (c:∀i,i<k->∀p,a[ia+i]?=some p->le κ p q):LJ κ a b n (out++a.extract ia (ia+k)) (ia+k) ib:=by
 have lb:=(QF.mp hb).1;obtain⟨q',e2,d2,_⟩:=aZ lb;rw[hb]at e2;cases e2;have m:=h.mi;have sy:=m.sy;rw[<-QY k (a.toList.drop ia)]at m
 have m:=m.takeXs λp hp r hr=>by
  obtain⟨i,hi,e⟩:=Qq.mp hp;rw[Qs]at hi;have e3:=Qd (l:=(a.toList.drop ia).take k) (i:=i) (by rw[Qs];exact A_ hi);rw[e,List.getElem?_take,QJ (by exact wy hi),List.getElem?_drop,Qy]at e3;rw[d2]at hr sy;exact fS sy (c i (by exact wy hi) p e3) hr
 rw[List.drop_drop]at m;have sz:(a.extract ia (ia+k)).size=k:=by rw[Array.size_extract];exact A9 hk
 refine⟨by rw[QK,i6];exact m,hk,h.lb,by rw[Xd,sz,h.lo];exact Ec,by rw[Xd];have:=h.n;exact A8 sz this⟩
theorem LJ.runB {out:Array Keyed} {k:Nat} (h:LJ κ a b n out ia ib) (ha:a[ia]?=some p) (hk:ib+k<=b.size) (c:∀i,i<k->∀q,b[ib+i]?=some q->le κ q p):LJ κ a b n (out++b.extract ib (ib+k)) ia (ib+k):=by
 have la:=(QF.mp ha).1;obtain⟨p',e2,d2,_⟩:=aZ la;rw[ha]at e2;cases e2;have m:=h.mi;have sx:=m.sx;rw[<-QY k (b.toList.drop ib)]at m
 have m:=m.takeYs λq hq r hr=>by
  obtain⟨i,hi,e⟩:=Qq.mp hq;rw[Qs]at hi;have e3:=Qd (l:=(b.toList.drop ib).take k) (i:=i) (by rw[Qs];exact A_ hi);rw[e,List.getElem?_take,QJ (by exact wy hi),List.getElem?_drop,Qy]at e3;rw[d2]at hr sx;exact fS sx (c i (by exact wy hi) q e3) hr
 rw[List.drop_drop]at m;have sz:(b.extract ib (ib+k)).size=k:=by rw[Array.size_extract];exact A9 hk
 refine⟨by rw[QK,i6];exact m,h.la,hk,by rw[Xd,sz,h.lo];exact Eb,by rw[Xd];have:=h.n;exact A8 sz this⟩
theorem rl (s:a.toList.Pairwise (le κ)) (h:i<=j) (hi:a[i]?=some p) (hj:a[j]?=some q):le κ p q:=by
 by_cases e:i=j
 ·subst e;rw[hi]at hj;cases hj;exact Xy _
 have li:=(QF.mp hi).1;have lj:=(QF.mp hj).1;have:=(List.pairwise_iff_getElem.mp s) i j (by simpa using li) (by simpa using lj) (by exact A7 h e);rw[Xs li]at hi;rw[Xs lj]at hj;cases hi;cases hj;simpa using this
theorem fH (hL:iB κ kd prog w A s) {st:SortSt} {left:Bool} {a:Array Keyed} {base n hint:Nat} {Q:Option Nat->SortSt->Prop} (hk:kindOf st=kd) (hkey:Hk κ key) (ha:∀p∈a.toList,Hk κ p) (hn:base+n<=a.size)
  (sa:∀i j p q,base<=i->i<=j->j<base+n->a[i]?=some p->a[j]?=some q->le κ p q) (hh:hint<n)
  (h:∀k,k<=n->(∀i,i<k->∀p,a[base+i]?=some p->bey κ left key p=true)->(∀i,k<=i->i<n->∀p,a[base+i]?=some p->bey κ left key p=false)->Q (some k) st):wpS (model prog w) A E s (mM left key a base n hint) Q st:=by
 refine oY hL (λi=>match a[base+i]? with|some p=>bey κ left key p|none=>false) hk hkey (λi hi=>?_) (λi j h1 h2 h3=>?_) hh (λk h1 h2 h3=>h k h1 (λi hi p e=>?_) (λi hi hj p e=>?_))
 ·have:base+i<a.size:=by exact A6 hn hi
  obtain⟨p,e,_,m⟩:=aZ this;exact⟨p,e,ha p m,by rw[e]⟩
 ·obtain⟨p,e,_⟩:=aZ (a:=a) (i:=base+i) (by exact Ea hn h1 h2);obtain⟨q,e2,_⟩:=aZ (a:=a) (i:=base+j) (by exact A6 hn h2);have l:=sa _ _ p q (by exact uL) (show base+i<=base+j by exact D_ h1) (by exact D9 h2) e e2;rw[e2]at h3;rw[e];dsimp only at h3 ⊢;unfold bey at h3 ⊢
  cases left with
  | true =>
   rw[QJ rfl]at h3 ⊢;exact KeyOrd.klt_of_kle_of_klt l h3
  | false =>
  rw[QA (by simp)]at h3 ⊢;have h3:κ.kle (kv κ q) (kv κ key):=by simpa[KeyOrd.kle] using h3
  have:=KeyOrd.kle_trans l h3;simpa[KeyOrd.kle] using this
 ·have:=h2 i hi;rwa [e]at this
 have:=h3 i hi hj;rwa [e]at this
theorem mR (h:bey κ false key p=true):le κ p key:=by
 unfold bey at h;rw[QA (by simp)]at h;simpa[le,KeyOrd.kle] using h
theorem mQ (h:bey κ true key p=true):le κ p key:=by
 unfold bey at h;rw[QJ rfl]at h;exact KeyOrd.kle_of_klt h
theorem mT (h:bey κ false key p=false):le κ key p:=by
 unfold bey at h;rw[QA (by simp)]at h;exact KeyOrd.kle_of_klt (show κ.blt (kv κ key) (kv κ p)=true by simpa using h)
theorem mU (h:bey κ true key p=false):le κ key p:=by
 unfold bey at h;rw[QJ rfl]at h;exact h
end
section
theorem hV {U α β:Type} {M:Model} {Q:α->U->Prop} {st:U} {m:StateT U Sem α} (f:β->StateT U Sem α) (I:β->Prop) (J:∀z,I z->wpS M A E s (f z) Q st) (h:(∀z,I z->wpS M A E s (f z) Q st)->wpS M A E s m Q st):wpS M A E s m Q st:=h J
@[reducible] def EM (κ:KeyKind) (a b:Array Keyed) (st:SortSt) (x:Nat) (c:Option (Array Keyed) × Array Keyed × Nat × Nat × Nat) (st':SortSt):Prop:=Gs st st'/\∃out ia ib mg,c=(none,out,ia,ib,mg)/\LJ κ a b (x+1) out ia ib/\ia+1<a.size/\ib<b.size
@[reducible] def EL (κ:KeyKind) (a b:Array Keyed) (st:SortSt)  (c:Option (Array Keyed) × Array Keyed × Nat × Nat × Nat) (st':SortSt):Prop:=Gs st st'/\∃r rest,c=(some r,rest)/\Srt κ (a.toList++b.toList) r.toList
@[reducible] def EK (κ:KeyKind) (a b:Array Keyed) (st:SortSt) (x x':Nat) (c:Option (Array Keyed) × Array Keyed × Nat × Nat × Nat × Nat) (st':SortSt):Prop:=st'=st/\∃out ia ib ac bc,c=(none,out,ia,ib,ac,bc)/\LJ κ a b (x+1+x') out ia ib/\ia+1<a.size/\ib<b.size
@[reducible] def EJ (κ:KeyKind) (a b:Array Keyed) (st:SortSt) (x:Nat) (c:Option (Array Keyed) × Array Keyed × Nat × Nat × Nat × Nat) (st':SortSt):Prop:=st'=st/\((∃r rest,c=(some r,rest)/\Srt κ (a.toList++b.toList) r.toList)\/∃out ia ib ac bc,c=(none,out,ia,ib,ac,bc)/\LJ κ a b (x+1) out ia ib/\ia+1<a.size/\ib<b.size)
@[reducible] def EI (κ:KeyKind) (a b:Array Keyed) (st:SortSt) (x x':Nat) (c:Option (Array Keyed) × Array Keyed × Nat × Nat × Nat × Nat × Nat) (st':SortSt):Prop:=Gs st st'/\∃out ia ib mg ac bc,c=(none,out,ia,ib,mg,ac,bc)/\LJ κ a b (x+1+x') out ia ib/\ia+1<a.size/\ib<b.size
@[reducible] def EH (κ:KeyKind) (a b:Array Keyed) (st:SortSt) (x:Nat) (c:Option (Array Keyed) × Array Keyed × Nat × Nat × Nat × Nat × Nat) (st':SortSt):Prop:=Gs st st'/\((∃r rest,c=(some r,rest)/\Srt κ (a.toList++b.toList) r.toList)\/∃out ia ib mg ac bc,c=(none,out,ia,ib,mg,ac,bc)/\LJ κ a b (x+2) out ia ib/\ia+1<a.size/\ib<b.size)
theorem nk (hL:iB κ kd prog w A s) {st:SortSt} {a b:Array Keyed} {Q:Array Keyed->SortSt->Prop} (hk:kindOf st=kd) (ha:∀p∈a.toList,Hk κ p) (hb:∀p∈b.toList,Hk κ p)
  (na:1<=a.size) (nb:1<=b.size) (mi:MI κ (a.toList++b.toList) [] a.toList b.toList) (first:∀p∈a.toList,∀q,b[0]?=some q->le κ q p)
  (h:∀r st',Gs st st'->Srt κ (a.toList++b.toList) r.toList->Q r st'):wpS (model prog w) A E s (oA a b) Q st:=by
 have sa:=mi.sx;have sb:=mi.sy;unfold oA;refine Qp (wpS_lift (wpAny_rule ⟨rfl,?_⟩));obtain⟨q0,hq0,_⟩:=aZ (a:=b) (i:=0) (by exact uK nb);obtain⟨p0,hp0,_,mp0⟩:=aZ (a:=a) (i:=0) (by exact uK na);have j0:LJ κ a b 0 #[] 0 0:=⟨by simpa using mi,by exact A5 na,by exact A5 nb,rfl,QQ _⟩;have j1:=j0.pushB hp0 hq0 (first p0 mp0 q0 hq0);have j1:LJ κ a b 1 #[q0] 0 1:=j1;refine Qp (bg hq0 ?_);refine wpS_mono (Q:=λr st'=>Gs st st'/\Srt κ (a.toList++b.toList) r.toList) ?_ (λr st' z=>h r st' z.1 z.2);clear h
 extract_lets out0
 by_cases c1:1=b.size
 ·refine aS (bT c1) ?_;exact Qt ⟨.refl _,j1.doneB c1⟩
 refine aQ (bF c1) ?_;by_cases c2:0+1=a.size
 ·refine aS (bT c2) ?_;exact Qt ⟨.refl _,j1.lastA c2⟩
 refine aQ (bF c2) ?_;refine Qp (wpS_get ?_)
 extract_lets mg0
 refine Qp (wpS_mono (Xj (I:=EM κ a b st)
  (Q:=EL κ a b st) ?step ?fin ⟨.refl _,out0,0,1,mg0,rfl,j1,by exact D8 na c2,by exact D7 na nb c1 c2⟩) ?post)
 case post =>
  rintro c st' ⟨g,r,rest,rfl,hr⟩;exact Qt ⟨g,hr⟩
 case fin =>
  rintro c st' ⟨g,out,ia,ib,mg,rfl,j,l1,l2⟩;have:=j.n;have:=j.lo;omega
 case step =>
  rintro x c st1 _ hx ⟨g,out,ia,ib,mg,rfl,j,l1,l2⟩
  refine Qp (wpS_mono (Xj (I:=EK κ a b st1 x)
   (Q:=EJ κ a b st1 x) ?step1 ?fin1 ⟨rfl,out,ia,ib,0,0,rfl,j,l1,l2⟩) ?post1)
  case fin1 =>
   rintro c st' ⟨rfl,out,ia,ib,ac,bc,rfl,j,l1,l2⟩;have:=j.n;have:=j.lo;omega
  case step1 =>
   clear j l1 l2;rintro x' c st' _ hx' ⟨rfl,out,ia,ib,ac,bc,rfl,j,l1,l2⟩;obtain⟨p,hp,_,mp⟩:=aZ (a:=a) (i:=ia) (by exact zh l1);obtain⟨q,hq,_,mq⟩:=aZ (a:=b) (i:=ib) l2;refine Qp (bg hq (Qp (bg hp (Qp (i_ hL (by rw[g.kind];exact hk) (hb q mq) (ha p mp) ?_)))));dsimp only
   cases e:κ.blt (kv κ q) (kv κ p) with
   | true =>
    refine aS rfl ?_;refine Qp (bg hq ?_);have j2:=j.pushB hp hq (KeyOrd.kle_of_klt e);by_cases d1:ib+1=b.size
    ·refine aS (bT d1) ?_;exact Qt ⟨rfl,.inl ⟨_,_,rfl,j2.doneB d1⟩⟩
    refine aQ (bF d1) ?_;by_cases d2:bc+1>=mg
    ·refine aS d2 ?_;exact Qt ⟨rfl,.inr ⟨_,_,_,_,_,rfl,j2.less (by omega),l1,by exact zg l2 d1⟩⟩
    refine aQ d2 ?_;exact Qt ⟨rfl,_,_,_,_,_,rfl,j2.less (by exact wx),l1,by exact zg l2 d1⟩
   | false =>
   refine aQ Qk ?_;refine Qp (bg hp ?_);have j2:=j.pushA hp hq e;by_cases d1:ia+1+1=a.size
   ·refine aS (bT d1) ?_;exact Qt ⟨rfl,.inl ⟨_,_,rfl,j2.lastA d1⟩⟩
   refine aQ (bF d1) ?_;by_cases d2:ac+1>=mg
   ·refine aS d2 ?_;exact Qt ⟨rfl,.inr ⟨_,_,_,_,_,rfl,j2.less (by omega),by exact A4 l1 d1,l2⟩⟩
   refine aQ d2 ?_;exact Qt ⟨rfl,_,_,_,_,_,rfl,j2.less (by exact wx),by exact A4 l1 d1,l2⟩
  case post1 =>
   clear j l1 l2;rintro c st' ⟨rfl,⟨r,rest,rfl,hr⟩|⟨out,ia,ib,ac,bc,rfl,j,l1,l2⟩⟩
   ·exact Qt ⟨g,r,_,rfl,hr⟩
   refine Qp (wpS_lift (wpAny_rule ⟨rfl,?_⟩))
   refine Qp (wpS_mono (Xj (I:=EI κ a b st x)
    (Q:=EH κ a b st x) ?step2 ?fin2 ⟨g,out,ia,ib,_,ac,bc,rfl,j,l1,l2⟩) ?post2)
   case fin2 =>
    rintro c st' ⟨g,out,ia,ib,mg,ac,bc,rfl,j,l1,l2⟩;have:=j.n;have:=j.lo;omega
   case post2 =>
    rintro c st' ⟨g,⟨r,rest,rfl,hr⟩|⟨out,ia,ib,mg,ac,bc,rfl,j,l1,l2⟩⟩
    ·exact Qt ⟨g,r,_,rfl,hr⟩
    refine Qp (eL λst2 g2=>?_);exact Qt ⟨g.trans g2,_,_,_,_,rfl,j,l1,l2⟩
   case step2 =>
    clear j l1 l2 g;rintro x' c st2 _ hx' ⟨g,out,ia,ib,mg,ac,bc,rfl,j,l1,l2⟩;obtain⟨p,hp,_,mp⟩:=aZ (a:=a) (i:=ia) (by exact zh l1);obtain⟨q,hq,_,mq⟩:=aZ (a:=b) (i:=ib) l2
    extract_lets s1 o1 s2 x1 s3 y1 s4 m1 s5 ac1 bc1 ib2 jp mgm
    refine hV (λm=>jp () m) (λ_=>True) (λm _=>?_) (λJ=>?_)
    ·refine Qp (eL λst3 g3=>?_);have g4:=g.trans g3;have hk3:kindOf st3=kd:=by rw[g4.kind];exact hk
     refine Qp (bg hq ?_);refine Qp (fH (a:=a) (base:=ia) (n:=a.size-ia) hL hk3 (hb q mq) ha (by exact D6 l1) (λi j p q _ h _ e1 e2=>rl sa h e1 e2) (by exact D5 l1) λk k1 k2 k3=>?_);dsimp -zeta only
     extract_lets ac2 jp2 o2 x2
     refine hV (λz:Array Keyed × Nat=>jp2 () z.1 z.2) (λz=>LJ κ a b (x+1+x') z.1 z.2 ib/\z.2+1<a.size/\∀p,a[z.2]?=some p->le κ q p) (λz hz=>?_) (λJ2=>?_)
     ·obtain⟨o3,x3⟩:=z;obtain⟨j3,l3,f3⟩:=hz;dsimp only at j3 l3 f3;obtain⟨p3,hp3,_,mp3⟩:=aZ (a:=a) (i:=x3) (by exact zh l3);refine Qp (bg hq ?_);have j4:=j3.pushB hp3 hq (f3 p3 hp3);by_cases d1:ib+1=b.size
      ·refine aS (bT d1) ?_;exact Qt ⟨g4,.inl ⟨_,_,rfl,j4.doneB d1⟩⟩
      refine aQ (bF d1) ?_;refine Qp (bg hp3 ?_);refine Qp (fH (a:=b) (base:=ib+1) (n:=b.size-(ib+1)) hL hk3 (ha p3 mp3) hb (by exact D4 l2) (λi j p q _ h _ e1 e2=>rl sb h e1 e2) (by exact D3 l2 d1) λk' k1' k2' k3'=>?_);dsimp -zeta only
      extract_lets bc2 ia2 jp3 o4 y4
      refine hV (λz:Array Keyed × Nat=>jp3 () z.1 z.2) (λz=>LJ κ a b (x+1+x'+1) z.1 x3 z.2/\z.2<b.size/\∀q,b[z.2]?=some q->le κ p3 q) (λz hz=>?_) (λJ3=>?_)
      ·obtain⟨o5,y5⟩:=z;obtain⟨j5,l5,f5⟩:=hz;dsimp only at j5 l5 f5;obtain⟨q5,hq5,_,mq5⟩:=aZ (a:=b) (i:=y5) l5;refine Qp (bg hp3 ?_);have j6:=j5.pushA hp3 hq5 (f5 q5 hq5);by_cases d2:x3+1+1=a.size
       ·refine aS (bT d2) ?_;exact Qt ⟨g4,.inl ⟨_,_,rfl,j6.lastA d2⟩⟩
       refine aQ (bF d2) ?_;by_cases d3:(decide (ac2<7)&&decide (bc2<7))=true
       ·refine aS d3 ?_;exact Qt ⟨g4,.inr ⟨_,_,_,_,_,_,rfl,j6.less (by omega),by omega,l5⟩⟩
       refine aQ d3 ?_;exact Qt ⟨g4,_,_,_,_,_,_,rfl,j6.less (by exact A3),by omega,l5⟩
      by_cases d2:k'>0
      ·refine aS d2 ?_;have j5:LJ κ a b (x+1+x'+1) o4 x3 y4:=j4.runB hp3 (by exact D2 l2 k1') λi hi p e=>mQ (k2' i hi p e);have e2:y4=ib+1+k':=rfl;by_cases d3:y4=b.size
       ·refine aS (bT d3) ?_;exact Qt ⟨g4,.inl ⟨_,_,rfl,j5.doneB d3⟩⟩
       refine aQ (bF d3) ?_;exact J3 (o4,y4) ⟨j5,by dsimp only;omega,λp e=>mU (k3' k' (Qf _) (by omega) p e)⟩
      refine aQ d2 ?_;have:k'=0:=by exact A2 d2
      subst this;exact J3 (_,ib+1) ⟨j4,by dsimp only;exact zg l2 d1,λp e=>mU (k3' 0 (Qf _) (by exact D1 l2 d1 k1') p e)⟩
     by_cases d1:k>0
     ·refine aS d1 ?_;have j3:LJ κ a b (x+1+x') o2 x2 ib:=j.runA hq (by exact D0 l1 k1) λi hi p e=>mR (k2 i hi p e);have e2:x2=ia+k:=rfl;by_cases d2:x2+1=a.size
      ·refine aS (bT d2) ?_;exact Qt ⟨g4,.inl ⟨_,_,rfl,j3.lastA d2⟩⟩
      refine aQ (bF d2) ?_;by_cases d3:x2=a.size
      ·refine aS (bT d3) ?_;exact Qt ⟨g4,.inl ⟨_,_,rfl,j3.doneA d3⟩⟩
      refine aQ (bF d3) ?_;exact J2 (o2,x2) ⟨j3,by dsimp only;omega,λp e=>mT (k3 k (Qf _) (by omega) p e)⟩
     refine aQ d1 ?_;have:k=0:=by exact A2 d1
     subst this;exact J2 (o1,x1) ⟨j,l1,λp e=>mT (k3 0 (Qf _) (by exact DZ l1 k1) p e)⟩
    by_cases d:m1>1
    ·refine aS d ?_;exact J _ trivial
    refine aQ d ?_;exact J _ trivial
end
noncomputable def zX (κ:KeyKind):KeyKind where
 α:=κ.α
 blt a b:=κ.blt b a
 irrefl a:=κ.irrefl a
 trans a b c h1 h2:=κ.trans c b a h2 h1
 negTrans a b c h:=(κ.negTrans c b a h).symm
 total a b h1 h2:=(κ.total a b h2 h1)
 keyOf:=κ.keyOf
 dflt:=κ.dflt
section
variable {κ:KeyKind}
theorem ug {l:List Keyed} (h:l.Pairwise (le κ)):l.reverse.Pairwise (le (zX κ)):=List.pairwise_reverse.mpr h
theorem lV {L r:List Keyed} (h:Srt (zX κ) L r):Srt κ L r.reverse:=⟨(List.reverse_perm r).trans h.1,List.pairwise_reverse.mpr h.2⟩
variable {p q:Keyed}
theorem cL {a:Array Keyed} {i:Nat} (hi:1<=i) (h:a[i-1]?=some p):(a.toList.take i).reverse=p::(a.toList.take (i-1)).reverse:=by
 obtain⟨j,rfl⟩:∃j,i=j+1:=⟨i-1,by exact DY hi⟩;rw[Nat.add_sub_cancel]at h ⊢;rw[Q6,Qy,h,List.reverse_append];rfl
structure HJ (κ:KeyKind) (a b:Array Keyed) (n:Nat) (out:Array Keyed) (na nb:Nat):Prop where
 mi:MI (zX κ) (a.toList++b.toList) out.toList (b.toList.take nb).reverse (a.toList.take na).reverse
 la:na<=a.size
 lb:nb<=b.size
 lo:out.size+na+nb=a.size+b.size
 n:n<=out.size
variable {na nb n m i j:Nat} {a b:Array Keyed}
theorem HJ.less {out:Array Keyed} (h:HJ κ a b n out na nb) (hm:m<=n):HJ κ a b m out na nb:=⟨h.mi,h.la,h.lb,h.lo,QZ hm h.n⟩
theorem eE (a:Array Keyed) (i:Nat):(a.extract 0 i).toList=a.toList.take i:=by simp
theorem HJ.doneA {out:Array Keyed} (h:HJ κ a b n out na nb) (e:na=0):Srt κ (a.toList++b.toList) (a.extract 0 na++b.extract 0 nb++out.reverse).toList:=by
 subst e;have:=lV (MI.endY (by simpa using h.mi));rw[QK,QK,eE,eE,Array.toList_reverse];simpa using this
theorem HJ.doneB {out:Array Keyed} (h:HJ κ a b n out na nb) (e:nb=0):Srt κ (a.toList++b.toList) (a.extract 0 na++b.extract 0 nb++out.reverse).toList:=by
 subst e;have:=lV (MI.endX (by simpa using h.mi));rw[QK,QK,eE,eE,Array.toList_reverse];simpa using this
theorem HJ.firstB {out:Array Keyed} (h:HJ κ a b n out na nb) (e:nb=1):Srt κ (a.toList++b.toList) (b.extract 0 nb++a.extract 0 na++out.reverse).toList:=by
 subst e;obtain⟨q,hq,_⟩:=aZ (a:=b) (i:=0) (by have:=h.lb;exact uK this);have m:=h.mi;have tr:=cL (a:=b) (i:=1) (Qf _) hq;rw[Nat.sub_self,List.take_zero,List.reverse_nil]at tr;rw[tr]at m;have:=lV m.lastX
 have t1:b.toList.take 1=[q]:=by
  have:=congrArg List.reverse tr;simpa using this
 rw[QK,QK,eE,eE,Array.toList_reverse,t1];simpa using this
theorem HJ.pushA {out:Array Keyed} (h:HJ κ a b n out na nb) (n1:1<=na) (n2:1<=nb) (ha:a[na-1]?=some p) (hb:b[nb-1]?=some q) (c:le κ q p):HJ κ a b (n+1) (out.push p) (na-1) nb:=by
 have m:=h.mi;rw[cL n1 ha,cL n2 hb]at m;have m:=m.takeY c;rw[<-cL n2 hb]at m;refine⟨by rw[Array.toList_push];exact m,by have:=h.la;exact A1 n1 this,h.lb,by rw[Array.size_push];have:=h.lo;exact DX n1 this,by rw[Array.size_push];have:=h.n;exact sE this⟩
theorem HJ.pushB {out:Array Keyed} (h:HJ κ a b n out na nb) (n1:1<=na) (n2:1<=nb) (ha:a[na-1]?=some p) (hb:b[nb-1]?=some q) (c:le κ p q):HJ κ a b (n+1) (out.push q) na (nb-1):=by
 have m:=h.mi;rw[cL n1 ha,cL n2 hb]at m;have m:=m.takeX c;rw[<-cL n1 ha]at m;refine⟨by rw[Array.toList_push];exact m,h.la,by have:=h.lb;exact A1 n2 this,by rw[Array.size_push];have:=h.lo;exact DW n2 this,by rw[Array.size_push];have:=h.n;exact sE this⟩
theorem nA (l:List Keyed) (h:i<=j):(l.take j).reverse=((l.take j).drop i).reverse++(l.take i).reverse:=by
 rw[<-List.reverse_append];congr 1;have:=QY i (l.take j);rw[List.take_take,Nat.min_eq_left h]at this;exact this.symm
theorem rC (a:Array Keyed) (h:i<=j):(a.extract i j).reverse.toList=((a.toList.take j).drop i).reverse:=by
 simp[List.drop_take]
theorem rg (h:p∈((a.toList.take j).drop i).reverse):∃k,i<=k/\k<j/\a[k]?=some p:=by
 rw[List.mem_reverse]at h;obtain⟨m,hm,e⟩:=Qq.mp h;rw[Q4,Qs]at hm;have e3:=Qd (l:=(a.toList.take j).drop i) (i:=m) (by rw[Q4,Qs];exact DV hm);rw[e,List.getElem?_drop,List.getElem?_take,QJ (by exact A0 hm),Qy]at e3;exact⟨i+m,by exact uL,by exact A0 hm,e3⟩
theorem HJ.runA {out:Array Keyed} {k:Nat} (h:HJ κ a b n out na nb) (n2:1<=nb) (hb:b[nb-1]?=some q) (hk:k<=na) (c:∀i,k<=i->i<na->∀p,a[i]?=some p->le κ q p):HJ κ a b n (out++(a.extract k na).reverse) k nb:=by
 have m:=h.mi;have sx:=m.sx;rw[nA _ hk]at m
 have m:=m.takeYs λp hp r hr=>by
  obtain⟨i,h1,h2,e⟩:=rg hp;rw[cL n2 hb]at hr sx;exact fS sx (c i h1 h2 p e) hr
 have sz:(a.extract k na).reverse.size=na-k:=by rw[Array.size_reverse,Array.size_extract];have:=h.la;exact AZ hk this
 refine⟨by rw[QK,rC _ hk];exact m,by have:=h.la;exact AY hk this,h.lb,by rw[Xd,sz];have:=h.lo;omega,by rw[Xd];have:=h.n;exact AX sz this⟩
theorem HJ.runB {out:Array Keyed} {k:Nat} (h:HJ κ a b n out na nb) (n1:1<=na) (ha:a[na-1]?=some p) (hk:k<=nb) (c:∀i,k<=i->i<nb->∀q,b[i]?=some q->le κ p q):HJ κ a b n (out++(b.extract k nb).reverse) na k:=by
 have m:=h.mi;have sy:=m.sy;rw[nA _ hk]at m
 have m:=m.takeXs λq hq r hr=>by
  obtain⟨i,h1,h2,e⟩:=rg hq;rw[cL n1 ha]at hr sy;exact fS sy (c i h1 h2 q e) hr
 have sz:(b.extract k nb).reverse.size=nb-k:=by rw[Array.size_reverse,Array.size_extract];have:=h.lb;exact AZ hk this
 refine⟨by rw[QK,rC _ hk];exact m,h.la,by have:=h.lb;exact AY hk this,by rw[Xd,sz];have:=h.lo;omega,by rw[Xd];have:=h.n;exact AX sz this⟩
end
section
@[reducible] def ET (κ:KeyKind) (a b:Array Keyed) (st:SortSt) (x:Nat) (c:Option (Array Keyed) × Nat × Nat × Array Keyed × Nat) (st':SortSt):Prop:=Gs st st'/\∃na nb out mg,c=(none,na,nb,out,mg)/\HJ κ a b (x+1) out na nb/\1<=na/\2<=nb
@[reducible] def ES (κ:KeyKind) (a b:Array Keyed) (st:SortSt)  (c:Option (Array Keyed) × Nat × Nat × Array Keyed × Nat) (st':SortSt):Prop:=Gs st st'/\∃r rest,c=(some r,rest)/\Srt κ (a.toList++b.toList) r.toList
@[reducible] def ER (κ:KeyKind) (a b:Array Keyed) (st:SortSt) (x x':Nat) (c:Option (Array Keyed) × Nat × Nat × Array Keyed × Nat × Nat) (st':SortSt):Prop:=st'=st/\∃na nb out ac bc,c=(none,na,nb,out,ac,bc)/\HJ κ a b (x+1+x') out na nb/\1<=na/\2<=nb
@[reducible] def EQ (κ:KeyKind) (a b:Array Keyed) (st:SortSt) (x:Nat) (c:Option (Array Keyed) × Nat × Nat × Array Keyed × Nat × Nat) (st':SortSt):Prop:=st'=st/\((∃r rest,c=(some r,rest)/\Srt κ (a.toList++b.toList) r.toList)\/∃na nb out ac bc,c=(none,na,nb,out,ac,bc)/\HJ κ a b (x+1) out na nb/\1<=na/\2<=nb)
@[reducible] def EO (κ:KeyKind) (a b:Array Keyed) (st:SortSt) (x x':Nat) (c:Option (Array Keyed) × Nat × Nat × Array Keyed × Nat × Nat × Nat) (st':SortSt):Prop:=Gs st st'/\∃na nb out mg ac bc,c=(none,na,nb,out,mg,ac,bc)/\HJ κ a b (x+1+x') out na nb/\1<=na/\2<=nb
@[reducible] def EN (κ:KeyKind) (a b:Array Keyed) (st:SortSt) (x:Nat) (c:Option (Array Keyed) × Nat × Nat × Array Keyed × Nat × Nat × Nat) (st':SortSt):Prop:=Gs st st'/\((∃r rest,c=(some r,rest)/\Srt κ (a.toList++b.toList) r.toList)\/∃na nb out mg ac bc,c=(none,na,nb,out,mg,ac,bc)/\HJ κ a b (x+2) out na nb/\1<=na/\2<=nb)
theorem nr (hL:iB κ kd prog w A s) {st:SortSt} {a b:Array Keyed} {Q:Array Keyed->SortSt->Prop} (hk:kindOf st=kd) (ha:∀p∈a.toList,Hk κ p) (hb:∀p∈b.toList,Hk κ p)
  (na:1<=a.size) (nb:1<=b.size) (sa:a.toList.Pairwise (le κ)) (sb:b.toList.Pairwise (le κ)) (first:∀p∈a.toList,∀q,b[0]?=some q->le κ q p) (last:∀q∈b.toList,∀p,a[a.size-1]?=some p->le κ q p)
  (h:∀r st',Gs st st'->Srt κ (a.toList++b.toList) r.toList->Q r st'):wpS (model prog w) A E s (oB a b) Q st:=by
 unfold oB;refine Qp (wpS_lift (wpAny_rule ⟨rfl,?_⟩));obtain⟨q0,hq0,_,mq0⟩:=aZ (a:=b) (i:=b.size-1) (by exact sD nb);obtain⟨qf,hqf,_,mqf⟩:=aZ (a:=b) (i:=0) (by exact uK nb);obtain⟨p0,hp0,_,mp0⟩:=aZ (a:=a) (i:=a.size-1) (by exact sD na)
 have j0:HJ κ a b 0 #[] a.size b.size:=by
  have e1:a.toList.take a.size=a.toList:=Qw (by simp);have e2:b.toList.take b.size=b.toList:=Qw (by simp);refine⟨⟨?_,List.Pairwise.nil,by rw[e2];exact ug sb,by rw[e1];exact ug sa,λp hp=>(nomatch hp),λp hp=>(nomatch hp),λq hq l hl=>?_⟩,Qf _,Qf _,by simp,QQ _⟩
  ·rw[e1,e2];show ([]++(b.toList.reverse++a.toList.reverse)).Perm _;rw[List.nil_append,<-List.reverse_append];exact List.reverse_perm _
  rw[e1,List.mem_reverse]at hq;rw[e2,List.getLast?_reverse]at hl;refine first q hq l ?_;rw[<-Qy,<-List.head?_eq_getElem?];exact hl
 have j1:=j0.pushA na nb hp0 hq0 (last q0 mq0 p0 hp0);have j1:HJ κ a b 1 #[p0] (a.size-1) b.size:=j1
 extract_lets tot dn fb na0 nb0 z0
 refine Qp (bg hp0 ?_);refine wpS_mono (Q:=λr st'=>Gs st st'/\Srt κ (a.toList++b.toList) r.toList) ?_ (λr st' z=>h r st' z.1 z.2);clear h
 extract_lets out0
 by_cases c1:na0=0
 ·refine aS (bT c1) ?_;exact Qt ⟨.refl _,j1.doneA c1⟩
 refine aQ (bF c1) ?_;by_cases c2:b.size=1
 ·refine aS (bT c2) ?_;exact Qt ⟨.refl _,j1.firstB c2⟩
 refine aQ (bF c2) ?_;refine Qp (wpS_get ?_)
 extract_lets mg0
 have e0:na0=a.size-1:=rfl
 refine Qp (wpS_mono (Xj (I:=ET κ a b st)
  (Q:=ES κ a b st) ?step ?fin ⟨.refl _,na0,nb0,out0,mg0,rfl,j1,by exact DU na nb c1 c2,by omega⟩) ?post)
 case post =>
  rintro c st' ⟨g,r,rest,rfl,hr⟩;exact Qt ⟨g,hr⟩
 case fin =>
  rintro c st' ⟨g,na,nb,out,mg,rfl,j,l1,l2⟩;have:=j.n;have:=j.lo;omega
 case step =>
  rintro x c st1 _ hx ⟨g,na,nb,out,mg,rfl,j,l1,l2⟩
  refine Qp (wpS_mono (Xj (I:=ER κ a b st1 x)
   (Q:=EQ κ a b st1 x) ?step1 ?fin1 ⟨rfl,na,nb,out,0,0,rfl,j,l1,l2⟩) ?post1)
  case fin1 =>
   rintro c st' ⟨rfl,na,nb,out,ac,bc,rfl,j,l1,l2⟩;have:=j.n;have:=j.lo;omega
  case step1 =>
   clear j l1 l2;rintro x' c st' _ hx' ⟨rfl,na,nb,out,ac,bc,rfl,j,l1,l2⟩;have la:=j.la;have lb:=j.lb;obtain⟨p,hp,_,mp⟩:=aZ (a:=a) (i:=na-1) (by exact ze l1 la);obtain⟨q,hq,_,mq⟩:=aZ (a:=b) (i:=nb-1) (by exact zd l2 lb);refine Qp (bg hq (Qp (bg hp (Qp (i_ hL (by rw[g.kind];exact hk) (hb q mq) (ha p mp) ?_)))));dsimp -zeta only
   cases e:κ.blt (kv κ q) (kv κ p) with
   | true =>
    refine aS rfl ?_;refine Qp (bg hp ?_);have j2:=j.pushA l1 (by exact uJ l2) hp hq (KeyOrd.kle_of_klt e);by_cases d1:na-1=0
    ·refine aS (bT d1) ?_;exact Qt ⟨rfl,.inl ⟨_,_,rfl,j2.doneA d1⟩⟩
    refine aQ (bF d1) ?_;by_cases d2:ac+1>=mg
    ·refine aS d2 ?_;exact Qt ⟨rfl,.inr ⟨_,_,_,_,_,rfl,j2.less (by omega),by exact AK l1 d1,l2⟩⟩
    refine aQ d2 ?_;exact Qt ⟨rfl,_,_,_,_,_,rfl,j2.less (by exact wx),by exact AK l1 d1,l2⟩
   | false =>
   refine aQ Qk ?_;refine Qp (bg hq ?_);have j2:=j.pushB l1 (by exact uJ l2) hp hq e;by_cases d1:nb-1=1
   ·refine aS (bT d1) ?_;exact Qt ⟨rfl,.inl ⟨_,_,rfl,j2.firstB d1⟩⟩
   refine aQ (bF d1) ?_;by_cases d2:bc+1>=mg
   ·refine aS d2 ?_;exact Qt ⟨rfl,.inr ⟨_,_,_,_,_,rfl,j2.less (by omega),l1,by exact AJ l2 d1⟩⟩
   refine aQ d2 ?_;exact Qt ⟨rfl,_,_,_,_,_,rfl,j2.less (by exact wx),l1,by exact AJ l2 d1⟩
  case post1 =>
   clear j l1 l2;rintro c st' ⟨rfl,⟨r,rest,rfl,hr⟩|⟨na,nb,out,ac,bc,rfl,j,l1,l2⟩⟩
   ·exact Qt ⟨g,r,_,rfl,hr⟩
   refine Qp (wpS_lift (wpAny_rule ⟨rfl,?_⟩))
   refine Qp (wpS_mono (Xj (I:=EO κ a b st x)
    (Q:=EN κ a b st x) ?step2 ?fin2 ⟨g,na,nb,out,_,ac,bc,rfl,j,l1,l2⟩) ?post2)
   case fin2 =>
    rintro c st' ⟨g,na,nb,out,mg,ac,bc,rfl,j,l1,l2⟩;have:=j.n;have:=j.lo;omega
   case post2 =>
    rintro c st' ⟨g,⟨r,rest,rfl,hr⟩|⟨na,nb,out,mg,ac,bc,rfl,j,l1,l2⟩⟩
    ·exact Qt ⟨g,r,_,rfl,hr⟩
    refine Qp (eL λst2 g2=>?_);exact Qt ⟨g.trans g2,_,_,_,_,rfl,j,l1,l2⟩
   case step2 =>
    clear j l1 l2 g;rintro x' c st2 _ hx' ⟨g,na,nb,out,mg,ac,bc,rfl,j,l1,l2⟩;have la:=j.la;have lb:=j.lb;obtain⟨p,hp,_,mp⟩:=aZ (a:=a) (i:=na-1) (by exact ze l1 la);obtain⟨q,hq,_,mq⟩:=aZ (a:=b) (i:=nb-1) (by exact zd l2 lb)
    extract_lets s1 x1 s2 y1 s3 o1 s4 m1 s5 ac1 bc1 nb2 jp mgm
    refine hV (λm=>jp () m) (λ_=>True) (λm _=>?_) (λJ=>?_)
    ·refine Qp (eL λst3 g3=>?_);have g4:=g.trans g3;have hk3:kindOf st3=kd:=by rw[g4.kind];exact hk
     refine Qp (bg hq ?_);refine Qp (fH (a:=a) (base:=0) (n:=na) (hint:=na-1) hL hk3 (hb q mq) ha (by exact DT la) (λi j p q _ h _ e1 e2=>rl sa h e1 e2) (by exact sD l1) λk k1 k2 k3=>?_);simp only[Nat.zero_add]at k2 k3;dsimp -zeta only
     extract_lets kk ac2 jp2 o2 x2
     refine hV (λz:Nat × Array Keyed=>jp2 () z.1 z.2) (λz=>HJ κ a b (x+1+x') z.2 z.1 nb/\1<=z.1/\∀p,a[z.1-1]?=some p->le κ p q) (λz hz=>?_) (λJ2=>?_)
     ·obtain⟨x3,o3⟩:=z;obtain⟨j3,l3,f3⟩:=hz;dsimp only at j3 l3 f3;have la3:=j3.la;obtain⟨p3,hp3,_,mp3⟩:=aZ (a:=a) (i:=x3-1) (by exact ze l3 la3);refine Qp (bg hq ?_);have j4:=j3.pushB l3 (by exact uJ l2) hp3 hq (f3 p3 hp3);by_cases d1:nb-1=1
      ·refine aS (bT d1) ?_;exact Qt ⟨g4,.inl ⟨_,_,rfl,j4.firstB d1⟩⟩
      refine aQ (bF d1) ?_;refine Qp (bg hp3 ?_);refine Qp (fH (a:=b) (base:=0) (n:=nb-1) (hint:=nb-1-1) hL hk3 (ha p3 mp3) hb (by exact DS l2 lb) (λi j p q _ h _ e1 e2=>rl sb h e1 e2) (by exact DR l2) λk' k1' k2' k3'=>?_);simp only[Nat.zero_add]at k2' k3';dsimp -zeta only
      extract_lets kk' bc2 na4 jp3 o4 y4
      refine hV (λz:Nat × Array Keyed=>jp3 () z.1 z.2) (λz=>HJ κ a b (x+1+x'+1) z.2 x3 z.1/\2<=z.1/\∀q,b[z.1-1]?=some q->le κ q p3) (λz hz=>?_) (λJ3=>?_)
      ·obtain⟨y5,o5⟩:=z;obtain⟨j5,l5,f5⟩:=hz;dsimp only at j5 l5 f5;have lb5:=j5.lb;obtain⟨q5,hq5,_,mq5⟩:=aZ (a:=b) (i:=y5-1) (by exact zd l5 lb5);refine Qp (bg hp3 ?_);have j6:=j5.pushA l3 (by exact uJ l5) hp3 hq5 (f5 q5 hq5);by_cases d2:x3-1=0
       ·refine aS (bT d2) ?_;exact Qt ⟨g4,.inl ⟨_,_,rfl,j6.doneA d2⟩⟩
       refine aQ (bF d2) ?_;by_cases d3:(decide (ac2<7)&&decide (bc2<7))=true
       ·refine aS d3 ?_;exact Qt ⟨g4,.inr ⟨_,_,_,_,_,_,rfl,j6.less (by omega),by omega,l5⟩⟩
       refine aQ d3 ?_;exact Qt ⟨g4,_,_,_,_,_,_,rfl,j6.less (by exact A3),by omega,l5⟩
      have ek':kk'=nb-1-k':=rfl;by_cases d2:kk'>0
      ·refine aS d2 ?_;have j5:HJ κ a b (x+1+x'+1) o4 x3 y4:=j4.runB l3 hp3 (by exact DQ k1') λi h1 h2 p e=>mU (k3' i h1 h2 p e);have e2:y4=k':=rfl;by_cases d3:y4=1
       ·refine aS (bT d3) ?_;exact Qt ⟨g4,.inl ⟨_,_,rfl,j5.firstB d3⟩⟩
       refine aQ (bF d3) ?_;by_cases d4:y4=0
       ·refine aS (bT d4) ?_;exact Qt ⟨g4,.inl ⟨_,_,rfl,j5.doneB d4⟩⟩
       refine aQ (bF d4) ?_;exact J3 (y4,o4) ⟨j5,by dsimp only;exact DP d3 d4,λq e=>mQ (k2' (y4-1) (by omega) q e)⟩
      refine aQ d2 ?_;exact J3 (nb-1,_) ⟨j4,AO l2 d1,λq e=>mQ (k2' (nb-1-1) (by exact DO l2 ek' d2) q e)⟩
     have ek:kk=na-k:=rfl;by_cases d1:kk>0
     ·refine aS d1 ?_;have j3:HJ κ a b (x+1+x') o2 x2 nb:=j.runA (by exact uJ l2) hq (by exact zc k1) λi h1 h2 p e=>mT (k3 i h1 h2 p e);have e2:x2=k:=rfl;by_cases d2:x2=0
      ·refine aS (bT d2) ?_;exact Qt ⟨g4,.inl ⟨_,_,rfl,j3.doneA d2⟩⟩
      refine aQ (bF d2) ?_;exact J2 (x2,o2) ⟨j3,by dsimp only;exact C_ d2,λp e=>mR (k2 (x2-1) (by omega) p e)⟩
     refine aQ d1 ?_;exact J2 (na,out) ⟨j,l1,λp e=>mR (k2 (na-1) (by exact C9 l1 ek d1) p e)⟩
    by_cases d:m1>1
    ·refine aS d ?_;exact J _ trivial
    refine aQ d ?_;exact J _ trivial
end
section
structure Sg (lo:Nat) (st st':SortSt):Prop where
 kind:kindOf st'=kindOf st
 pend:pendingOf st'=pendingOf st
 fail:failedOf st'=failedOf st
 head:∀i,i<lo->(arrOf st')[i]?=(arrOf st)[i]?
 perm:(arrOf st').Perm (arrOf st)
theorem Sg.refl (lo:Nat) (st:SortSt):Sg lo st st:=⟨rfl,rfl,rfl,λ_ _=>rfl,Array.Perm.refl _⟩
variable {a b c st:SortSt} {lo i n nrem:Nat}
theorem Sg.trans (x:Sg lo a b) (y:Sg lo b c):Sg lo a c:=⟨y.kind.trans x.kind,y.pend.trans x.pend,y.fail.trans x.fail,λi h=>(y.head i h).trans (x.head i h),y.perm.trans x.perm⟩
theorem Sg.size (x:Sg lo a b):(arrOf b).size=(arrOf a).size:=x.perm.size_eq
theorem Sg.keys (x:Sg lo a b) (h:∀p∈(arrOf a).toList,Hk κ p):∀p∈(arrOf b).toList,Hk κ p:=λp hp=>h p ((Array.perm_iff_toList_perm.mp x.perm).mem_iff.mp hp)
variable {xs:Array Keyed}
theorem vd {p:Keyed} (h:xs[i]?=some p):KK κ xs i=kv κ p:=by unfold KK kv;rw[h]
theorem fG (hL:iB κ kd prog w A s) {i j:Nat} {Q:Option Bool->SortSt->Prop} (hk:kindOf st=kd) (ha:∀p∈(arrOf st).toList,Hk κ p) (hi:i<(arrOf st).size) (hj:j<(arrOf st).size)
  (h:Q (some (κ.blt (KK κ (arrOf st) i) (KK κ (arrOf st) j))) st):wpS (model prog w) A E s (ltAt' i j) Q st:=by
 obtain⟨p,hp,_,mp⟩:=aZ hi;obtain⟨q,hq,_,mq⟩:=aZ hj;rw[vd hp,vd hq]at h;rw[ltAt'_eq];exact Qp (wpS_get (Qp (bg hp (Qp (bg hq (i_ hL hk (ha p mp) (ha q mq) h))))))
def Up (κ:KeyKind) (xs:Array Keyed) (lo n:Nat):Prop:=∀i j,i<=j->j<n->κ.kle (KK κ xs (lo+i)) (KK κ xs (lo+j))
def nh (κ:KeyKind) (xs:Array Keyed) (lo n:Nat):Prop:=∀i j,i<=j->j<n->κ.kle (KK κ xs (lo+j)) (KK κ xs (lo+i))
theorem Up.one:Up κ xs lo 1:=λi j h1 h2=>by
 have:i=j:=by exact C8 h1 h2
 subst this;exact Xy _
theorem Up.more (h:Up κ xs lo n) (h1:1<=n) (c:κ.kle (KK κ xs (lo+(n-1))) (KK κ xs (lo+n))):Up κ xs lo (n+1):=λi j hij hj=>by
 by_cases e:j<n
 ·exact h i j hij e
 have:j=n:=by exact ym hj e
 subst this;by_cases e2:i=j
 ·subst e2;exact Xy _
 exact KeyOrd.kle_trans (h i (j-1) (by exact yk hij h1 e2) (by exact sD h1)) c
theorem nh.more (h:nh κ xs lo n) (h1:1<=n) (c:κ.kle (KK κ xs (lo+n)) (KK κ xs (lo+(n-1)))):nh κ xs lo (n+1):=λi j hij hj=>by
 by_cases e:j<n
 ·exact h i j hij e
 have:j=n:=by exact ym hj e
 subst this;by_cases e2:i=j
 ·subst e2;exact Xy _
 exact KeyOrd.kle_trans c (h i (j-1) (by exact yk hij h1 e2) (by exact sD h1))
theorem qy {lo a:Nat} {f:Nat->Option (Option Nat) × Nat->StateT SortSt Sem (ForInStep (Option (Option Nat) × Nat))} {Q:Option (Option Nat) × Nat->SortSt->Prop} (h1:1<=a) (h2:a<=nrem) (up:Up κ (arrOf st) lo a)
  (hf:∀x n (R:ForInStep (Option (Option Nat) × Nat)->SortSt->Prop),1<=n->n<nrem->(κ.klt (KK κ (arrOf st) (lo+n)) (KK κ (arrOf st) (lo+(n-1)))->R (.done (none,n)) st)->(κ.kle (KK κ (arrOf st) (lo+(n-1))) (KK κ (arrOf st) (lo+n))->R (.yield (none,n+1)) st)->wpS (model prog w) A E s (f x (none,n)) R st)
  (h:∀n,a<=n->n<=nrem->Up κ (arrOf st) lo n->(n=nrem\/κ.klt (KK κ (arrOf st) (lo+n)) (KK κ (arrOf st) (lo+(n-1))))->Q (none,n) st):wpS (model prog w) A E s (forIn [a:nrem] (none,a) f) Q st:=by
 refine Xj (I:=λx c st'=>st'=st/\c=(none,x)/\Up κ (arrOf st) lo x) ?_ ?_ ⟨rfl,rfl,up⟩
 ·rintro x c st' hax hx ⟨rfl,rfl,u⟩;exact hf x x _ (by exact yj h1 hax) hx (λe=>h x hax (by exact uN hx) u (.inr e)) λe=>⟨rfl,rfl,u.more (by exact yj h1 hax) e⟩
 rintro c st' ⟨rfl,rfl,u⟩;rw[show max a nrem=nrem by exact C7 h2]at u ⊢;exact h nrem h2 (Qf _) u (.inl rfl)
theorem iS {lo i j:Nat} {Q:Unit->SortSt->Prop} (hi:lo<=i) (hj:j<=(arrOf st).size) (h:∀st',Sg lo st st'->(∀k,KK κ (arrOf st') k=if i<=k/\k<j then KK κ (arrOf st) (i+j-1-k) else KK κ (arrOf st) k)->Q () st'):wpS (model prog w) A E s (reverseSlice' i j) Q st:=by
 rw[reverseSlice'_eq];refine wpS_modify (h _ ⟨rfl,rfl,rfl,λk hk=>?_,mirror_perm _ _ _ _⟩ λk=>KK_mirror hj k);show (mirror (arrOf st) i j ((j-i) / 2))[k]?=_;rw[getElem?_mirror_all hj,QA (by exact C6 hi hk)]
theorem gG {U α β:Type} {M:Model} {Q:α->U->Prop} {st:U} {m:StateT U Sem α} (f:β->StateT U Sem α) (I:β->U->Prop) (J:∀z st',I z st'->wpS M A E s (f z) Q st') (h:(∀z st',I z st'->wpS M A E s (f z) Q st')->wpS M A E s m Q st):wpS M A E s m Q st:=h J
def lE:Nat->Nat->StateT SortSt Sem (Option Nat):=sortPriv% PySem.Builtin.countRun
theorem rY (hL:iB κ kd prog w A s) {lo nrem:Nat} {Q:Option Nat->SortSt->Prop} (hk:kindOf st=kd) (ha:∀p∈(arrOf st).toList,Hk κ p) (h1:1<=nrem) (hn:lo+nrem<=(arrOf st).size)
  (h:∀m st',Sg lo st st'->1<=m->m<=nrem->Up κ (arrOf st') lo m->Q (some m) st'):wpS (model prog w) A E s (lE lo nrem) Q st:=by
 unfold lE;refine Qp (qy (κ:=κ) (lo:=lo) (Qf 1) h1 Up.one (λx n R a1 a2 r1 r2=>?_) λn a1 a2 up stop=>?_)
 ·extract_lets
  refine Qp (fG hL hk ha (by omega) (by omega) ?_);rw[show lo+n-1=lo+(n-1) by exact yi a1];dsimp -zeta only
  cases e:κ.blt (KK κ (arrOf st) (lo+n)) (KK κ (arrOf st) (lo+(n-1))) with
  | true=>refine aS rfl ?_;exact Qt (r1 e)
  | false=>refine aQ Qk ?_;exact Qt (r2 e)
 show wpS _ _ _ _ (if (n==nrem)=true then pure (some n) else _) _ _;by_cases hnn:n=nrem
 ·refine aS (bT hnn) ?_;exact Qt (h n st (.refl _ _) a1 a2 up)
 refine aQ (bF hnn) ?_;have lt0:=stop.resolve_left hnn
 extract_lets jn jq jp
 refine gG (λ_:Unit=>jp ()) (λ_ st'=>Sg lo st st'/\nh κ (arrOf st') lo (n+1)) (λ_ st1 hz=>?_) (λJ=>?_)
 ·obtain⟨g1,dn⟩:=hz;refine Qp (wpS_lift (wpAny_rule ⟨rfl,?_⟩))
  refine Qp (wpS_mono (Xj (I:=λx c st'=>∃neq,c=(none,x,neq)/\Sg lo st st'/\nh κ (arrOf st') lo x/\neq+1<=x/\∀i,x-(neq+1)<=i->i<x->KK κ (arrOf st') (lo+i)=KK κ (arrOf st') (lo+(x-1)))
   (Q:=λc st'=>∃x neq,c=(none,x,neq)/\Sg lo st st'/\x<=nrem/\nh κ (arrOf st') lo x/\neq+1<=x/\∀i,x-(neq+1)<=i->i<x->KK κ (arrOf st') (lo+i)=KK κ (arrOf st') (lo+(x-1))) ?step ?fin ⟨0,rfl,g1,dn,by omega,λi i1 i2=>by rw[show i=n+1-1 by omega]⟩) ?post)
  case fin =>
   rintro c st' ⟨neq,rfl,b1,b2,b3,b4⟩;rw[show max (n+1) nrem=nrem by exact C4 a2 hnn]at b2 b3 b4 ⊢;exact⟨nrem,neq,rfl,b1,Qf _,b2,b3,b4⟩
  case step =>
   rintro x c st' hax hx ⟨neq,rfl,b1,b2,b3,b4⟩;have sz:=b1.size;have hk':kindOf st'=kd:=b1.kind.trans hk;have ha':=b1.keys ha;refine Qp (fG (i:=lo+x) (j:=lo+x-1) hL hk' ha' (by exact rb hn hx sz) (by omega) ?_);rw[show lo+x-1=lo+(x-1) by exact C3 b3];dsimp -zeta only
   extract_lets
   cases e:κ.blt (KK κ (arrOf st') (lo+x)) (KK κ (arrOf st') (lo+(x-1))) with
   | true =>
    refine aS rfl ?_;have d1:=b2.more (by exact uM b3) (KeyOrd.kle_of_klt e);by_cases c:neq>0
    ·refine aS c ?_;refine Qp (iS (κ:=κ) (lo:=lo) (by exact yh b3) (by exact C2 hn hx sz) λst2 g2 kk=>?_)
     have kk:∀i,KK κ (arrOf st2) (lo+i)=KK κ (arrOf st') (lo+i):=λi=>by
      rw[kk]
      split
      ·rename_i q
       obtain⟨e1,e2,e3,e4,e5⟩:=xS b3 q;rw[e1,b4 _ e2 e3,b4 i e4 e5]
      rfl
     exact Qt ⟨0,rfl,b1.trans g2,λi j h1 h2=>by rw[kk,kk];exact d1 i j h1 h2,by exact yg,λi i1 i2=>by rw[show i=x+1-1 by exact C1 i1 i2]⟩
    refine aQ c ?_;exact Qt ⟨0,rfl,b1,d1,by exact yg,λi i1 i2=>by rw[show i=x+1-1 by omega]⟩
   | false =>
   refine aQ Qk ?_;refine Qp (fG (i:=lo+(x-1)) (j:=lo+x) hL hk' ha' (by omega) (by exact rb hn hx sz) ?_);dsimp -zeta only
   cases e2:κ.blt (KK κ (arrOf st') (lo+(x-1))) (KK κ (arrOf st') (lo+x)) with
   | true =>
    refine aS rfl ?_;exact Qt ⟨x,neq,rfl,b1,by exact uN hx,b2,b3,b4⟩
   | false =>
   refine aQ Qk ?_;have eq:KK κ (arrOf st') (lo+x)=KK κ (arrOf st') (lo+(x-1)):=KeyOrd.kle_antisymm e2 e;refine Qt ⟨neq+1,rfl,b1,b2.more (by exact uM b3) (by rw[eq];exact Xy _),by exact CZ b3,λi i1 i2=>?_⟩;rw[show x+1-1=x by exact CY];by_cases ix:i=x
   ·rw[ix]
   rw[b4 i (by omega) (by exact CW i2 ix),eq]
  case post =>
   rintro c st2 ⟨x,neq,rfl,b1,b2,b3,b4,b5⟩
   extract_lets r2 s2 n2 q2 jp2
   have sz:=b1.size;refine gG (λ_:Unit=>jp2 ()) (λ_ st'=>Sg lo st st'/\nh κ (arrOf st') lo x) (λ_ st3 hz=>?_) (λJ2=>?_)
   ·obtain⟨g3,dn3⟩:=hz;have sz3:=g3.size;refine Qp (iS (κ:=κ) (lo:=lo) (Qf _) (show lo+x<=_ by exact CV hn b2 sz sz3) λst4 g4 kk=>?_);have g5:=g3.trans g4;have sz5:=g5.size;refine Qp (qy (κ:=κ) (lo:=lo) (show 1<=x by exact uM b4) b2 (λi j h1 h2=>?_) (λy n R a1 a2 r1 r2=>?_) λn a1 a2 up stop=>?_)
    ·have h2:j<x:=h2;rw[kk,kk,QJ (by exact CU h1 h2),QJ (by exact CQ h2),show lo+(lo+x)-1-(lo+i)=lo+(x-1-i) by exact uI (Xz h1 h2),show lo+(lo+x)-1-(lo+j)=lo+(x-1-j) by exact uI h2];exact dn3 _ _ (by exact CP h1 h2) (by exact CO h1 h2)
    ·refine Qp (fG hL (g5.kind.trans hk) (g5.keys ha) (by omega) (by omega) ?_);rw[show lo+n-1=lo+(n-1) by exact yi a1];dsimp -zeta only
     cases e:κ.blt (KK κ (arrOf st4) (lo+n)) (KK κ (arrOf st4) (lo+(n-1))) with
     | true=>refine aS rfl ?_;exact Qt (r1 e)
     | false=>refine aQ Qk ?_;exact Qt (r2 e)
    have a1:x<=n:=a1;exact Qt (h n st4 g5 (by exact CN b4 a1) a2 up)
   by_cases c:neq>0
   ·show wpS _ _ _ _ (if neq>0 then _ else _) _ _;refine aS c ?_;refine Qp (iS (κ:=κ) (lo:=lo) (i:=lo+x-(neq+1)) (j:=lo+x) (show lo<=lo+x-(neq+1) by exact yh b4) (show lo+x<=_ by exact CM hn b2 sz) λst3 g3 kk=>?_)
    have kk:∀i,KK κ (arrOf st3) (lo+i)=KK κ (arrOf st2) (lo+i):=λi=>by
     rw[kk]
     split
     ·rename_i q
      obtain⟨e1,e2,e3,e4,e5⟩:=xS b4 q;rw[e1,b5 _ e2 e3,b5 i e4 e5]
     rfl
    exact J2 () st3 ⟨b1.trans g3,λi j h1 h2=>by rw[kk,kk];exact b3 i j h1 h2⟩
   show wpS _ _ _ _ (if neq>0 then _ else _) _ _;refine aQ c ?_;exact J2 () st2 ⟨b1,b3⟩
 by_cases c:n>1
 ·refine aS c ?_;refine Qp (fG hL hk ha (by exact CK h1 hn) (by omega) ?_);rw[show lo+n-1=lo+(n-1) by exact CJ c];dsimp -zeta only
  cases e:κ.blt (KK κ (arrOf st) lo) (KK κ (arrOf st) (lo+(n-1))) with
  | true =>
   refine aS rfl ?_;exact Qt (h n st (.refl _ _) a1 a2 up)
  | false =>
  refine aQ Qk ?_
  have all:∀i,i<n->KK κ (arrOf st) (lo+i)=KK κ (arrOf st) (lo+(n-1)):=λi hi =>
   KeyOrd.kle_antisymm (up i (n-1) (by exact CI c hi) (by exact CG c)) (KeyOrd.kle_trans e (by have:=up 0 i (by exact zi) hi;rwa [Nat.add_zero]at this))
  refine Qp (iS (κ:=κ) (lo:=lo) (Qf _) (show lo+n<=_ by exact CF hn a2) λst3 g3 kk=>?_)
  have kk:∀i,KK κ (arrOf st3) (lo+i)=KK κ (arrOf st) (lo+i):=λi=>by
   rw[kk]
   split
   ·rename_i q
    have l:=Nat.lt_of_add_lt_add_left q.2;rw[uI l,all _ (Xz (Nat.sub_le _ _) (Nat.sub_lt (Xz (QQ _) l) Nat.zero_lt_one)),all i l]
   rfl
  refine J () st3 ⟨g3,nh.more (λi j h1 h2=>?_) a1 ?_⟩
  ·rw[kk,kk,all i (by exact CD h1 h2),all j h2];exact Xy _
  rw[kk,kk];exact KeyOrd.kle_of_klt lt0
 refine aQ c ?_;refine J () st ⟨.refl _ _,nh.more (λi j h1 h2=>?_) a1 (KeyOrd.kle_of_klt lt0)⟩;have:i=j:=by exact CC a1 c h1 h2
 subst this;exact Xy _
end
section
def Dv:Nat->Nat->Nat->StateT SortSt Sem Bool:=sortPriv% PySem.Builtin.binarySort
theorem v5 (hL:iB κ kd prog w A s) {st:SortSt} {lo n ok:Nat} {Q:Bool->SortSt->Prop} (hk:kindOf st=kd) (ha:∀p∈(arrOf st).toList,Hk κ p) (h1:ok<=n) (hn:lo+n<=(arrOf st).size) (up:Up κ (arrOf st) lo ok)
  (h:∀st',Sg lo st st'->Up κ (arrOf st') lo n->Q true st'):wpS (model prog w) A E s (Dv lo n ok) Q st:=by
 unfold Dv;refine Qp (wpS_mono (Xj (I:=λk c st'=>c=(none,())/\Sg lo st st'/\Up κ (arrOf st') lo (min k n)) (Q:=λc st'=>c=(none,())/\Sg lo st st'/\Up κ (arrOf st') lo n) ?step ?fin ?init) ?post)
 case post =>
  rintro c st' ⟨rfl,g,u⟩;exact Qt (h st' g u)
 case init =>
  refine⟨rfl,.refl _ _,λi j hij hj=>?_⟩;by_cases e:ok=0
  ·have:i=j:=by exact CB hij hj e
   subst this;exact Xy _
  exact up i j hij (by exact CA h1 hj e)
 case fin =>
  rintro c st' ⟨rfl,g,u⟩;rw[show min (max (max ok 1) n) n=n by exact Cz]at u;exact⟨rfl,g,u⟩
 case step =>
  rintro k c st' k1 k2 ⟨rfl,g,u⟩;rw[show min k n=k by exact Cw k2]at u;have sz:=g.size
  refine Qp (wpS_mono (Xj (I:=λx c st2=>st2=st'/\∃l r,c=(none,l,r)/\l<=r/\r<=k/\r-l<=k-x/\(∀i,i<l->κ.kle (KK κ (arrOf st') (lo+i)) (KK κ (arrOf st') (lo+k)))/\(∀i,r<=i->i<k->κ.kle (KK κ (arrOf st') (lo+k)) (KK κ (arrOf st') (lo+i))))
   (Q:=λc st2=>st2=st'/\∃l,c=(none,l,l)/\l<=k/\(∀i,i<l->κ.kle (KK κ (arrOf st') (lo+i)) (KK κ (arrOf st') (lo+k)))/\(∀i,l<=i->i<k->κ.kle (KK κ (arrOf st') (lo+k)) (KK κ (arrOf st') (lo+i)))) ?istep ?ifin ⟨rfl,0,k,rfl,by exact zi,by exact Cv,by exact Cu,λi hi=>by omega,λi a b=>by omega⟩) ?ipost)
  case ifin =>
   rintro c st2 ⟨rfl,l,r,rfl,a1,a2,a3,a4,a5⟩;have:l=r:=by exact Bk a1 a3
   subst this;exact⟨rfl,l,rfl,a2,a4,a5⟩
  case istep =>
   rintro x c st2 _ hx ⟨rfl,l,r,rfl,a1,a2,a3,a4,a5⟩;dsimp -zeta only
   extract_lets
   by_cases c:l>=r
   ·show wpS _ _ _ _ (if l>=r then _ else _) _ _;refine aS c ?_;have:l=r:=by exact zj a1 c
    subst this;exact Qt ⟨rfl,l,rfl,a2,a4,a5⟩
   show wpS _ _ _ _ (if l>=r then _ else _) _ _;refine aQ c ?_;refine Qp (fG (i:=lo+k) (j:=lo+(l+r) / 2) hL (g.kind.trans hk) (g.keys ha) (by exact rb hn k2 sz) (by omega) ?_);dsimp -zeta only
   cases e:κ.blt (KK κ (arrOf st2) (lo+k)) (KK κ (arrOf st2) (lo+(l+r) / 2)) with
   | true =>
    refine aS rfl ?_;refine Qt ⟨rfl,l,(l+r) / 2,rfl,by exact Ct c,by exact Cs a2 c,AS a3 c,a4,λi b1 b2=>?_⟩;exact KeyOrd.kle_trans (KeyOrd.kle_of_klt e) (u _ _ b1 b2)
   | false =>
   refine aQ Qk ?_;refine Qt ⟨rfl,(l+r) / 2+1,r,rfl,by exact Cr c,by exact zc a2,AT a3 c,λi b1=>?_,a5⟩;exact KeyOrd.kle_trans (u i ((l+r) / 2) (by exact Cq b1) (by exact Cp a2 c)) e
  case ipost =>
   rintro c st2 ⟨rfl,l,rfl,a2,a4,a5⟩;show wpS _ _ _ _ (moveDown' (lo+k) (lo+l) >>= _) _ _;rw[moveDown'_eq];have hks:lo+k<(arrOf st2).size:=by exact rb hn k2 sz
   refine Qp (wpS_modify (Qt ⟨rfl,g.trans ⟨rfl,rfl,rfl,λi hi=>?_,bubble_perm _ _ _⟩,λi j hij hj=>?_⟩))
   ·show (bubble (arrOf st2) (lo+k) (lo+k-(lo+l)))[i]?=_;rw[getElem?_bubble hks _ (by exact Co a2 hi),QA (by exact Cn a2 hi),QA (by omega)]
   rw[show min (k+1) n=k+1 by exact Cm k2]at hj;show κ.kle (KK κ (bubble (arrOf st2) (lo+k) (lo+k-(lo+l))) (lo+i)) (KK κ (bubble (arrOf st2) (lo+k) (lo+k-(lo+l))) (lo+j));rw[KK_bubble hks (by exact yf a2),KK_bubble hks (by exact yf a2),show lo+k-(lo+k-(lo+l))=lo+l by exact Cl a2];have sh:∀i,l<i->lo+i-1=lo+(i-1):=λi hi=>by exact Ck hi
   by_cases ci:i<l
   ·rw[QA (by exact ye ci),QA (by exact yd ci)];by_cases cj:j<l
    ·rw[QA (by exact ye cj),QA (by exact yd cj)];exact u i j hij (by exact Cj a2 hj cj)
    by_cases cj2:j=l
    ·rw[QJ (by exact yc cj2)];exact a4 i ci
    rw[QA (by exact yb cj2),QJ (by omega),sh j (by exact ya cj cj2)];exact u i (j-1) (by exact Ci hij ci cj) (by exact Ch a2 hij hj ci)
   by_cases ci2:i=l
   ·rw[QJ (by exact yc ci2)];by_cases cj2:j=l
    ·rw[QJ (by exact Cg ci2 cj2)];exact Xy _
    rw[QA (by exact Cf ci2 cj2),QJ (by omega),sh j (by exact Ce hij ci2 cj2)];exact a5 (j-1) (by exact Cd hij ci2 cj2) (by exact Cc hij hj ci2 cj2)
   rw[QA (by exact yb ci2),QJ (by omega),QA (by exact Cb hij ci ci2),QJ (by omega),sh i (by exact ya ci ci2),sh j (by exact Ca hij ci ci2)];exact u (i-1) (j-1) (by exact B_ hij) (by exact B9 hij hj ci ci2)
end
theorem oa (o:Nat):∀(M:List Keyed) (j:Nat) (arr:Array Keyed) (P S T:List Keyed),arr.toList=P++(S++T)->P.length=o+j->S.length=M.length->((M.zipIdx j).foldl (λa (x:Keyed × Nat)=>a.setIfInBounds (o+x.2) x.1) arr).toList=P++(M++T)
 | [],j,arr,P,S,T,h,hp,hs=>by
  have:S=[]:=Xf hs;subst this;exact h
 | p::M,j,arr,P,[],T,h,hp,hs=>by simp at hs
 | p::M,j,arr,P,q::S,T,h,hp,hs=>by
  rw[List.zipIdx_cons,List.foldl_cons]
  have e:(arr.setIfInBounds (o+j) p).toList=(P++[p])++(S++T):=by
   rw[Array.toList_setIfInBounds,h,List.set_append,QA (by exact B8 hp),show o+j-P.length=0 by exact B7 hp];simp
  have:=oa o M (j+1) (arr.setIfInBounds (o+j) p) (P++[p]) S T e (by rw[Qg];simp;exact B6 hp) (by simpa using hs);rw[this];simp
def eS:Nat->List (List Keyed)->List (Nat × Nat)
 | _,[]=>[]
 | b,r::rs=>(b,r.length)::eS (b+r.length) rs
theorem gQ (u w:List (List Keyed)):∀b,eS b (u++w)=eS b u++eS (b+u.flatten.length) w:=by
 induction u with
 | nil=>intro b;simp[eS]
 | cons r u ih =>
 intro b;show (b,r.length)::eS (b+r.length) (u++w)=_;rw[ih];show _=(b,r.length)::(eS (b+r.length) u++_);rw[List.flatten_cons,Qg,Nat.add_assoc]
theorem ot (u:List (List Keyed)):∀b,(eS b u).length=u.length:=by
 induction u with
 | nil=>intro b;rfl
 | cons r u ih=>intro b;show (eS _ u).length+1=_;rw[ih];rfl
structure RI (κ:KeyKind) (kd:SortKind) (a₀:Array Keyed) (st:SortSt) (rs:List (List Keyed)) (rest:List Keyed):Prop where
 arr:(arrOf st).toList=rs.flatten++rest
 perm:(arrOf st).Perm a₀
 ok:∀r∈rs,r≠[]/\r.Pairwise (le κ)
 pend:(pendingOf st).toList.map (λp=>(p.1,p.2.1))=eS 0 rs
 kind:kindOf st=kd
 fail:failedOf st=none
theorem wt {ps:Array (Nat × Nat × Nat)} {u v:List (List Keyed)} {X Y:List Keyed} (h:ps.toList.map (λp=>(p.1,p.2.1))=eS 0 (u++X::Y::v)) :
  ∃p1 p2,ps[u.length]?=some (u.flatten.length,X.length,p1)/\ps[u.length+1]?=some (u.flatten.length+X.length,Y.length,p2) /\
   ((ps.setIfInBounds u.length (u.flatten.length,X.length+Y.length,p1)).eraseIdxIfInBounds (u.length+1)).toList.map (λp=>(p.1,p.2.1))=eS 0 u++(u.flatten.length,X.length+Y.length)::eS (u.flatten.length+X.length+Y.length) v:=by
 rw[gQ,Nat.zero_add]at h;have h:ps.toList.map (λp=>(p.1,p.2.1))=eS 0 u++(u.flatten.length,X.length)::(u.flatten.length+X.length,Y.length)::eS (u.flatten.length+X.length+Y.length) v:=h;have lu:=ot u 0;obtain⟨l1,l2,e,e1,e2⟩:=List.map_eq_append_iff.mp h
 cases l2 with
 | nil=>simp at e2
 | cons a l2 =>
 cases l2 with
 | nil=>simp at e2
 | cons b l2 =>
 obtain⟨a1,a2,a3⟩:=a;obtain⟨b1,b2,b3⟩:=b;simp only[QH,List.cons.injEq,Prod.mk.injEq]at e2;obtain⟨⟨rfl,rfl⟩,⟨rfl,rfl⟩,e3⟩:=e2;have l1l:l1.length=u.length:=by rw[<-lu,<-e1,Qa]
 have pe:ps=(l1++(u.flatten.length,X.length,a3)::(u.flatten.length+X.length,Y.length,b3)::l2).toArray:=by rw[<-e]
 subst pe;refine⟨a3,b3,?_,?_,?_⟩
 ·rw[<-l1l];simp
 ·rw[<-l1l];simp[QE]
 rw[<-l1l,<-e1,<-e3];simp[Array.eraseIdxIfInBounds,List.set_append,List.eraseIdx_append];rw[QA (by exact B5)];simp
section
theorem v4 {U:Type} {M:Model} {x:U} {Q:PUnit->U->Prop} {st:U} (h:Q ⟨⟩ x):wpS M A E s (set x:StateT U Sem PUnit) Q st:=by
 unfold wpS;rw[StateT.run_set];exact Qm ⟨rfl,h⟩
theorem iD (hL:iB κ kd prog w A s) {st:SortSt} {a₀:Array Keyed} {u v:List (List Keyed)} {X Y rest:List Keyed} {Q:Bool->SortSt->Prop} (ha:∀p∈a₀.toList,Hk κ p) (I:RI κ kd a₀ st (u++X::Y::v) rest)
  (h:∀Z st',Z.length=X.length+Y.length->RI κ kd a₀ st' (u++Z::v) rest->Q true st'):wpS (model prog w) A E s (mergeAt' u.length) Q st:=by
 obtain⟨earr,perm,ok,pend,kind,fail⟩:=I;obtain⟨p1,p2,e1,e2,e3⟩:=wt pend;obtain⟨xne,sx⟩:=ok X (by simp);obtain⟨yne,sy⟩:=ok Y (by simp);have xl:1<=X.length:=Nat.pos_of_ne_zero λz=>xne (Xf z);have yl:1<=Y.length:=Nat.pos_of_ne_zero λz=>yne (Xf z);have ha':∀p∈(arrOf st).toList,Hk κ p:=λp hp=>ha p ((Array.perm_iff_toList_perm.mp perm).mem_iff.mp hp);have earr:(arrOf st).toList=u.flatten++(X++(Y++(v.flatten++rest))):=by rw[earr];simp
 have sz:(arrOf st).size=u.flatten.length+(X.length+(Y.length+(v.flatten++rest).length)):=by rw[<-Qo,earr];simp only[Qg]
 have atX:∀i,i<X.length->(arrOf st)[u.flatten.length+i]?=X[i]?:=λi hi=>by rw[<-Qy,earr,QE (by exact uL),Xp,QM hi]
 have atY:∀i,i<Y.length->(arrOf st)[u.flatten.length+X.length+i]?=Y[i]?:=λi hi=>by rw[<-Qy,earr,QE (by exact B4 xl sz),QE (by exact B3 xl sz),show u.flatten.length+X.length+i-u.flatten.length-X.length=i by exact B2,QM hi]
 obtain⟨y0,hy0⟩:∃y0,Y[0]?=some y0:=⟨Y[0],by rw[Qd]⟩;obtain⟨xz,hxz⟩:∃xz,X[X.length-1]?=some xz:=⟨X[X.length-1],by rw[Qd]⟩;have key0:(arrOf st)[u.flatten.length+X.length]?=some y0:=by have:=atY 0 (by exact uK yl);rw[Nat.add_zero]at this;rw[this,hy0]
 have pwi:∀{L:List Keyed},L.Pairwise (le κ)->∀{i j:Nat} {p q:Keyed},i<=j->L[i]?=some p->L[j]?=some q->le κ p q:=λ{L} sl {i j p q} hij hi hj=>by
  by_cases e:i=j
  ·subst e;rw[hi]at hj;cases hj;exact Xy _
  obtain⟨li,ei⟩:=Qe.mp hi;obtain⟨lj,ej⟩:=Qe.mp hj;have:=(List.pairwise_iff_getElem.mp sl) i j li lj (by exact A7 hij e);rwa [ei,ej]at this
 have leY:∀q∈Y,le κ y0 q:=λq hq=>by
  obtain⟨j,hj,ej⟩:=Qq.mp hq;exact pwi sy (QQ j) hy0 (by rw[Qd hj,ej])
 have leX:∀p∈X,le κ p xz:=λp hp=>by
  obtain⟨j,hj,ej⟩:=Qq.mp hp;exact pwi sx (show j<=X.length-1 by exact B1 xl sz hj) (by rw[Qd hj,ej]) hxz
 have same:∀st',arrOf st'=arrOf st->kindOf st'=kindOf st->failedOf st'=failedOf st->(pendingOf st').toList.map (λp=>(p.1,p.2.1))=eS 0 u++(u.flatten.length,X.length+Y.length)::eS (u.flatten.length+X.length+Y.length) v->(∀p∈X,∀q∈Y,le κ p q)->Q true st':=λst' h1 h2 h3 h4 h5=>by
  refine h (X++Y) st' (by simp) ⟨by rw[h1,earr];simp,by rw[h1];exact perm,λr hr=>?_,?_,h2.trans kind,h3.trans fail⟩
  ·rcases Qr.mp hr with e|e
   ·exact ok r (by simp[e])
   rcases QV.mp e with e|e
   ·subst e;exact⟨by simp[xne],Q9.mpr ⟨sx,sy,h5⟩⟩
   exact ok r (by simp[e])
  rw[h4,gQ,Nat.zero_add];show _=_++(u.flatten.length,(X++Y).length)::eS (u.flatten.length+(X++Y).length) v;rw[Qg,Nat.add_assoc]
 unfold mergeAt';refine Qp (wpS_get ?_);show wpS _ _ _ _ (match ((pendingOf st)[u.length]?,(pendingOf st)[u.length+1]?) with|(some (sa,na,power),some (sb,nb,_))=>_|x=>_) _ _;rw[e1,e2];dsimp -zeta only;refine Qp (v4 ?_);refine Qp (bg key0 ?_);have hk0:Hk κ y0:=ha' y0 (by rw[Array.mem_toList_iff];exact Array.mem_of_getElem? key0);refine Qp (fH (a:=arrOf st) (base:=u.flatten.length) (n:=X.length) (hint:=0) hL (by exact kind) hk0 ha' (by exact B0 yl sz) (λi j p q b1 b2 b3 c1 c2=>?_) (by exact BZ xl sz) λk k1 k2 k3=>?_)
 ·have f1:=atX (i-u.flatten.length) (by omega);have f2:=atX (j-u.flatten.length) (by omega);rw[show u.flatten.length+(i-u.flatten.length)=i by exact BY b1,c1]at f1;rw[show u.flatten.length+(j-u.flatten.length)=j by exact BX b1 b2,c2]at f2;exact pwi sx (show i-u.flatten.length<=j-u.flatten.length by exact BW b1 b2) f1.symm f2.symm
 dsimp -zeta only;have k2':∀i,i<k->∀p,X[i]?=some p->le κ p y0:=λi hi p e=>mR (k2 i hi p (by rw[atX i (by exact BV sz k1 hi)];exact e))
 have k3':∀i,k<=i->∀p,X[i]?=some p->le κ y0 p:=λi hi p e=>by
  have hl:=(Qe.mp e).1;exact mT (k3 i hi hl p (by rw[atX i hl];exact e))
 by_cases d1:X.length-k=0
 ·refine aS (bT d1) ?_;refine Qt (same _ rfl rfl rfl e3 λp hp q hq=>?_);obtain⟨j,hj,ej⟩:=Qq.mp hp;exact le_trans (k2' j (by omega) p (by rw[Qd hj,ej])) (leY q hq)
 refine aQ (bF d1) ?_
 have keyz:(arrOf st)[u.flatten.length+k+(X.length-k)-1]?=some xz:=by
  rw[(AR (f:=u.flatten.length) k1).resolve_right (λz=>by rw[z]at xl;exact absurd xl (by decide)),atX _ (by exact BU xl sz),hxz]
 refine Qp (bg keyz ?_);have hkz:Hk κ xz:=ha' xz (by rw[Array.mem_toList_iff];exact Array.mem_of_getElem? keyz);refine Qp (fH (a:=arrOf st) (base:=u.flatten.length+X.length) (n:=Y.length) (hint:=Y.length-1) hL (by exact kind) hkz ha' (by exact BT sz) (λi j p q b1 b2 b3 c1 c2=>?_) (by exact sD yl) λm m1 m2 m3=>?_)
 ·have f1:=atY (i-(u.flatten.length+X.length)) (by omega);have f2:=atY (j-(u.flatten.length+X.length)) (by omega);rw[show u.flatten.length+X.length+(i-(u.flatten.length+X.length))=i by omega,c1]at f1;rw[show u.flatten.length+X.length+(j-(u.flatten.length+X.length))=j by omega,c2]at f2;exact pwi sy (show i-(u.flatten.length+X.length)<=j-(u.flatten.length+X.length) by omega) f1.symm f2.symm
 dsimp -zeta only;have m2':∀i,i<m->∀p,Y[i]?=some p->le κ p xz:=λi hi p e=>mQ (m2 i hi p (by rw[atY i (by exact x_ m1 hi)];exact e))
 have m3':∀i,m<=i->∀p,Y[i]?=some p->le κ xz p:=λi hi p e=>by
  have hl:=(Qe.mp e).1;exact mU (m3 i hi hl p (by rw[atY i hl];exact e))
 by_cases d2:m=0
 ·refine aS (bT d2) ?_;refine Qt (same _ rfl rfl rfl e3 λp hp q hq=>?_);obtain⟨j,hj,ej⟩:=Qq.mp hq;exact le_trans (leX p hp) (m3' j (by exact BS d2) q (by rw[Qd hj,ej]))
 refine aQ (bF d2) ?_
 extract_lets x y jp
 have ex:x.toList=X.drop k:=by
  show ((arrOf st).extract (u.flatten.length+k) (u.flatten.length+X.length)).toList=_;rw[show u.flatten.length+X.length=(u.flatten.length+k)+(X.length-k) by omega,i6,earr,<-List.drop_drop,List.drop_left,List.drop_append_of_le_length (by exact zc k1),List.take_append_of_le_length (by rw[Q4];exact om1),Qw (by rw[Q4];exact om1)]
 have ey:y.toList=Y.take m:=by
  show ((arrOf st).extract (u.flatten.length+X.length) (u.flatten.length+X.length+m)).toList=_;rw[i6,earr,<-List.drop_drop,List.drop_left,List.drop_left,List.take_append_of_le_length m1]
 have zx:x.size=X.length-k:=by rw[<-Qo,ex,Q4]
 have zy:y.size=m:=by rw[<-Qo,ey,Qs];omega
 have atx:∀{i p},x[i]?=some p->X[k+i]?=some p:=λ{i p} e=>by rw[<-Qy,ex,List.getElem?_drop]at e;exact e
 have aty:∀{i p},y[i]?=some p->Y[i]?=some p:=λ{i p} e=>by
  have hl:=(QF.mp e).1;rw[<-Qy,ey,List.getElem?_take,QJ (by exact zm zy hl)]at e;exact e
 have inX:∀p∈x.toList,∃i,k<=i/\X[i]?=some p:=λp hp=>by
  obtain⟨i,hi,ei⟩:=Qq.mp hp;exact⟨k+i,by exact uL,atx (by rw[<-Qy,Qd hi,ei])⟩
 have inY:∀p∈y.toList,∃i,i<m/\Y[i]?=some p:=λp hp=>by
  obtain⟨i,hi,ei⟩:=Qq.mp hp;rw[Qo]at hi;exact⟨i,by exact zm zy hi,aty (by rw[<-Qy,Qd (by rw[Qo];exact hi),ei])⟩
 have mX:∀{p i},X[i]?=some p->p∈X:=λe=>Qj e
 have hx:∀p∈x.toList,Hk κ p:=λp hp=>by
  obtain⟨i,_,e⟩:=inX p hp;exact ha' p (by rw[earr];simp[Qj e])
 have hy:∀p∈y.toList,Hk κ p:=λp hp=>by
  obtain⟨i,_,e⟩:=inY p hp;exact ha' p (by rw[earr];simp[Qj e])
 have ssx:x.toList.Pairwise (le κ):=by rw[ex];exact sx.sublist (List.drop_sublist _ _)
 have ssy:y.toList.Pairwise (le κ):=by rw[ey];exact sy.sublist (List.take_sublist _ _)
 have first:∀p∈x.toList,∀q,y[0]?=some q->le κ q p:=λp hp q hq=>by
  obtain⟨i,hi,e⟩:=inX p hp;have:=aty hq;rw[hy0]at this;cases this;exact k3' i hi p e
 have last:∀q∈y.toList,∀p,x[x.size-1]?=some p->le κ q p:=λq hq p hp=>by
  obtain⟨i,hi,e⟩:=inY q hq;have:=atx hp;rw[AQ k1 d1 zx,hxz]at this;cases this;exact m2' i hi q e
 refine gG (λz:Array Keyed=>jp z) (λz st'=>Gs (setPending st (((pendingOf st).setIfInBounds u.length (u.flatten.length,X.length+Y.length,p1)).eraseIdxIfInBounds (u.length+1))) st'/\Srt κ (x.toList++y.toList) z.toList) (λz st1 hz=>?_) (λJ=>?_)
 ·obtain⟨g,so⟩:=hz;refine Qp (wpS_modify ?_);refine Qp (wpS_get ?_);have f1:failedOf st1=none:=g.fail.trans fail;have lz:z.toList.length=(X.length-k)+m:=by rw[so.1.length_eq,Qg,Qo,Qo,zx,zy]
  have ar:(List.foldl (λa (x:Keyed × Nat)=>a.setIfInBounds (u.flatten.length+k+x.snd) x.fst) (arrOf st1) z.toList.zipIdx).toList=u.flatten++((X.take k++(z.toList++Y.drop m))++(v.flatten++rest)):=by
   rw[oa (u.flatten.length+k) z.toList 0 (arrOf st1) (u.flatten++X.take k) (X.drop k++Y.take m) (Y.drop m++(v.flatten++rest)) ?_ ?_ ?_]
   ·simp only[Xc]
   ·rw[show arrOf st1=arrOf st from g.arr,earr]
    conv=>lhs;rw[<-QY k X,<-QY m Y]
    simp only[Xc]
   ·rw[Qg,Qs];exact BR sz k1
   rw[lz,Qg,Q4,Qs];exact BQ m1 zy
  have pz:(X.take k++(z.toList++Y.drop m)).Perm (X++Y):=by
   conv=>rhs;rw[<-QY k X,<-QY m Y]
   rw[Xc];refine List.Perm.append_left _ ?_;rw[<-Xc];refine List.Perm.append_right _ ?_;rw[<-ex,<-ey];exact so.1
  have mz:∀p∈z.toList,(∃i,k<=i/\X[i]?=some p)\/∃i,i<m/\Y[i]?=some p:=λp hp=>by
   rcases Qr.mp (so.1.mem_iff.mp hp) with e|e
   ·exact .inl (inX p e)
   exact .inr (inY p e)
  have tk:∀p∈X.take k,∃i,i<k/\X[i]?=some p:=λp hp=>by
   obtain⟨i,hi,ei⟩:=Qq.mp hp;have:=Qd hi;rw[ei,List.getElem?_take]at this;rw[Qs]at hi;rw[QJ (by omega)]at this;exact⟨i,by omega,this⟩
  have dm:∀p∈Y.drop m,∃i,m<=i/\Y[i]?=some p:=λp hp=>by
   obtain⟨i,hi,ei⟩:=Qq.mp hp;have:=Qd hi;rw[ei,List.getElem?_drop]at this;exact⟨m+i,by exact uL,this⟩
  have sz':(X.take k++(z.toList++Y.drop m)).Pairwise (le κ):=by
   refine Q9.mpr ⟨sx.sublist (List.take_sublist _ _),Q9.mpr ⟨so.2,sy.sublist (List.drop_sublist _ _),λp hp q hq=>?_⟩,λp hp q hq=>?_⟩
   ·obtain⟨j,hj,ej⟩:=dm q hq;rcases mz p hp with⟨i,hi,ei⟩|⟨i,hi,ei⟩
    ·exact le_trans (leX p (mX ei)) (m3' j hj q ej)
    exact pwi sy (by exact BP zy hj hi) ei ej
   obtain⟨i,hi,ei⟩:=tk p hp;rcases Qr.mp hq with e|e
   ·rcases mz q e with⟨j,hj,ej⟩|⟨j,hj,ej⟩
    ·exact pwi sx (by exact BO hi hj) ei ej
    exact le_trans (k2' i hi p ei) (leY q (Qj ej))
   obtain⟨j,hj,ej⟩:=dm q e;exact le_trans (k2' i hi p ei) (leY q (Qj ej))
  have fin:∀st',arrOf st'=List.foldl (λa (x:Keyed × Nat)=>a.setIfInBounds (u.flatten.length+k+x.snd) x.fst) (arrOf st1) z.toList.zipIdx->kindOf st'=kindOf st1->failedOf st'=failedOf st1->pendingOf st'=pendingOf st1->Q true st':=λst' h1 h2 h3 h4=>by
   refine h (X.take k++(z.toList++Y.drop m)) st' (by rw[pz.length_eq,Qg]) ⟨?_,?_,λr hr=>?_,?_,h2.trans (g.kind.trans kind),h3.trans f1⟩
   ·rw[h1,ar];simp
   ·refine Array.Perm.trans ?_ perm;rw[Array.perm_iff_toList_perm,h1,ar,earr];refine List.Perm.append_left _ ?_;rw[<-Xc X];exact List.Perm.append_right _ pz
   ·rcases Qr.mp hr with e|e
    ·exact ok r (by simp[e])
    rcases QV.mp e with e|e
    ·subst e;refine⟨λz0=>?_,sz'⟩;have:=pz.length_eq;rw[z0,Qg]at this;simp at this;omega
    exact ok r (by simp[e])
   rw[h4,show pendingOf st1=_ from g.pend];rw[gQ,Nat.zero_add];show _=_++(u.flatten.length,(X.take k++(z.toList++Y.drop m)).length)::eS (u.flatten.length+(X.take k++(z.toList++Y.drop m)).length) v;rw[pz.length_eq,Qg,<-Nat.add_assoc];exact e3
  refine Qt ?_;show Q (failedOf st1).isNone (setArr st1 (List.foldl (λa (x:Keyed × Nat)=>a.setIfInBounds (u.flatten.length+k+x.snd) x.fst) (arrOf st1) z.toList.zipIdx));rw[show (failedOf st1).isNone=true by rw[f1];rfl];exact fin _ rfl rfl rfl rfl
 by_cases d3:X.length-k<=m
 ·refine aS d3 ?_;refine Qp (nk hL (by exact kind) hx hy (by omega) (by omega) ⟨by simp,List.Pairwise.nil,ssx,ssy,λp hp=>(nomatch hp),λp hp=>(nomatch hp),λq hq l hl=>last q hq l ?_⟩ first λr st' g so=>J r st' ⟨g,so⟩);rw[List.getLast?_eq_getElem?,Qy,Qo]at hl;exact hl
 refine aQ d3 ?_;exact Qp (nr hL (by exact kind) hx hy (by omega) (by omega) ssx ssy first last λr st' g so=>J r st' ⟨g,so⟩)
end
section
variable {xs a₀:Array Keyed}
theorem v8 {lo n:Nat} (h:Up κ xs lo n) (hn:lo+n<=xs.size):((xs.toList.drop lo).take n).Pairwise (le κ):=by
 rw[List.pairwise_iff_getElem];intro i j hi hj hij;rw[Qs,Q4,Qo]at hi hj
 have at_:∀(m:Nat) (hm:m<((xs.toList.drop lo).take n).length),kv κ ((xs.toList.drop lo).take n)[m]=KK κ xs (lo+m):=λm hm=>by
  have e:=Qd hm;rw[Qs,Q4,Qo]at hm;rw[List.getElem?_take,QJ (by exact xZ hm),List.getElem?_drop,Qy]at e;exact(vd e).symm
 unfold le;rw[at_,at_];exact h i j (by exact uN hij) (by exact xZ hj)
variable {rs:List (List Keyed)} {st st2:SortSt}
theorem oi {rest:List Keyed} (I:RI κ kd a₀ st rs rest):(pendingOf st).size=rs.length:=by
 have:=congrArg List.length I.pend;rwa [Qa,ot,Qo]at this
theorem t7 {rs:List (List Keyed)} {i:Nat} (h:i+1<rs.length):∃u X Y v,rs=u++X::Y::v/\u.length=i:=by
 refine⟨rs.take i,rs[i],rs[i+1],rs.drop (i+2),?_,by rw[Qs];exact BN h⟩;rw[<-List.drop_eq_getElem_cons,<-List.drop_eq_getElem_cons,QY]
theorem RI.seg {rest:List Keyed} (I:RI κ kd a₀ st rs rest) (g:Sg rs.flatten.length st st2):RI κ kd a₀ st2 rs ((arrOf st2).toList.drop rs.flatten.length):=by
 refine⟨?_,g.perm.trans I.perm,I.ok,by rw[g.pend];exact I.pend,g.kind.trans I.kind,g.fail.trans I.fail⟩
 have:(arrOf st2).toList.take rs.flatten.length=rs.flatten:=by
  refine List.ext_getElem? λi=>?_;rw[List.getElem?_take]
  split
  ·rename_i hi
   rw[Qy,g.head i hi,<-Qy,I.arr,QM hi]
  rename_i hi
  rw[Xv (by exact om2 hi)]
 conv=>lhs;rw[<-QY rs.flatten.length (arrOf st2).toList]
 rw[this]
variable {ps:Array (Nat × Nat × Nat)}
theorem RI.power {rest:List Keyed} (I:RI κ kd a₀ st rs rest) (h:ps.toList.map (λp=>(p.1,p.2.1))=(pendingOf st).toList.map (λp=>(p.1,p.2.1))):RI κ kd a₀ (setPending st ps) rs rest :=
 ⟨I.arr,I.perm,I.ok,h.trans I.pend,I.kind,I.fail⟩
theorem pQ {i pw:Nat}:(ps.modify i λx=>match x with|(st,len,_)=>(st,len,pw)).toList.map (λp=>(p.1,p.2.1))=ps.toList.map (λp=>(p.1,p.2.1)):=by
 refine List.ext_getElem? λj=>?_;rw[Qi,Qi,Qy,Qy,Array.getElem?_modify]
 split
 ·cases ps[j]? with
  | none=>rfl
  | some p=>rfl
 rfl
theorem tR (hL:iB κ kd prog w A s) {st:SortSt} {a₀:Array Keyed} {Q:Unit->SortSt->Prop} (ha:∀p∈a₀.toList,Hk κ p) (I:RI κ kd a₀ st [] a₀.toList)
  (h:∀st',(arrOf st').Perm a₀->failedOf st'=none->(arrOf st').toList.Pairwise (le κ)->Q () st'):wpS (model prog w) A E s sortRuns' Q st:=by
 have ha2:∀{st:SortSt} {rs:List (List Keyed)} {rest:List Keyed},RI κ kd a₀ st rs rest->∀p∈(arrOf st).toList,Hk κ p:=λI p hp=>ha p ((Array.perm_iff_toList_perm.mp I.perm).mem_iff.mp hp)
 have sz:∀{st:SortSt} {rs:List (List Keyed)} {rest:List Keyed},RI κ kd a₀ st rs rest->(arrOf st).size=a₀.size/\a₀.size=rs.flatten.length+rest.length:=λI=>by
  have:=I.perm.size_eq;refine⟨this,?_⟩;rw[<-this,<-Qo,I.arr,Qg]
 unfold sortRuns';refine Qp (wpS_get ?_)
 extract_lets szv mr lo0
 have ez:szv=a₀.size:=(sz I).1
 clear_value szv mr
 subst ez;refine Qp (wpS_mono (Xj (I:=λx c st'=>∃rs rest,c=(none,rs.flatten.length)/\RI κ kd a₀ st' rs rest/\(x<=rs.flatten.length\/rest=[])) (Q:=λc st'=>∃rs lo,c=(none,lo)/\RI κ kd a₀ st' rs []) ?step ?fin ⟨[],_,rfl,I,.inl (QQ _)⟩) ?post)
 case fin =>
  rintro c st' ⟨rs,rest,rfl,J,o⟩;have:=(sz J).2
  have e:rest=[]:=by
   rcases o with o|o
   ·exact Xf (by exact BL this o)
   exact o
  subst e;exact⟨rs,_,rfl,J⟩
 case step =>
  rintro x c st' _ hx ⟨rs,rest,rfl,J,o⟩;have zz:=(sz J).2;have zs:=(sz J).1;generalize hlo:rs.flatten.length=lo at *;by_cases c1:lo>=a₀.size
  ·show wpS _ _ _ _ (if lo>=a₀.size then _ else _) _ _;refine aS c1 ?_;have e:rest=[]:=Xf (by exact BK zs zz c1);subst e;exact Qt ⟨rs,_,rfl,J⟩
  show wpS _ _ _ _ (if lo>=a₀.size then _ else _) _ _;refine aQ c1 ?_
  have xlo:x<=lo:=by
   rcases o with o|o
   ·exact o
   subst o;simp at zz;exact BJ zs c1 zz
  refine Qp (rY (lo:=lo) (nrem:=a₀.size-lo) hL J.kind (ha2 J) (by exact BI zs zz c1) (by exact BH zs zz c1) λm st1 g1 m1 m2 up=>?_);dsimp -zeta only
  extract_lets n jp
  refine gG (λz:Nat=>jp () z) (λz st2=>Sg lo st' st2/\1<=z/\lo+z<=a₀.size/\Up κ (arrOf st2) lo z) (λn st2 hz=>?_) (λJJ=>?_)
  ·obtain⟨g2,n1,n2,up2⟩:=hz;have J2:=J.seg (by rw[hlo];exact g2);rw[hlo]at J2;have z2:=(sz J2).2;have up3:=v8 up2 (by rw[(sz J2).1];exact n2);generalize hr2:(arrOf st2).toList.drop lo=rest2 at J2 up3 z2;rw[hlo]at z2;refine Qp (wpS_get ?_)
   extract_lets ln jp2
   refine gG (λ_:Unit=>jp2 ()) (λ_ st3=>∃rs3,RI κ kd a₀ st3 rs3 rest2/\rs3.flatten.length=lo) (λ_ st3 hz=>?_) (λJP=>?_)
   ·obtain⟨rs3,J3,l3⟩:=hz;refine Qp (wpS_modify ?_);refine Qt ⟨rs3++[rest2.take n],rest2.drop n,?_,⟨?_,J3.perm,λr hr=>?_,?_,J3.kind,J3.fail⟩,.inl ?_⟩
    ·have:(rs3++[rest2.take n]).flatten.length=lo+n:=by rw[List.flatten_append,Qg,l3];simp;omega
     rw[this]
    ·rw[List.flatten_append];show (arrOf st3).toList=_;rw[J3.arr];simp
    ·rcases Qr.mp hr with e|e
     ·exact J3.ok r e
     have e:r=rest2.take n:=by simpa using e
     subst e;refine⟨λz0=>?_,up3⟩;have:=congrArg List.length z0;rw[Qs,List.length_nil]at this;omega
    ·show ((pendingOf st3).push (lo,n,0)).toList.map _=_;rw[Array.toList_push,Qx,J3.pend,gQ,Nat.zero_add,l3];show _=_++[(lo,(rest2.take n).length)];rw[Qs,show min n rest2.length=n by omega];rfl
    have:(rs3++[rest2.take n]).flatten.length=lo+n:=by rw[List.flatten_append,Qg,l3];simp;omega
    exact BG xlo n1 l3 this
   cases hb:(pendingOf st2).back? with
   | none=>exact JP () st2 ⟨rs,J2,hlo⟩
   | some p =>
   obtain⟨s1,l1,pw1⟩:=p;dsimp -zeta only
   extract_lets pw
   refine Qp (wpS_mono (Xj (I:=λ_ c st3=>c=(none,())/\∃rs3,RI κ kd a₀ st3 rs3 rest2/\rs3.flatten.length=lo) (Q:=λc st3=>c=(none,())/\∃rs3,RI κ kd a₀ st3 rs3 rest2/\rs3.flatten.length=lo) ?_ (λ_ _ z=>z) ⟨rfl,rs,J2,hlo⟩) ?_)
   ·rintro y c st3 _ _ ⟨rfl,rs3,J3,l3⟩;have pl:=oi J3;refine Qp (wpS_get ?_);show wpS _ _ _ _ (match (if (pendingOf st3).size>1 then (pendingOf st3)[(pendingOf st3).size-2]? else none) with|some (_,_,older)=>_|x=>_) _ _;by_cases c2:(pendingOf st3).size>1
    ·rw[QJ c2];obtain⟨q,hq⟩:∃q,(pendingOf st3)[(pendingOf st3).size-2]?=some q:=⟨(pendingOf st3)[(pendingOf st3).size-2],by rw[Xs]⟩;rw[hq];obtain⟨q1,q2,older⟩:=q;dsimp -zeta only;by_cases c3:older<=pw
     ·refine aS c3 ?_;exact Qt ⟨rfl,rs3,J3,l3⟩
     refine aQ c3 ?_;obtain⟨u,X,Y,v,rfl,ul⟩:=t7 (rs:=rs3) (i:=(pendingOf st3).size-2) (by exact BF pl c2);rw[<-ul];refine Qp (iD hL ha J3 λZ st4 lz J4=>?_);refine aQ Qk ?_;refine Qt ⟨rfl,_,J4,?_⟩;rw[<-l3];simp;exact BE lz
    rw[QA c2];exact Qt ⟨rfl,rs3,J3,l3⟩
   rintro c st3 ⟨rfl,rs3,J3,l3⟩;refine Qp (wpS_modify ?_);exact JP () _ ⟨rs3,J3.power pQ,l3⟩
  have z1:=g1.size;by_cases c2:n<mr
  ·refine aS c2 ?_;refine Qp (wpS_lift (wpAny_rule ⟨rfl,?_⟩));have en:n=m:=rfl;refine Qp (v5 (lo:=lo) (n:=min (a₀.size-lo) mr) (ok:=m) hL (g1.kind.trans J.kind) (g1.keys (ha2 J)) (by omega) (by omega) up λst2 g2 up2=>?_);refine aQ Qk ?_;exact JJ _ st2 ⟨g1.trans g2,by omega,by omega,up2⟩
  refine aQ c2 ?_;exact JJ m st1 ⟨g1,m1,by omega,up⟩
 case post =>
  rintro c st1 ⟨rs,lo,rfl,J⟩;have zz:=(sz J).2
  have short:∀(rs:List (List Keyed)),(∀r∈rs,r≠[]/\r.Pairwise (le κ))->rs.length<=rs.flatten.length:=λrs=>by
   induction rs with
   | nil=>intro _;simp
   | cons r rs ih =>
   intro hr;have h1:=(hr r (by simp)).1;have h2:=ih λr' h'=>hr r' (by simp[h']);have:r.length≠0:=λe=>h1 (Xf e);rw[List.flatten_cons,Qg,QU];exact BD h2 this
  have len0:=short rs J.ok;simp only[List.length_nil,Nat.add_zero]at zz;refine Qp (wpS_mono (Xj (I:=λx c st'=>c=(none,())/\∃rs,RI κ kd a₀ st' rs []/\rs.length+x<=a₀.size+1) (Q:=λc st'=>c=(none,())/\∃rs,RI κ kd a₀ st' rs []/\rs.length<=1) ?_ ?_ ⟨rfl,rs,J,by exact BC zz len0⟩) ?_)
  ·rintro x c st' _ hx ⟨rfl,rs,J,l⟩;have pl:=oi J;refine Qp (wpS_get ?_);show wpS _ _ _ _ (if (pendingOf st').size<=1 then _ else _) _ _;by_cases c2:(pendingOf st').size<=1
   ·refine aS c2 ?_;exact Qt ⟨rfl,rs,J,by exact BB pl c2⟩
   refine aQ c2 ?_
   extract_lets i bf j
   have hj:j+1<rs.length:=by
    have h1:j=i-1\/j=i:=by
     show (if _ then i-1 else i)=i-1\/(if _ then i-1 else i)=i
     split
     ·exact .inl rfl
     exact .inr rfl
    exact AM h1 c2 pl
   obtain⟨u,X,Y,v,rfl,ul⟩:=t7 hj
   clear_value j
   subst ul;refine Qp (iD hL ha J λZ st4 lz J4=>?_);refine aQ Qk ?_;refine Qt ⟨rfl,_,J4,?_⟩;simp only[Qg,QU]at l ⊢;omega
  ·rintro c st' ⟨rfl,rs,J,l⟩;exact⟨rfl,rs,J,by exact BA zz l⟩
  rintro c st' ⟨rfl,rs,J,l⟩;refine Qt (h st' J.perm J.fail ?_);rw[J.arr,Xm]
  match rs,l,J.ok with
  | [],_,_=>exact List.Pairwise.nil
  | [r],_,ok=>simpa using(ok r (by simp)).2
end
end Tm
namespace Tm
open PySem PySem.Spec PyProof.Rows
def leV (κ:PyProof.Rows.KeyKind) (u v:Value):Prop:=le κ (u,u) (v,v)
theorem nj {vs:List Value} {p:Keyed} (h:p∈vs.zip vs):p.1=p.2/\p.1∈vs:=by
 obtain⟨i,hi,e⟩:=Qq.mp h;rw[List.getElem_zip]at e;subst e;exact⟨rfl,Xr _⟩
theorem uE {κ:PyProof.Rows.KeyKind} {vs:List Value} {xs:Array Keyed} (hp:xs.Perm (pairsOf vs)) (hs:xs.toList.Pairwise (le κ)):((xs.map (·.2)).toList).Perm vs/\((xs.map (·.2)).toList).Pairwise (leV κ):=by
 have hl:xs.toList.Perm (vs.zip vs):=by rw[<-pairsOf_toList];exact Array.perm_iff_toList_perm.mp hp
 have self:∀p∈xs.toList,p.1=p.2:=λp h=>(nj (hl.mem_iff.mp h)).1
 have e:vs=(vs.zip vs).map (·.2):=by
  rw[List.map_snd_zip];exact Qf _
 refine⟨?_,?_⟩
 ·rw[Array.toList_map]
  conv=>rhs;rw[e]
  exact hl.map _
 rw[Array.toList_map,List.pairwise_map];refine hs.imp_of_mem λ{a b} ha hb h=>?_;have h1:=self a ha;have h2:=self b hb;unfold leV le kv at *;rw[<-h1,<-h2];exact h
section
variable {prog:Program} {w:World} {A:Around} {E:E1} {s:Shared}
structure Can (prog:Program) (w:World) (κ:PyProof.Rows.KeyKind) (kd:SortKind) (h:Heap) (a:Addr) (vs:List Value):Prop where
 key:∀v∈vs,∃x,κ.keyOf v=some x
 lt:∀(A:Around) (s:Shared),(∀b o,b≠a->h.get? b=some o->s.heap.get? b=some o)->iB κ kd prog w A s
 kind:2<=vs.length->∀(A:Around) (E:E1) (s:Shared) (Q:SortKind->Shared->Prop),(∀b o,b≠a->h.get? b=some o->s.heap.get? b=some o)->Q kd s->wpAny (model prog w) A (keyKind' vs.toArray) Q E s
variable {vs:List Value} {a b d:Addr}
theorem pX {κ:PyProof.Rows.KeyKind} {kd:SortKind} {n:Nat} {P:Fin->Shared->Prop} (ho:s.heap.get? a=some (seqObj "list" vs.toArray n)) (c:Can prog w κ kd s.heap a vs) (hn:vs.length<=100000)
  (h:∀out:Array Value,out.toList.Perm vs->out.toList.Pairwise (leV κ)->P (.done (.ret .none)) { s with heap:=sortedHeap s.heap a vs out }):wpAny (model prog w) A (Builtin.«list.sort» ⟨[.ref a],[]⟩) P E s:=by
 rw[list_sort_plain];have ha:a<s.heap.objs.size:=Qn ho;refine Qb (listItems_at ho rfl (Qb (listUpdate_at ho rfl ?_)));obtain⟨e1,ho1⟩:∃e1,(s.heap.update a (Obj.mapSeq λ_=>#[])).get? a=some (seqObj "list" #[] e1):=⟨_,get?_update_seq ho (λ_=>#[])⟩;refine Qb (seqEpoch_at ho1 rfl (Qb (wpAny_newTuple (Qb (wpAny_newList (Q3 ?_))) (by rw[sizeLine_eq];show vs.length<=_;exact xY hn))))
 have keep:∀b o,b≠a->s.heap.get? b=some o->(((s.heap.update a (Obj.mapSeq λ_=>#[])).push (seqObj "tuple" vs.toArray 0)).push (seqObj "list" #[] 0)).get? b=some o:=λb o hb e =>
  Qc _ (Qc _ ((QC _ _ (Xh hb)).trans e))
 have ho6:(((s.heap.update a (Obj.mapSeq λ_=>#[])).push (seqObj "tuple" vs.toArray 0)).push (seqObj "list" #[] 0)).get? a=some (seqObj "list" #[] e1):=Qc _ (Qc _ ho1);show wpAny (model prog w) A _ P E { s with heap:=((s.heap.update a (Obj.mapSeq λ_=>#[])).push (seqObj "tuple" vs.toArray 0)).push (seqObj "list" #[] 0) };dsimp only;have zs:vs.toArray.size=vs.length:=by simp
 by_cases c2:vs.toArray.size<2
 ·rw[QJ c2,QJ c2];refine Qb (Qm ?_);rw[StateT.run_pure];refine Qb (Qm (Qb (seqEpoch_at ho6 rfl (Qb (listUpdate_at ho6 rfl ?_ (hsz2:=by rw[Array.size_map];show (pairsOf vs).size<=_;rw[pairsOf_size,sizeLine_eq];exact Bz hn zs c2))))));simp only[bne_self_eq_false,QW,if_false]
  have sh:(pairsOf vs).toList.Pairwise (le κ):=by
   rw[pairsOf_toList]
   match vs,zs,c2 with
   | [],_,_=>exact List.Pairwise.nil
   | [v],_,_=>exact List.pairwise_singleton _ _
   | v::u::r,zs,c2=>exact absurd c2 (by simp)
  obtain⟨p1,p2⟩:=uE (Array.Perm.refl _) sh;exact Qm (h _ p1 p2)
 rw[QA c2,QA c2];refine Qb (c.kind (by exact By hn zs c2) _ _ _ _ keep ?_)
 refine Qb (Q8 (tR (κ:=κ) (kd:=kd) (a₀:=pairsOf vs) (st:=SortSt.mk' kd (vs.toArray.zip vs.toArray) #[] 7 none) (Q:=λ_ st'=>(arrOf st').Perm (pairsOf vs)/\failedOf st'=none/\(arrOf st').toList.Pairwise (le κ))
  (c.lt _ _ keep) (λp hp=>?_) ⟨rfl,Array.Perm.refl _,λr hr=>(nomatch hr),rfl,rfl,rfl⟩ λst' a1 a2 a3=>⟨a1,a2,a3⟩) ?_ λ_ _ e=>e)
 ·rw[pairsOf_toList]at hp;exact c.key _ (nj hp).2
 rintro⟨⟨⟩,st'⟩ s' ⟨rfl,hp,hf,hs⟩;dsimp only;refine Qb (seqEpoch_at ho6 rfl (Qb (listUpdate_at ho6 rfl ?_ (hsz2:=by refine QZ (Nat.le_of_eq ((Array.size_map ..).trans (hp.size_eq.trans (pairsOf_size _)))) ?_;rw[sizeLine_eq];exact Bx hn zs c2))));rw[hf];simp only[bne_self_eq_false,QW,if_false];obtain⟨p1,p2⟩:=uE hp hs;exact Qm (h _ p1 p2)
theorem jh {h:Heap} {out:Array Value} {o:Obj} (hb:b≠a) (e:h.get? b=some o):(sortedHeap h a vs out).get? b=some o:=by
 unfold sortedHeap;exact(QC _ _ (Xh hb)).trans (Qc _ (Qc _ ((QC _ _ (Xh hb)).trans e)))
theorem kz {h:Heap} {vs:List Value} {out:Array Value} {n:Nat} (e:h.get? a=some (seqObj "list" vs.toArray n)):∃m,(sortedHeap h a vs out).get? a=some (seqObj "list" out m):=by
 unfold sortedHeap;exact⟨_,get?_update_seq (Qc _ (Qc _ (get?_update_seq e (λ_=>#[])))) (λ_=>out)⟩
theorem hZ {κ:Heap->PyProof.Rows.KeyKind} {kd:SortKind} {r:Value} {Q:E1} {G:Heap->List Value->Prop}
  (col:∀(A:Around) (E:E1) (R:List Value->Shared->Prop),A.handled=none->(∀h' tk vs,(∀b o,s.heap.get? b=some o->h'.get? b=some o)->s.heap.objs.size<=h'.objs.size->G h' vs->R vs { s with heap:=h',toks:=tk })->wpAny (model prog w) A (collect r) R E s)
  (hh:A.handled=none) (can:∀h' vs D,(∀b o,s.heap.get? b=some o->h'.get? b=some o)->G h' vs->D=h'.objs.size->vs.length<=100000/\Can prog w (κ h') kd (h'.push (seqObj "list" vs.toArray 0)) D vs)
  (h:∀D h' tk vs h1 (out:Array Value) m,(∀b o,s.heap.get? b=some o->h1.get? b=some o)->G h1 vs->(∀b o,h1.get? b=some o->h'.get? b=some o)->s.heap.objs.size<=D->h1.objs.size<=D->h'.get? D=some (seqObj "list" out m)->out.toList.Perm vs->out.toList.Pairwise (leV (κ h1))->Q (.ref D) { s with heap:=h',toks:=tk }) :
  wpAny (model prog w) A (call (.builtin "sorted") [r]) Q E s:=by
 refine Calls.call_function_entry kind_sorted plain_sorted entry_sorted (args_sorted1 _) ?_;unfold Builtin.«sorted»;refine Qb (m:=checkCount "sorted" 1 1 _) (Qm ?_);refine Qb (col A.in1 E _ hh λh1 tk vs k1 z1 g1=>?_);obtain⟨len,_⟩:=can h1 vs h1.objs.size k1 g1 rfl;refine Qb (wpAny_newList ?_ (by rw[sizeLine_eq];exact xY len));obtain⟨_,cn⟩:=can h1 vs h1.objs.size k1 g1 rfl;have hoL:(h1.push (seqObj "list" vs.toArray 0)).get? h1.objs.size=some (seqObj "list" vs.toArray 0):=Qu _ rfl;refine Qb (Q3 (wpAny_call_entry (s:={ s with heap:=h1.push (seqObj "list" vs.toArray 0),toks:=tk }) slot_list_sort ⟨_,hoL,rfl⟩ entry_list_sort (pX hoL cn len λout p1 p2=>⟨_,rfl,?_⟩) (args_list_sort _)));obtain⟨m,at'⟩:=kz (vs:=vs) (out:=out) hoL;exact Qm ⟨_,rfl,h _ _ _ vs h1 out m k1 g1 (λb o e=>jh (QB (Qn e)) (Qc _ e)) z1 (Qf _) at' p1 p2⟩
theorem vP {T:String} {r:Addr} {n:Nat} {P:Nat->Value->Prop} {OK:Heap->Prop} {R:List Value->Shared->Prop} (K:PySem.W.KdlSrc prog w T r d n P OK) (hh:A.handled=none) (ok:OK s.heap) (hn:n<=sizeLine)
  (h:∀(g:Heap) (tk:Nat) (acc:Array Value),(∀b o,s.heap.get? b=some o->g.get? b=some o)->s.heap.objs.size<=g.objs.size->PySem.ItemsOf P acc n->R acc.toList { s with heap:=g,toks:=tk }):wpAny (model prog w) A (collect (.ref r)) R E s:=by
 obtain⟨l1,l2⟩:=K.there _ ok;unfold collect;refine Qb (wpAny_runValue (codeAny_builtin entry_proto_collect' ?_));rw[Around.under_plainId PySem.F.plain_proto_collect _];refine Qb (wpAny_newObj_type (Qm ⟨plainId_quiet PySem.F.plain_list_iadd _,codeAny_builtin entry_list_iadd' ?_⟩));rw[Around.under_plainId PySem.F.plain_list_iadd _]
 refine Q8 (PySem.W.kdl_extend (A:=A) (s:={ s with heap:=s.heap.push { cls:=.type "list", data:=.seq ([]:List Value).toArray } }) (R:=λq s'=>∃(g:Heap) (tk:Nat) (acc:Array Value) (c:Nat),q=.ok (.ret (.ref s.heap.objs.size))/\s'={ s with heap:=g,toks:=tk } /\
   (∀b o,s.heap.get? b=some o->g.get? b=some o)/\g.get? s.heap.objs.size=some { cls:=.type "list", dict:=none,data:=.seq acc c,slots:=#[] }/\PySem.ItemsOf P acc n)
  K hh (K.keep _ _ ok λb _ o e=>Qc _ e) s.heap.objs.size (Nat.ne_of_gt l1) (Nat.ne_of_gt l2) (.ref s.heap.objs.size) 0 (Qu _ rfl)
  (λg tk acc c k at' it=>⟨g,tk,acc,c,rfl,rfl,λb o e=>k b o (QB (Qn e)) (Qc _ e),at',it⟩) hn) (λfn s' x=>?_) λe s' x=>?_
 ·cases fn with
  | done f =>
   obtain⟨g,tk,acc,c,e,rfl,k,at',it⟩:=x;cases e;exact Qb (wpAny_load at' (Qm (h g tk acc k (Xx (Qn at')) it)))
  | again c1 =>
   refine⟨x.1,codeAny_mono x.2 λq s2 y=>?_⟩;obtain⟨g,tk,acc,c,rfl,rfl,k,at',it⟩:=y;exact Qb (wpAny_load at' (Qm (h g tk acc k (Xx (Qn at')) it)))
 obtain⟨_,_,_,_,z,_⟩:=x;cases z
theorem oR {h:Heap} {ss:List Str} (hS:StrsAre vs ss):Can prog w PyProof.Rows.strKind oneType' h a vs where
 key v hv:=by
  obtain⟨x,t,e⟩:=hS.all v hv;exact⟨x.cps.toList,by rw[e]⟩
 lt A s _:=λE x y a b Q ha hb hq=>by rw[keyLt'_oneType];exact strKind_oneLt prog w A E s x y a b ha hb hq
 kind h2 A E s Q _ hq:=by
  match vs,hS,h2 with
  | v₁::v₂::rest,hS,_=>rw[keyKind_strs hS];exact Qm hq
end
end Tm
set_option maxHeartbeats 4000000
namespace L2
open PySem PySem.Spec PyProof.Rows
def Fz:HO->Prop
 | .dK _=>True
 | .dT _=>True
 | .lst _=>True
 | _=>False
def back (H:Hp) (a:Addr) (H':Hp):Hp:=λb=>if b=a then H a else H' b
variable {a b:Addr} {H H':Hp}
theorem fX:back H a H' a=H a:=QJ rfl
theorem bS (h:b≠a):back H a H' b=H' b:=QA h
section
variable {X:Cx} {pins:E2} {U σ':St} {H H':Hp} {s s':Shared} {a:Addr} {u:HO} {o:Obj}
theorem iV (r:Rd H a u):∃v,H a=some v:=by
 rcases r with r|⟨o,r⟩ <;> exact⟨_,r⟩
theorem xG (r:Rd H a u) (f:Fz u):(∀xs,H a≠some (.tup xs))/\(∀ps,H a≠some (.tbl ps))/\(∀x,H a≠some (.own x))/\∀ob v,H a=some (.frz ob v)->v=u:=by
 rcases r with r|⟨o,r⟩
 ·refine⟨λxs z=>?_,λps z=>?_,λx z=>?_,λob v z=>?_⟩ <;> (rw[r]at z;cases z;exact f.elim)
 refine⟨λxs z=>?_,λps z=>?_,λx z=>?_,λob v z=>?_⟩ <;> (rw[r]at z;cases z);rfl
theorem Inv.freeze (I:Inv X pins U H s) (r:Rd H a u) (f:Fz u) (e:s.heap.get? a=some o):Inv X pins U (upd H a (.frz o u)) s:=by
 obtain⟨v,hv⟩:=iV r;obtain⟨n1,n2,n3,n4⟩:=xG r f;have ne:∀{b},H b=none->b≠a:=λh z=>by rw[z,hv]at h;cases h
 have ok:=r.ok I.hok;refine⟨I.ok,I.os,I.bare,⟨I.base.keep,I.base.slot,λb ob q n hx=>?_,I.base.there,λb xs q=>?_,λb ob w q=>?_,λb ps q=>?_⟩,I.loc,I.cell,?_,λx c h=>?_,λp hp=>?_,λb w q=>?_,I.len⟩
 ·have:=I.base.free b ob q n hx;rw[aj (ne this)];exact this
 ·have:=I.base.tups b xs q;rw[aj (λz=>n1 xs (by rw[<-z];exact this))];exact this
 ·have z:=I.base.frzs b ob w q;by_cases hb:b=a
  ·subst hb;have ew:=n4 ob w z;subst ew;obtain⟨e1,_⟩:=I.hok b _ z;rw[e]at e1;cases e1;exact af
  rw[aj hb];exact z
 ·obtain⟨more,z⟩:=I.base.tbls b ps q;exact⟨more,by rw[aj (λy=>n2 _ (by rw[<-y];exact z))];exact z⟩
 ·rw[aj (ne I.free)];exact I.free
 ·rw[aj (ne (I.freeC x c h))];exact I.freeC x c h
 ·obtain⟨p1,p2,p3,p4,p5⟩:=I.pin p hp;exact⟨p1,by rw[aj (ne p2)];exact p2,p3,p4,p5⟩
 have st:∀{b w},bn X.prog X.w H s.heap b w->bn X.prog X.w (upd H a (.frz o u)) s.heap b w:=λh=>h.stay (λ_ _ _ q=>q) (λd q=>by rw[aj (λz=>n3 _ (by rw[<-z];exact q))];exact q) λd xs q=>by rw[aj (λz=>n1 _ (by rw[<-z];exact q))];exact q
 by_cases hb:b=a
 ·subst hb;rw[af]at q;cases q;exact⟨e,st ok⟩
 rw[aj hb]at q;exact st (I.hok b w q)
theorem Inv.thaw (I:Inv X pins U H s) (r:Rd H a u) (f:Fz u) (e:s.heap.get? a=some o) (J:Inv X pins σ' H' s') (h':H' a=some (.frz o u)):Inv X pins σ' (back H a H') s':=by
 obtain⟨v,hv⟩:=iV r;obtain⟨n1,n2,n3,n4⟩:=xG r f;have ne:∀{b},H' b=none->b≠a:=λh z=>by rw[z,h']at h;cases h
 have ok:=J.hok a _ h';refine⟨J.ok,J.os,J.bare,⟨J.base.keep,J.base.slot,λb ob q n hx=>?_,J.base.there,λb xs q=>?_,λb ob w q=>?_,λb ps q=>?_⟩,J.loc,J.cell,?_,λx c h=>?_,λp hp=>?_,λb w q=>?_,J.len⟩
 ·have:=J.base.free b ob q n hx;rw[bS (ne this)];exact this
 ·have:=J.base.tups b xs q;rw[bS (λz=>by rw[z,h']at this;cases this)];exact this
 ·by_cases hb:b=a
  ·subst hb;rw[fX];exact I.base.frzs b ob w q
  rw[bS hb];exact J.base.frzs b ob w q
 ·obtain⟨more,z⟩:=J.base.tbls b ps q;exact⟨more,by rw[bS (λy=>by rw[y,h']at z;cases z)];exact z⟩
 ·rw[bS (ne J.free)];exact J.free
 ·rw[bS (ne (J.freeC x c h))];exact J.freeC x c h
 ·obtain⟨p1,p2,p3,p4,p5⟩:=J.pin p hp;exact⟨p1,by rw[bS (ne p2)];exact p2,p3,p4,p5⟩
 have st:∀{b w},bn X.prog X.w H' s'.heap b w->bn X.prog X.w (back H a H') s'.heap b w:=λh=>h.stay (λ_ _ _ q=>q) (λd q=>by rw[bS (λz=>by rw[z,h']at q;cases q)];exact q) λd xs q=>by rw[bS (λz=>by rw[z,h']at q;cases q)];exact q
 by_cases hb:b=a
 ·subst hb;rw[fX]at q;rcases r with r|⟨o2,r⟩
  ·rw[r]at q;cases q;exact st ok.2
  obtain⟨e2,_⟩:=I.hok b _ r;rw[e]at e2;cases e2;rw[r]at q;cases q;exact⟨ok.1,st ok.2⟩
 rw[bS hb]at q;exact st (J.hok b w q)
noncomputable def xn (D:Ends) (H:Hp) (a:Addr) (o:Obj) (u:HO):Ends where
 nx:=λσ' H'=>H' a=some (.frz o u)/\D.nx σ' (back H a H')
 bk:=λσ' H'=>H' a=some (.frz o u)/\D.bk σ' (back H a H')
 ct:=λσ' H'=>H' a=some (.frz o u)/\D.ct σ' (back H a H')
 rt:=λv H'=>H' a=some (.frz o u)/\D.rt v (back H a H')
def Ap (t:TS):TS:=λD U H=>∃a u,Rd H a u/\Fz u/\∀o,t (xn D H a o u) U (upd H a (.frz o u))
theorem yU {st:Stmt} {t:TS} (h:PS X st t):PS X st (Ap t):=by
 intro pins s U H D I q;obtain⟨a,u,r,f,q⟩:=q;obtain⟨v,hv⟩:=iV r
 obtain⟨o,e⟩:∃o,s.heap.get? a=some o:=by
  rcases r with r|⟨o,r⟩
  ·have:=(I.hok a _ r)
   cases u with
   | lst xs=>obtain⟨_,_,_,_,e⟩:=this;exact⟨_,e⟩
   | dK kvs=>obtain⟨_,_,_,_,o,_,_,e,_⟩:=this;exact⟨_,e⟩
   | dT kvs=>obtain⟨_,_,_,_,o,_,_,e,_⟩:=this;exact⟨_,e⟩
   | _=>exact f.elim
  exact⟨o,(I.hok a _ r).1⟩
 refine Q8 (h pins s U _ _ (I.freeze r f e) (q o)) (λfl s' z=>?_) λ_ _ z=>z
 cases fl with
 | next=>obtain⟨σ',H',J,h1,h2⟩:=z;exact⟨σ',_,I.thaw r f e J h1,h2⟩
 | brk=>obtain⟨σ',H',J,h1,h2⟩:=z;exact⟨σ',_,I.thaw r f e J h1,h2⟩
 | cont=>obtain⟨σ',H',J,h1,h2⟩:=z;exact⟨σ',_,I.thaw r f e J h1,h2⟩
 | ret w=>obtain⟨v,σ',H',J,rv,h1,h2⟩:=z;exact⟨v,σ',_,I.thaw r f e J h1,rv,h2⟩
def xv (t:TE):TE:=λU H Q=>∃a u,Rd H a u/\Fz u/\∀o,t U (upd H a (.frz o u)) λv H'=>H' a=some (.frz o u)/\Q v (back H a H')
theorem uC {ex:Expr} {t:TE} (h:PE X ex t):PE X ex (xv t):=by
 intro pins s U H Q I q;obtain⟨a,u,r,f,q⟩:=q
 obtain⟨o,e⟩:∃o,s.heap.get? a=some o:=by
  rcases r with r|⟨o,r⟩
  ·have:=(I.hok a _ r)
   cases u with
   | lst xs=>obtain⟨_,_,_,_,e⟩:=this;exact⟨_,e⟩
   | dK kvs=>obtain⟨_,_,_,_,o,_,_,e,_⟩:=this;exact⟨_,e⟩
   | dT kvs=>obtain⟨_,_,_,_,o,_,_,e,_⟩:=this;exact⟨_,e⟩
   | _=>exact f.elim
  exact⟨o,(I.hok a _ r).1⟩
 refine Q8 (h pins s U _ _ (I.freeze r f e) (q o)) (λv s' z=>?_) λ_ _ z=>z;obtain⟨v',H',J,rv,h1,h2⟩:=z;exact⟨v',_,I.thaw r f e J h1,rv,h2⟩
end
def Itd (a:Addr) (o:Obj) (kvs:List (Key × V)):It :=
 ⟨λi H=>H a=some (.frz o (.dK kvs))/\i<kvs.length,λi H x H'=>H'=H/\∃k v,kvs[i]?=some (k,v)/\x=kV k,λi H=>H a=some (.frz o (.dK kvs))/\kvs.length<=i⟩
theorem vj {P:Program} {w:World} {k:Key} {u:Value} (h:(bp P w).is k u=true):aX (kV k) u:=by
 rcases bA (show iG k u=true from h) with⟨i,t,rfl,rfl⟩|⟨x,t,rfl,rfl⟩
 ·exact⟨t,rfl⟩
 exact⟨t,rfl⟩
theorem KV.len {κ:Type} {xs:List (κ × V)} {ys:List (κ × Value)} (r:KV xs ys):xs.length=ys.length:=Paired.length r
theorem KV.get {κ:Type}:∀{xs:List (κ × V)} {ys:List (κ × Value)} {i:Nat} {k:κ} {v:V},KV xs ys->xs[i]?=some (k,v)->∃u,ys[i]?=some (k,u)/\aX v u
 | _,_,_,_,_,.nil,e=>by simp at e
 | _,(k',u)::_,0,k,v,.cons r _,e=>by
  simp at e;subst e;obtain⟨r1,r2⟩:=r;have r1:k=k':=r1;subst r1;exact⟨u,rfl,r2⟩
 | _,_,i+1,k,v,.cons _ t,e=>by
  obtain⟨u,h1,h2⟩:=KV.get (i:=i) t (by simpa using e);exact⟨u,by simpa using h1,h2⟩
variable {kvs:List (Key × V)}
theorem gx {X:Cx} {pins:E2} {U:St} {s:Shared} {o:Obj} {es:Array DictEntry} {ep:Nat} (I:Inv X pins U H s) (h:H a=some (.frz o (.dK kvs))) (hd:o.data=.dict es ep) :
  ∃vs,KV kvs vs/\s.heap.DictAt (bp X.prog X.w) a vs ep/\(a==sysModules)=false:=by
 obtain⟨e1,z,y,vs,rel,ob,es',ep',e2,c,d,r⟩:=I.hok a _ h;rw[e1]at e2;cases e2;rw[hd]at d;cases d;exact⟨vs,rel,⟨o,es,e1,c,hd,r⟩,y⟩
theorem r_ {P:Program} {w:World} {K:PySem.W.Frag} {tg:Expr} (a it:Addr) (o:Obj) (kvs:List (Key × V)) (es:Array DictEntry) (ep:Nat) (hd:o.data=.dict es ep):Turn P w K tg (Itd a o kvs) [it] it (λi h=>h.IsKeyIter it a i kvs.length ep) where
 mem:=by simp
 obj:=λi h st b hb=>by
  have e:b=it:=by simpa using hb
  subst e;obtain⟨ob,e,c,d⟩:=st;exact⟨ob,e,λv z=>by rw[d]at z;cases z⟩
 keep:=λi h h' st k=>st.at λo e=>k it (by simp) o e
 item:=by
  intro X hP hw hK hc i pins s U H E I hf st hg;subst hP hw hK;obtain⟨hz,hi⟩:=hg;obtain⟨vs,rel,da,_⟩:=gx I hz hd;obtain⟨⟨k,v⟩,hx⟩:∃p,kvs[i]?=some p:=⟨kvs[i],by simp[hi]⟩;obtain⟨u,hu,ru⟩:=rel.get hx;obtain⟨f0,f1,f2,f3,f4,f5⟩:=hf it (by simp);have st0:=st;rw[rel.len]at st;refine wpAny_pyNext_dict_item st da hu λkey h' hkey st' sb=>?_;have I1:Inv X pins U H { s with heap:=h' }:=I.turned (t':=s.toks) (λb o hb e=>(sb.2 b hb).trans e) f0 f1 f3 f4 f5;rw[<-rel.len]at st';obtain⟨ob,e,c,d⟩:=id st';exact⟨key,rfl,vq (s:={ s with heap:=h' }) e c d (by decide) ⟨kV k,H,I1,vj hkey,⟨rfl,k,v,hx,rfl⟩,st',λb hb=>(hf b hb).1⟩⟩
 done:=by
  intro X hP hw hK hc i pins s U H E I hf st hg;subst hP hw hK;obtain⟨hz,hi⟩:=hg;obtain⟨vs,rel,da,_⟩:=gx I hz hd;obtain⟨f0,f1,f2,f3,f4,f5⟩:=hf it (by simp);rw[rel.len]at st;exact wpAny_pyNext_dict_end (I.ok.hd hc) st da (Xv (by rw[<-rel.len];exact hi)) λh' eb=>⟨rfl,I.turned (t':=s.toks) (λb o hb e=>eb b o hb e) f0 f1 f3 f4 f5⟩
 self:=λ_ _ _ _ _ st h=>wpAny_pyIter_keyiter st h
def vo (tl:TE):TI:=λU H R=>tl U H λx H1=>∃a o kvs,x=.ref a/\H1 a=some (.frz o (.dK kvs))/\R (Itd a o kvs) H1
section
variable {X:Cx} {tg:Expr}
theorem ju {l:Expr} {tl:TE} (hl:PE X l tl):PI X tg l (vo tl):=by
 intro pins s U H R I h;refine thn (hl pins s U H _ I h) λv s1 ⟨x,H1,I1,r1,q1⟩=>?_;obtain⟨a,o,kvs,e,hz,q⟩:=q1;subst e;cases r1;obtain⟨e1,_,_,vs,rel,ob,es,ep,e2,c,d,r⟩:=I1.hok a _ hz;rw[e1]at e2;cases e2;obtain⟨vs,rel,da,hm⟩:=gx I1 hz d;refine wpAny_pyIter_dict hm da ?_;refine⟨s1.heap.objs.size,[s1.heap.objs.size],_,_,H1,rfl,I1.kept (t':=s1.toks) λb o e=>Qc _ e,r_ a _ o kvs es ep d,⟨_,Qu _ rfl,rfl,by rw[rel.len];rfl⟩,λb hb=>?_,q⟩;have e:b=s1.heap.objs.size:=by simpa using hb
 subst e;exact I1.fpOk (Qf _) (I1.hok.fresh (Qf _))
end
theorem vv {o:Obj} {g:TG} {tb:TS} {D:Ends} {U:St} (Pv:Nat->St->Hp->Prop) (h0:Pv 0 U H) (hl:∀i U H,i<=kvs.length->Pv i U H->H a=some (.frz o (.dK kvs)))
  (hs:∀i k v U H,kvs[i]?=some (k,v)->Pv i U H->g (kV k) U H λσ2 H2=>tb { D with nx:=Pv (i+1),ct:=Pv (i+1),bk:=D.nx } σ2 H2) (hd:∀U H,Pv kvs.length U H->D.nx U H) :
  ∃W:Nat->Nat->St->Hp->Prop,(∃m,W 0 m U H)/\∀i m U H,W i m U H ->
   ((Itd a o kvs).stop i H/\D.nx U H)\/((Itd a o kvs).go i H/\∃N:St->Hp->Prop,(∀σ' H',N σ' H'->∃m',m'<m/\W (i+1) m' σ' H')/\∀x H',(Itd a o kvs).yld i H x H'->g x U H' λσ2 H2=>tb { D with nx:=N,ct:=N,bk:=D.nx } σ2 H2):=by
 refine⟨λi m U H=>m=kvs.length-i/\i<=kvs.length/\Pv i U H,⟨kvs.length,by simp,QQ _,h0⟩,?_⟩;rintro i m U H ⟨rfl,hi,p⟩;have q:=hl i U H hi p;by_cases hlt:i<kvs.length
 ·refine .inr ⟨⟨q,hlt⟩,Pv (i+1),λσ' H' p'=>⟨kvs.length-(i+1),by exact om6 hlt,rfl,hlt,p'⟩,λx H' y=>?_⟩;obtain⟨e,k,v,hk,ex⟩:=y;subst e ex;exact hs i k v U _ hk p
 have e:i=kvs.length:=by exact om0 hi hlt
 subst e;exact .inl ⟨⟨q,Qf _⟩,hd U H p⟩
section
variable {X:Cx} {o e f:Expr} {apos cpos:Pos} {td ty tx:TE}
end
def leT (a b:Str):Prop:=¬(b.cps.toList<a.cps.toList)
theorem vb {a b:Str} (h1:leT a b) (h2:leT b a):a=b:=by
 have e:=List.le_antisymm (List.not_lt.mp h1) (List.not_lt.mp h2);cases a;cases b;exact congrArg Str.mk (Array.toList_inj.mp e)
theorem pi {ts:List Str} {out:List Value}:∀{us:List Value},StrsAre us ts->out.Perm us->out.Pairwise (Tm.leV PyProof.Rows.strKind)->∃ss,StrsAre out ss/\ss.Perm ts/\ss.Pairwise leT:=λ{us} h p s=>by
 have all:∀v∈out,∃x t,v=.str x t:=λv hv=>h.all v (p.mem_iff.mp hv);refine⟨out.map strOf,strsAre_map out all,by rw[<-h.strs];exact p.map _,?_⟩;rw[List.pairwise_map];refine s.imp_of_mem λ{a b} ha hb q=>?_;obtain⟨x,t,rfl⟩:=all a ha;obtain⟨y,u,rfl⟩:=all b hb;have q:decide (y.cps.toList<x.cps.toList)=false:=q;show ¬(y.cps.toList<x.cps.toList);simpa using q
theorem jd:∀{ys:List Str} {us:List Value},StrsAre us ys->be (ys.map V.str) us
 | _,_,.nil=>.nil
 | _,_,.cons x t h=>.cons ⟨t,rfl⟩ (jd h)
theorem qI:∀{as:List Value} {ss:List Str},as.length=ss.length->(∀(j:Nat) v,as[j]?=some v->∃x t,ss[j]?=some x/\v=.str x t)->StrsAre as ss
 | [],[],_,_=>.nil
 | [],_::_,h,_=>by simp at h
 | _::_,[],h,_=>by simp at h
 | a::as,x::ss,h,f=>by
  obtain⟨y,t,e1,e2⟩:=f 0 a rfl;cases e1;subst e2;exact .cons x t (qI (by simpa using h) λj v e=>by obtain⟨y,t,e1,e2⟩:=f (j+1) v (by simpa using e);exact⟨y,t,by simpa using e1,e2⟩)
section
variable {X:Cx}
def DB (K:PySem.W.Frag) (H:Hp) (l:Addr) (ss:List Str):Prop:=SqL K H l (ss.map V.str)\/∃kvs,Rd H l (.dK kvs)/\kvs.map (·.1)=ss.map Sum.inr
def yR (K:PySem.W.Frag):List V->Hp->VK->Prop:=λxs H Q=>∃(l:Addr) (ss:List Str),xs=[.ref l]/\DB K H l ss/\ss.length<=100000/\∀(p:Addr) (ss':List Str),H p=none->ss'.Perm ss->ss'.Pairwise leT->Q (.ref p) (upd H p (.lst (ss'.map V.str)))
theorem jX (hc:X.calm=true):cZ X (.builtin "sorted") (yR X.K):=by
 intro pins s U H xs us Q I r h;obtain⟨l,ss,rfl,src,hz,q⟩:=h;obtain⟨u,rfl,ru⟩:=d6 r;cases ru
 have fin:∀(D:Addr) (h':Heap) (tk:Nat) (vs:List Value) (h1:Heap) (out:Array Value) (m:Nat),(∀b o,s.heap.get? b=some o->h1.get? b=some o)->StrsAre vs ss->(∀b o,h1.get? b=some o->h'.get? b=some o)->s.heap.objs.size<=D->h1.objs.size<=D->h'.get? D=some (seqObj "list" out m)->out.toList.Perm vs->out.toList.Pairwise (Tm.leV PyProof.Rows.strKind)->EP X pins U Q (.ref D) { s with heap:=h',toks:=tk }:=λD h' tk vs h1 out m k1 g1 k2 hle hD at' p1 p2=>by
  obtain⟨ss',so,pm,st⟩:=pi g1 p1 p2;have lo:ss'.length=ss.length:=pm.length_eq;exact⟨.ref D,_,I.laid (o:=.lst (ss'.map V.str)) (t':=tk) (λb o g=>k2 b o (k1 b o g)) hle ⟨by rw[Qa,sizeLine_eq];exact zk hz lo,out.toList,m,jd so,at'⟩,rfl,q _ ss' (I.hok.fresh hle) pm st⟩
 rcases src with hl|⟨kvs,rd,ek⟩
 ·obtain⟨its,rv,pl,_⟩:=I.list hl;have sa:=gi rv;have hlen:its.length=ss.length:=by rw[<-rv.length,Qa]
  refine Tm.hZ (s:=s) (κ:=λ_=>PyProof.Rows.strKind) (kd:=oneType') (G:=λ_ vs=>StrsAre vs ss) (λA E R _ hR=>collect_list pl.isList (hR _ _ its (λb o e=>?_) (by rw[Heap.size_update,size_push'];exact Nat.le_succ _) sa) (by rw[sizeLine_eq];exact zk hz hlen)) (I.ok.hd hc) (λh' vs D k g _=>⟨by rw[g.length];exact hz,Tm.oR g⟩) fin;exact(QC _ _ (Nat.ne_of_gt (Qn e))).trans (Qc _ e)
 obtain⟨z,hm,vs,rel,dd⟩:=jQ I.hok rd;obtain⟨ep,da⟩:=dd.dictAt
 have kl:vs.length=ss.length:=by
  have:=congrArg List.length ek;rw[Qa,Qa]at this;rw[<-this];exact(KV.len rel).symm
 refine Tm.hZ (s:=s) (κ:=λ_=>PyProof.Rows.strKind) (kd:=oneType') (G:=λ_ vs=>StrsAre vs ss) (λA E R hA hR=>Tm.vP (PySem.W.kdl_dict (knd:=bp X.prog X.w) (kvs:=vs) (ep:=ep) hm) hA da (by rw[sizeLine_eq];exact zk hz kl) λh' tk acc k z it=>hR h' tk acc.toList k z ?_) (I.ok.hd hc) (λh' vs D k g _=>⟨by rw[g.length];exact hz,Tm.oR g⟩) fin;have al:acc.toList.length=ss.length:=by rw[Qo,it.1,kl]
 have at_:∀(j:Nat) v,acc.toList[j]?=some v->∃x t,ss[j]?=some x/\v=.str x t:=λj v e=>by
  obtain⟨k,x,e1,e2⟩:=it.2 j v (by rw[<-Qy];exact e)
  obtain⟨y,e3⟩:∃y,kvs[j]?=some (k,y):=by
   have hj:j<kvs.length:=by rw[KV.len rel];exact(Qe.mp e1).1
   obtain⟨u,hu,_⟩:=KV.get (i:=j) (k:=kvs[j].1) (v:=kvs[j].2) rel (by rw[Qd hj]);rw[e1]at hu;cases hu;exact⟨kvs[j].2,by rw[Qd hj]⟩
  have e4:=congrArg (·[j]?) ek;simp only[Qi,e3]at e4
  cases e5:ss[j]? with
  | none=>rw[e5]at e4;cases e4
  | some y' =>
  rw[e5]at e4;have e6:k=Sum.inr y':=QN e4;subst e6;obtain⟨t,e7⟩:=vj e2;exact⟨y',t,rfl,e7⟩
 exact qI al at_
end
section
variable {X:Cx}
end
section
variable {X:Cx}
def qT (T:Addr):R2:=λx y H Q=>x=.ref T/\((y=.str "0" /\ Q (.str "1") H)\/(y=.str "1" /\ Q (.str "0") H))
theorem wO {T:Addr} (hT:qD X.K T [("0", .flat (.str "1")),("1", .flat (.str "0"))]):IxR X (qT T):=by
 intro value slice pins s U H x y v u Q I rx ry h hs;obtain⟨e1,h⟩:=h;subst e1;cases rx;have here:KTD.Here X.base s.heap T [("0", .flat (.str "1")),("1", .flat (.str "0"))]:=⟨KTD.text_of_look (get:=λa=>X.K.lookup a) (λa o e=>I.mod.kin a o e) hT,I.bk⟩;rcases h with⟨e,q⟩|⟨e,q⟩
 ·subst e;obtain⟨t,e⟩:=ry;subst e;refine KTD.item_textA here (by rfl) (by decide +kernel) ?_ hs;have e:decide (("0" : Str) = "0")=true:=by decide +kernel
  simp only[KTD.EachL,e,if_true];exact λt=>⟨.str "1", H,I.tok _,⟨_,rfl⟩,q⟩
 subst e;obtain⟨t,e⟩:=ry;subst e;refine KTD.item_textA here (by rfl) (by decide +kernel) ?_ hs;have e:decide (("1" : Str) = "0")=false:=by decide +kernel
 simp only[KTD.EachL,e,QW,if_false];exact λ_ t=>⟨.str "0", H,I.tok _,⟨_,rfl⟩,q⟩
end
end L2
namespace LZ
open PySem
section
variable {prog:Program} {w:World} {A:Around} {E:E1} {s:Shared}
abbrev IsZ (h:Heap) (z TI TO:Addr) (f0:Value) (f1:Bool):Prop :=
 h.get? z=some { cls:=.type "zip", dict:=none,data:=.fields #[f0,.bool f1,.bool false,.ref TI,.ref TO],slots:=#[] }
structure Apart5 (z TI TO i1 i2 l:Addr):Prop where
 TIz:TI≠z
 TOz:TO≠z
 i1z:i1≠z
 i2z:i2≠z
 TITO:TI≠TO
 TIi1:TI≠i1
 TIi2:TI≠i2
 TOi1:TO≠i1
 TOi2:TO≠i2
 i12:i1≠i2
 lz:l≠z
 lTO:l≠TO
 li1:l≠i1
 li2:l≠i2
variable {t:Tok} {x:Str} {it z i1 i2 l a:Addr} {ty:String}
theorem h_ (hty:ty = "str_ascii_iterator" \/ ty = "str_iterator") {i c:Nat} {Q:E1} (hit:s.heap.IsStrIter it ty x t i) (hx:x.cps[i]?=some c)
  (hQ:∀h',h'.IsStrIter it ty x t (i+1)->Heap.SameBut it s.heap h'->Q (.str ⟨#[c]⟩ s.toks) { s with heap:=h',toks:=s.toks+1 }) :
  wpAny (model prog w) A (Builtin.SmallTypes.nextOf (.ref it)) Q E s:=by
 rcases hty with e|e
 ·subst e;exact wpAny_nextOf_ascii_item hit hx hQ
 subst e;exact wpAny_nextOf_wide_item hit hx hQ
variable {Q:Option Value->Shared->Prop} {xs:Array Value}
theorem pM (hty:ty = "str_ascii_iterator" \/ ty = "str_iterator") {TI TO:Addr} {k c:Nat} {v a b:Value} (D:Apart5 z TI TO i1 i2 l)
  (hz:IsZ s.heap z TI TO .none false) (hTI:IsPair s.heap TI (.ref i1) (.ref i2)) (hTO:IsPair s.heap TO a b) (h1:s.heap.IsListIter i1 l k) (h2:s.heap.IsStrIter i2 ty x t k) (hl:s.heap.IsList l xs) (hv:xs[k]?=some v) (hc:x.cps[k]?=some c)
  (hQ:∀h',IsZ h' z TI TO (rawInt s.heap.objs.size) false->(∃a b,IsPair h' TO a b)->h'.IsListIter i1 l (k+1)->h'.IsStrIter i2 ty x t (k+1)->IsPair h' s.heap.objs.size v (.str ⟨#[c]⟩ s.toks)->h'.objs.size=s.heap.objs.size+1 ->
   (∀c o,c≠z->c≠TO->c≠i1->c≠i2->s.heap.get? c=some o->h'.get? c=some o)->Q (some (.ref s.heap.objs.size)) { s with heap:=h',toks:=s.toks+1 }) :
  wpAny (model prog w) A (pyNext (.ref z)) Q E s:=by
 have hT:s.TypeIs (.ref z) "zip" := ⟨_,hz,rfl⟩;unfold pyNext
 refine Qb (wpAny_attempt (wpAny_callSpecial?_slot (name:=Str.ofString "__next__") hT F.slot_zip_next
  (wpAny_call_entry F.slot_zip_next hT F.entry_zip_next ?_ (F.args_zip_next_1 _))))
 show wpAny _ _ (field (.ref z) 2 >>= _) _ _ _;refine Qb (Q7 hz rfl (x:=.bool false) rfl ?_);show wpAny _ _ (field (.ref z) 3 >>= _) _ _ _;refine Qb (Q7 hz rfl (x:=.ref TI) rfl ?_);refine Qb (wpAny_seqItems hTI rfl ?_);show wpAny _ _ (Builtin.SmallTypes.ownedTupleIsFree (.ref z) >>= _) _ _ _;refine Qb ?_;unfold Builtin.SmallTypes.ownedTupleIsFree;refine Qb (Q7 hz rfl (x:=.none) rfl (Qm ?_));simp only[if_true];refine Qb (wpAny_rule ?_);refine Qb (Q7 hz rfl (x:=.ref TO) rfl ?_);refine Qb (Xe hz (by simp) λh₁ hz1 hs₁=>?_)
 replace hz1:IsZ h₁ z TI TO .ellipsis false:=hz1
 refine Qb ?_;simp only[List.zipIdx_cons,List.zipIdx_nil,List.forIn_cons,List.forIn_nil];refine Qb (Qb (wpAny_onRaise ?_));show wpAny _ _ (Builtin.SmallTypes.nextOf (.ref i1) >>= _) _ _ _;refine Qb (wpAny_nextOf_list_item (h1.extBut hs₁.extBut D.i1z) (hl.extBut hs₁.extBut D.lz) hv λh₂ h12 hs₂=>Qm ?_);have hTO2:IsPair h₂ TO a b:=hs₂.extBut _ _ D.TOi1 (hs₁.extBut _ _ D.TOz hTO);refine Qb (wpAny_seqItems hTO2 rfl ?_);refine Qb (wpAny_updateSeq_pair hTO2 λh₃ hTO3 hs₃=>?_)
 replace hTO3:IsPair h₃ TO v b:=hTO3
 refine Qb (wpAny_letGo (Qm ?_));refine Qb (Qb (wpAny_onRaise ?_));show wpAny _ _ (Builtin.SmallTypes.nextOf (.ref i2) >>= _) _ _ _;have h23:h₃.IsStrIter i2 ty x t k:=((h2.extBut hs₁.extBut D.i2z).extBut hs₂.extBut D.i12.symm).extBut hs₃.extBut D.TOi2.symm;refine Qb (h_ hty h23 hc λh₄ h2₄ hs₄=>Qm ?_);have hTO4:IsPair h₄ TO v b:=hs₄.extBut _ _ D.TOi2 hTO3;refine Qb (wpAny_seqItems hTO4 rfl ?_);refine Qb (wpAny_updateSeq_pair hTO4 λh₅ hTO5 hs5=>?_)
 replace hTO5:IsPair h₅ TO v (.str ⟨#[c]⟩ s.toks):=hTO5
 refine Qb (wpAny_letGo (Qm (Qm ?_)));refine Qb (wpAny_seqItems hTO5 rfl ?_);refine Qb (wpAny_newTuple ?_);have hsz:h₅.objs.size=s.heap.objs.size:=by rw[hs5.1,hs₄.1,hs₃.1,hs₂.1,hs₁.1]
 have hz5:IsZ h₅ z TI TO .ellipsis false:=hs5.extBut _ _ D.TOz.symm (hs₄.extBut _ _ D.i2z.symm (hs₃.extBut _ _ D.TOz.symm (hs₂.extBut _ _ D.i1z.symm hz1)))
 have hk₅:∀c o,c≠z->c≠TO->c≠i1->c≠i2->s.heap.get? c=some o->h₅.get? c=some o:=λc o c1 c2 c3 c4 e =>
  hs5.extBut _ _ c2 (hs₄.extBut _ _ c4 (hs₃.extBut _ _ c2 (hs₂.extBut _ _ c3 (hs₁.extBut _ _ c1 e))))
 have h1₅:h₅.IsListIter i1 l (k+1):=((h12.extBut hs₃.extBut D.TOi1.symm).extBut hs₄.extBut D.i12).extBut hs5.extBut D.TOi1.symm;have h25:h₅.IsStrIter i2 ty x t (k+1):=h2₄.extBut hs5.extBut D.TOi2.symm;have hzlt:z<h₅.objs.size:=Qn hz5;show wpAny _ _ (Builtin.SmallTypes.ownedTupleHandOut (.ref z) (.ref h₅.objs.size) >>= _) _ _ _;refine Qb ?_;unfold Builtin.SmallTypes.ownedTupleHandOut;have hz6:IsZ (h₅.push { cls:=.type "tuple", data:=.seq #[v,.str ⟨#[c]⟩ s.toks] }) z TI TO .ellipsis false:=Qc _ hz5;refine Qb (Xe hz6 (by simp) λh₇ hz7 hs7=>?_)
 replace hz7:IsZ h₇ z TI TO (rawInt h₅.objs.size) false:=hz7
 refine Xe hz7 (by simp) λh₈ hz₈ hs8=>?_
 replace hz₈:IsZ h₈ z TI TO (rawInt h₅.objs.size) false:=hz₈
 have up:∀c o,c≠z->h₅.get? c=some o->h₈.get? c=some o:=λc o c1 e=>hs8.extBut _ _ c1 (hs7.extBut _ _ c1 (Qc _ e));have hT8:IsPair h₈ h₅.objs.size v (.str ⟨#[c]⟩ s.toks):=hs8.extBut _ _ (Nat.ne_of_gt hzlt) (hs7.extBut _ _ (Nat.ne_of_gt hzlt) (Qu _ rfl));have hz8:h₈.objs.size=h₅.objs.size+1:=by rw[hs8.1,hs7.1,Heap.size_push]
 rw[hsz]at hz₈ hT8 hz8;refine Qm ⟨_,rfl,Qm ?_⟩;show Q (some (.ref h₅.objs.size)) _;rw[hsz];exact hQ h₈ hz₈ ⟨_,_,up _ _ D.TOz hTO5⟩ (h1₅.at λo e=>up _ o D.i1z e) (let ⟨o,e,r⟩:=h25;⟨o,up _ o D.i2z e,r⟩) hT8 hz8 λc o c1 c2 c3 c4 e=>up c o c1 (hk₅ c o c1 c2 c3 c4 e)
theorem yx {o:Obj} {Q:Option Obj->Shared->Prop} (ho:s.heap.get? a=some o) (h:Q (some o) s):wpAny (model prog w) A (loadIfAlive a) Q E s:=by
 have h':Q (s.heap.get? a) s:=by rw[ho];exact h
 exact λ_ _ _=>h'
theorem pL (hty:ty = "str_ascii_iterator" \/ ty = "str_iterator") {TI TO T:Addr} {f1:Bool} {oT:Obj} {k c:Nat} {v:Value} (D:Apart5 z TI TO i1 i2 l)
  (hz:IsZ s.heap z TI TO (rawInt T) f1) (hT:s.heap.get? T=some oT) (hTI:IsPair s.heap TI (.ref i1) (.ref i2)) (h1:s.heap.IsListIter i1 l k) (h2:s.heap.IsStrIter i2 ty x t k) (hl:s.heap.IsList l xs) (hv:xs[k]?=some v) (hc:x.cps[k]?=some c)
  (hQ:∀h',IsZ h' z TI TO (rawInt T) true->h'.IsListIter i1 l (k+1)->h'.IsStrIter i2 ty x t (k+1)->IsPair h' s.heap.objs.size v (.str ⟨#[c]⟩ s.toks)->h'.objs.size=s.heap.objs.size+1 ->
   (∀c o,c≠z->c≠i1->c≠i2->s.heap.get? c=some o->h'.get? c=some o)->Q (some (.ref s.heap.objs.size)) { s with heap:=h',toks:=s.toks+1 }) :
  wpAny (model prog w) A (pyNext (.ref z)) Q E s:=by
 have hTy:s.TypeIs (.ref z) "zip" := ⟨_,hz,rfl⟩;unfold pyNext
 refine Qb (wpAny_attempt (wpAny_callSpecial?_slot (name:=Str.ofString "__next__") hTy F.slot_zip_next
  (wpAny_call_entry F.slot_zip_next hTy F.entry_zip_next ?_ (F.args_zip_next_1 _))))
 show wpAny _ _ (field (.ref z) 2 >>= _) _ _ _;refine Qb (Q7 hz rfl (x:=.bool false) rfl ?_);show wpAny _ _ (field (.ref z) 3 >>= _) _ _ _;refine Qb (Q7 hz rfl (x:=.ref TI) rfl ?_);refine Qb (wpAny_seqItems hTI rfl ?_);show wpAny _ _ (Builtin.SmallTypes.ownedTupleIsFree (.ref z) >>= _) _ _ _;refine Qb ?_;unfold Builtin.SmallTypes.ownedTupleIsFree;refine Qb (Q7 hz rfl (x:=rawInt T) rfl ?_);show wpAny _ _ (loadIfAlive ((T:Int).toNat) >>= _) _ _ _;rw[Int.toNat_natCast];refine Qb (yx hT ?_);simp only[Option.isNone_some,QW,if_false];refine Qb (Q7 hz rfl (x:=.bool f1) rfl ?_)
 cases f1 with
 | false =>
  simp only[show (Value.bool false != Value.bool true)=true from rfl,if_true];refine Qb (Xe hz (by simp) λh₁ hz1 hs₁=>Qm ?_)
  replace hz1:IsZ h₁ z TI TO (rawInt T) true:=hz1
  simp only[QW,if_false,List.forIn_toArray,List.forIn_cons,List.forIn_nil];refine Qb (Qb (Qb (Q3 ?_)));show wpAny _ _ (Builtin.SmallTypes.nextOf (.ref i1) >>= _) _ _ _;refine Qb (wpAny_nextOf_list_item (h1.extBut hs₁.extBut D.i1z) (hl.extBut hs₁.extBut D.lz) hv λh₂ h12 hs₂=>Qm ?_);refine Qm ?_;dsimp only;refine Qb (Qb (Q3 ?_));show wpAny _ _ (Builtin.SmallTypes.nextOf (.ref i2) >>= _) _ _ _;have h22:h₂.IsStrIter i2 ty x t k:=(h2.extBut hs₁.extBut D.i2z).extBut hs₂.extBut D.i12.symm;refine Qb (h_ hty h22 hc λh₄ h2₄ hs₄=>Qm ?_);refine Qm (Qm ?_);dsimp only;show wpAny _ _ (newTuple [v,.str ⟨#[c]⟩ s.toks] >>= _) _ _ _;refine Qb (wpAny_newTuple ?_);have hsz:h₄.objs.size=s.heap.objs.size:=by rw[hs₄.1,hs₂.1,hs₁.1]
  have hz4:IsZ h₄ z TI TO (rawInt T) true:=hs₄.extBut _ _ D.i2z.symm (hs₂.extBut _ _ D.i1z.symm hz1);have hk₄:∀c o,c≠z->c≠i1->c≠i2->s.heap.get? c=some o->h₄.get? c=some o:=λc o c1 c3 c4 e=>hs₄.extBut _ _ c4 (hs₂.extBut _ _ c3 (hs₁.extBut _ _ c1 e));refine Qm ⟨_,rfl,Qm ?_⟩;show Q (some (.ref h₄.objs.size)) _;rw[hsz];exact hQ _ (Qc _ hz4) ((h12.extBut hs₄.extBut D.i12).at λo e=>Qc _ e) (let ⟨o,e,r⟩:=h2₄;⟨o,Qc _ e,r⟩) (by rw[<-hsz];exact Qu _ rfl) (by rw[Heap.size_push,hsz]) λc o c1 c3 c4 e=>Qc _ (hk₄ c o c1 c3 c4 e)
 | true =>
 simp only[show (Value.bool true != Value.bool true)=false from rfl,QW,if_false];refine Qm ?_;have hz1:IsZ s.heap z TI TO (rawInt T) true:=hz;have hs₁:Heap.SameBut z s.heap s.heap:=.refl ..;simp only[QW,if_false,List.forIn_toArray,List.forIn_cons,List.forIn_nil];refine Qb (Qb (Qb (Q3 ?_)));show wpAny _ _ (Builtin.SmallTypes.nextOf (.ref i1) >>= _) _ _ _;refine Qb (wpAny_nextOf_list_item (h1.extBut hs₁.extBut D.i1z) (hl.extBut hs₁.extBut D.lz) hv λh₂ h12 hs₂=>Qm ?_);refine Qm ?_;dsimp only;refine Qb (Qb (Q3 ?_));show wpAny _ _ (Builtin.SmallTypes.nextOf (.ref i2) >>= _) _ _ _;have h22:h₂.IsStrIter i2 ty x t k:=(h2.extBut hs₁.extBut D.i2z).extBut hs₂.extBut D.i12.symm;refine Qb (h_ hty h22 hc λh₄ h2₄ hs₄=>Qm ?_);refine Qm (Qm ?_);dsimp only;show wpAny _ _ (newTuple [v,.str ⟨#[c]⟩ s.toks] >>= _) _ _ _;refine Qb (wpAny_newTuple ?_);have hsz:h₄.objs.size=s.heap.objs.size:=by rw[hs₄.1,hs₂.1,hs₁.1]
 have hz4:IsZ h₄ z TI TO (rawInt T) true:=hs₄.extBut _ _ D.i2z.symm (hs₂.extBut _ _ D.i1z.symm hz1);have hk₄:∀c o,c≠z->c≠i1->c≠i2->s.heap.get? c=some o->h₄.get? c=some o:=λc o c1 c3 c4 e=>hs₄.extBut _ _ c4 (hs₂.extBut _ _ c3 (hs₁.extBut _ _ c1 e));refine Qm ⟨_,rfl,Qm ?_⟩;show Q (some (.ref h₄.objs.size)) _;rw[hsz];exact hQ _ (Qc _ hz4) ((h12.extBut hs₄.extBut D.i12).at λo e=>Qc _ e) (let ⟨o,e,r⟩:=h2₄;⟨o,Qc _ e,r⟩) (by rw[<-hsz];exact Qu _ rfl) (by rw[Heap.size_push,hsz]) λc o c1 c3 c4 e=>Qc _ (hk₄ c o c1 c3 c4 e)
theorem ou {TI TO:Addr} {f0:Value} {f1:Bool} {k:Nat} {a b:Value} (hh:A.handled=none) (D:Apart5 z TI TO i1 i2 l)
  (hz:IsZ s.heap z TI TO f0 f1) (hf:(f0=.none/\f1=false/\∃a b,IsPair s.heap TO a b)\/∃(T:Addr) (oT:Obj),f0=rawInt (T:Nat)/\s.heap.get? T=some oT) (hTI:IsPair s.heap TI (.ref i1) (.ref i2)) (h1:s.heap.IsListIter i1 l k) (hl:s.heap.IsList l xs) (hv:xs[k]?=none)
  (hQ:∀h',(∀c o,c≠z->c≠i1->s.heap.get? c=some o->h'.get? c=some o)->Q none { s with heap:=h' }):wpAny (model prog w) A (pyNext (.ref z)) Q E s:=by
 have hTy:s.TypeIs (.ref z) "zip" := ⟨_,hz,rfl⟩;unfold pyNext
 refine Qb (wpAny_attempt (wpAny_callSpecial?_slot (name:=Str.ofString "__next__") hTy F.slot_zip_next
  (wpAny_call_entry F.slot_zip_next hTy F.entry_zip_next ?_ (F.args_zip_next_1 _))))
 show wpAny _ _ (field (.ref z) 2 >>= _) _ _ _;refine Qb (Q7 hz rfl (x:=.bool false) rfl ?_);show wpAny _ _ (field (.ref z) 3 >>= _) _ _ _;refine Qb (Q7 hz rfl (x:=.ref TI) rfl ?_);refine Qb (wpAny_seqItems hTI rfl ?_);show wpAny _ _ (Builtin.SmallTypes.ownedTupleIsFree (.ref z) >>= _) _ _ _;refine Qb ?_;unfold Builtin.SmallTypes.ownedTupleIsFree;refine Qb (Q7 hz rfl (x:=f0) rfl ?_)
 have fin:∀h' e,(∀c o,c≠z->c≠i1->s.heap.get? c=some o->h'.get? c=some o)->(∃o,h'.get? e=some o/\o.cls=.type "StopIteration") ->
   wpAny (model prog w) A (do if <-isInstance (.ref e) (.type "StopIteration") then pure none else throw (.ref e)) Q E { s with heap:=h' }:=λh' e hk ⟨o,ho,hc⟩ =>
  Qb (wpAny_isInstance (T := "StopIteration") (b:=true) ⟨o,ho,hc⟩ isSubtype_stop (Qm (hQ _ hk)))
 rcases hf with⟨e1,e2,a,b,hTO⟩|⟨T,oT,e1,hT⟩
 ·subst e1 e2;refine Qm ?_;simp only[if_true];refine Qb (wpAny_rule ?_);refine Qb (Q7 hz rfl (x:=.ref TO) rfl ?_);refine Qb (Xe hz (by simp) λh₁ hz1 hs₁=>?_)
  replace hz1:IsZ h₁ z TI TO .ellipsis false:=hz1
  refine Qb ?_;simp only[List.zipIdx_cons,List.zipIdx_nil,List.forIn_cons,List.forIn_nil];refine Qb (Qb (wpAny_onRaise ?_));show wpAny _ _ (Builtin.SmallTypes.nextOf (.ref i1) >>= _) _ _ _;refine Qb (wpAny_nextOf_list_end hh (h1.extBut hs₁.extBut D.i1z) (hl.extBut hs₁.extBut D.lz) hv λh₂ e hs₂ he=>?_);obtain⟨oe,hoe,hce⟩:=he;have hz2:IsZ h₂ z TI TO .ellipsis false:=hs₂ _ _ D.i1z.symm hz1;have hez:e≠z:=λx=>by subst x;rw[hz2]at hoe;cases hoe;simp at hce
  refine Xe hz2 (by simp) λh₃ _ hs₃=>?_;exact fin h₃ e (λc o c1 c3 x=>hs₃.extBut _ _ c1 (hs₂ _ _ c3 (hs₁.extBut _ _ c1 x))) ⟨oe,hs₃.extBut _ _ hez hoe,hce⟩
 subst e1;show wpAny _ _ (loadIfAlive ((T:Int).toNat) >>= _) _ _ _;rw[Int.toNat_natCast];refine Qb (yx hT ?_);simp only[Option.isNone_some,QW,if_false];refine Qb (Q7 hz rfl (x:=.bool f1) rfl ?_)
 cases f1 with
 | false =>
  simp only[show (Value.bool false != Value.bool true)=true from rfl,if_true];refine Qb (Xe hz (by simp) λh₁ hz1 hs₁=>Qm ?_)
  replace hz1:IsZ h₁ z TI TO (rawInt T) true:=hz1
  simp only[QW,if_false,List.forIn_toArray,List.forIn_cons,List.forIn_nil];refine Qb (Qb (Qb (Q3 ?_)));show wpAny _ _ (Builtin.SmallTypes.nextOf (.ref i1) >>= _) _ _ _;refine Qb (wpAny_nextOf_list_end hh (h1.extBut hs₁.extBut D.i1z) (hl.extBut hs₁.extBut D.lz) hv λh₂ e hs₂ he=>?_);exact fin h₂ e (λc o c1 c3 x=>hs₂ _ _ c3 (hs₁.extBut _ _ c1 x)) he
 | true =>
 simp only[show (Value.bool true != Value.bool true)=false from rfl,QW,if_false];refine Qm ?_;simp only[QW,if_false,List.forIn_toArray,List.forIn_cons,List.forIn_nil];refine Qb (Qb (Qb (Q3 ?_)));show wpAny _ _ (Builtin.SmallTypes.nextOf (.ref i1) >>= _) _ _ _;refine Qb (wpAny_nextOf_list_end hh h1 hl hv λh₂ e hs₂ he=>?_);exact fin h₂ e (λc o c1 c3 x=>hs₂ _ _ c3 x) he
abbrev zH1 (h:Heap) (l:Addr):Heap:=h.push { cls:=.type "list_iterator", data:=.fields #[.ref l,.int 0 0] }
abbrev zH2 (h:Heap) (l:Addr) (ty:String) (x:Str) (t:Tok):Heap:=(zH1 h l).push { cls:=.type ty,data:=.fields #[.str x t,.int 0 0] }
abbrev zH3 (h:Heap) (l:Addr) (ty:String) (x:Str) (t:Tok):Heap:=(zH2 h l ty x t).push { cls:=.type "tuple", data:=.seq #[.ref h.objs.size,.ref (zH1 h l).objs.size] }
abbrev zH4 (h:Heap) (l:Addr) (ty:String) (x:Str) (t:Tok):Heap:=(zH3 h l ty x t).push { cls:=.type "tuple", data:=.seq #[.none,.none] }
abbrev zH5 (h:Heap) (l:Addr) (ty:String) (x:Str) (t:Tok):Heap:=(zH4 h l ty x t).push { cls:=.type "zip", data:=.fields #[.none,.bool false,.bool false,.ref (zH2 h l ty x t).objs.size,.ref (zH3 h l ty x t).objs.size] }
def d7 (x:Str):String:=if x.cps.all (·<128)=true then "str_ascii_iterator" else "str_iterator"
theorem s_ {Q:E1} (hQ:Q (.ref s.heap.objs.size) { s with heap:=s.heap.push { cls:=.type (d7 x),data:=.fields #[.str x t,.int 0 0] } }):wpAny (model prog w) A (pyIter (.str x t)) Q E s:=by
 unfold d7 at hQ
 cases ha:x.cps.all (·<128) with
 | true=>rw[ha,QJ rfl]at hQ;exact wpAny_pyIter_ascii ha hQ
 | false=>rw[ha,QA Qk]at hQ;exact wpAny_pyIter_wide ha hQ
theorem v9 (x:Str):d7 x = "str_ascii_iterator" \/ d7 x = "str_iterator" := by
 unfold d7
 split
 ·exact .inl rfl
 exact .inr rfl
theorem sT (l:Addr) (xs:Array Value) (x:Str) (t:Tok) :
  Meets (Builtin.«zip.__new__» ⟨[.type "zip", .ref l,.str x t],[]⟩) (λ_ R s=>s.heap.IsList l xs/\R (.ok (.ret (.ref (zH4 s.heap l (d7 x) x t).objs.size))) { s with heap:=zH5 s.heap l (d7 x) x t }) :=
 .of_wp λprog w A R s h=>by
  obtain⟨hp,g,d,tk,os⟩:=s;obtain⟨hl1,h⟩:=h;have hsub:=sub_zip;have hL1:Heap.IsList (Shared.heap ⟨hp,g,d,tk,os⟩) l xs:=hl1
  wp_walk using wpAny_pyIter_list hL1,s_
  exact⟨_,rfl,h⟩
theorem vT {Q:E1} (hl1:s.heap.IsList l xs)
  (h:∀h',IsZ h' (s.heap.objs.size+4) (s.heap.objs.size+2) (s.heap.objs.size+3) .none false->IsPair h' (s.heap.objs.size+2) (.ref s.heap.objs.size) (.ref (s.heap.objs.size+1)) ->
   IsPair h' (s.heap.objs.size+3) .none .none->h'.IsListIter s.heap.objs.size l 0->h'.IsStrIter (s.heap.objs.size+1) (d7 x) x t 0->h'.objs.size=s.heap.objs.size+5 ->
   (∀c o,s.heap.get? c=some o->h'.get? c=some o)->Q (.ref (s.heap.objs.size+4)) { s with heap:=h' }) :
  wpAny (model prog w) A (call (.type "zip") [.ref l,.str x t]) Q E s:=by
 refine callType_new F.called_zip (by decide) (F.typeCall_zip_2 _ _) (F.newCall_zip_2 _ _) (λobj=>F.args_object_init_3 obj _ _) F.entry_zip_new (sT l xs x t) ⟨hl1,?_⟩;have z1:(zH1 s.heap l).objs.size=s.heap.objs.size+1:=Heap.size_push ..;have z2:(zH2 s.heap l (d7 x) x t).objs.size=s.heap.objs.size+2:=by rw[Heap.size_push,z1]
 have z3:(zH3 s.heap l (d7 x) x t).objs.size=s.heap.objs.size+3:=by rw[Heap.size_push,z2]
 have z4:(zH4 s.heap l (d7 x) x t).objs.size=s.heap.objs.size+4:=by rw[Heap.size_push,z3]
 have z5:(zH5 s.heap l (d7 x) x t).objs.size=s.heap.objs.size+5:=by rw[Heap.size_push,z4]
 have g5:(zH5 s.heap l (d7 x) x t).get? (zH4 s.heap l (d7 x) x t).objs.size=some _:=Qu _ rfl;have g4:(zH5 s.heap l (d7 x) x t).get? (zH3 s.heap l (d7 x) x t).objs.size=some _:=Qc _ (Qu _ rfl);have g3:(zH5 s.heap l (d7 x) x t).get? (zH2 s.heap l (d7 x) x t).objs.size=some _:=Qc _ (Qc _ (Qu _ rfl));have g2:(zH5 s.heap l (d7 x) x t).get? (zH1 s.heap l).objs.size=some _:=Qc _ (Qc _ (Qc _ (Qu _ rfl)));have g1:(zH5 s.heap l (d7 x) x t).get? s.heap.objs.size=some _:=Qc _ (Qc _ (Qc _ (Qc _ (Qu _ rfl))));show _/\_;rw[z2,z3,z4]at g5;rw[z1,z2]at g3;rw[z3]at g4;rw[z1]at g2;rw[z4]
 exact⟨⟨_,g5,rfl⟩,h _ g5 g3 g4 ⟨_,g1,rfl,rfl⟩ ⟨_,g2,rfl,rfl⟩ z5 λc o x =>
  Qc _ (Qc _ (Qc _ (Qc _ (Qc _ x))))⟩
theorem hU:typeLookup (.type "zip") "__getattr__" = pure none:=by rw[typeLookup_type,builtinLookup_eq_fast];kernel_rfl
theorem kr:typeLookup (.type "zip") "keys" = pure none:=by rw[typeLookup_type,builtinLookup_eq_fast];kernel_rfl
theorem eV:entryFor table "zip.__getattribute__" = some Builtin.«object.__getattribute__» :=
 entryFor_alias (id' := "object.__getattribute__") (by kernel_rfl) (by decide +kernel) (by decide +kernel) (by kernel_rfl)
theorem jH (a:Addr) (xs:Array Value) (sl:Array (Option Value)) (u:Tok) :
  Meets (Builtin.«object.__getattribute__» ⟨[.ref a,.str "keys" u],[]⟩) (λA R s=>s.heap.get? a=some { cls:=.type "zip", dict:=none,data:=.fields xs,slots:=sl }/\raisesAttr (.ref a) "keys" A R s) :=
 Meets.of_wp λprog w A R s hs=>by
  obtain⟨hp,g,d,tk,os⟩:=s;obtain⟨hx,hs⟩:=hs;have hT:(⟨hp,g,d,tk,os⟩:Shared).TypeIs (.ref a) "zip" := ⟨_,hx,rfl⟩;have hmiss:=kr;have hname:(["__module__", "__name__", "__qualname__", "__doc__", "__annotations__"]:List Str).contains "keys" = false:=by decide +kernel
  unfold Builtin.«object.__getattribute__»
  repeat (any_goals (first|assumption|wp_step))
  try simp only[hname,QW,if_false]
  repeat (any_goals (first|assumption|wp_step))
  exact wpAny_raiseAttrError hs.1 hs.2 (attrMsg_fits (by decide +kernel) (by decide +kernel))
theorem sV {sl:Array (Option Value)} (hx:s.heap.get? a=some { cls:=.type "zip", dict:=none,data:=.fields xs,slots:=sl }) (hA:A.handled=none)
  (h:∀h' tk,(∀c o,s.heap.get? c=some o->h'.get? c=some o)->Q none { s with heap:=h',toks:=tk }):wpAny (model prog w) A (getAttr? (.ref a) "keys") Q E s:=by
 obtain⟨hp,g,d,tk,os⟩:=s;have hT:∀tk',(⟨hp,g,d,tk',os⟩:Shared).TypeIs (.ref a) "zip" := λ_=>⟨_,hx,rfl⟩;have f1:=sub_AttributeError;have f3:=F.slot_zip_getattribute.lookup;have f4:=F.slot_zip_getattribute.bind (.ref a);have f5:=hU;unfold getAttr? getAttrBy? getAttrBy
 repeat (any_goals (first|assumption|exact hT _|((with_reducible show wpAny _ _ (call (Value.builtin "zip.__getattribute__") _ _) _ _ _);refine call_meets F.slot_zip_getattribute (hT _) eV (F.args_zip_getattribute_2 _ _) (jH a xs sl _) ⟨hx,hA,λh' tk' e hx'=>?_⟩)|wp_step))
 obtain⟨t',u',he⟩:=hx'.there;show wpAny _ _ (getattributeRaised _ _ _ _ _ _ _) _ _ _;unfold getattributeRaised
 repeat (any_goals (first|assumption|wp_step))
 all_goals exact h _ _ hx'.keeps
end
theorem jE:mroOf (.type "dict")=pure [.type "dict", .type "object"]:=by rw[mroOf_type];kernel_rfl
theorem iP:typeLookup (.type "dict") "__new__" = pure (some (.builtin "dict.__new__")):=by rw[typeLookup_type,builtinLookup_eq_fast];kernel_rfl
theorem iJ:TypeCalled "dict" "dict.__new__" "dict.__init__" :=
 ⟨by decide +kernel,by decide +kernel,⟨_,_,jE⟩,madeBy_type jE iP (by decide +kernel),by decide +kernel,by rw[isSubtype_type];kernel_rfl,F.slot_dict_init⟩
theorem e_ (a:Value):checkTypeCall "dict" ⟨[a],[]⟩=pure ():=by kernel_rfl
theorem jA (a:Value):checkBuiltinCall "dict.__new__" ⟨[.type "dict", a],[]⟩=pure ():=by kernel_rfl
theorem jP:entryFor table "dict.__new__" = some Builtin.«dict.__new__»:=entryFor_of_tree (by kernel_rfl)
theorem jt:plainId "dict.__new__" = true:=by decide +kernel
theorem tZ:isSubtype (.type "dict") (.type "dict")=pure true:=by rw[isSubtype_type];kernel_rfl
theorem fW:entryFor table "dict.update.loop" = some Builtin.«dict.update.loop»:=entryFor_of_tree (by kernel_rfl)
theorem cC:plainId "dict.update.loop" = true:=by decide +kernel
structure ApartD (z TI TO i1 i2 l d:Addr):Prop extends Apart5 z TI TO i1 i2 l where
 dz:d≠z
 dTI:d≠TI
 dTO:d≠TO
 di1:d≠i1
 di2:d≠i2
 dl:d≠l
structure ZS (h:Heap) (z TI TO i1 i2 l d:Addr) (ty:String) (x:Str) (t:Tok) (xs:Array Value) (k:Nat):Prop where
 zf:(IsZ h z TI TO .none false/\∃a b,IsPair h TO a b)\/∃(T:Addr) (f1:Bool) (oT:Obj),IsZ h z TI TO (rawInt (T:Nat)) f1/\h.get? T=some oT/\T≠z/\T≠i1/\T≠i2/\T≠d
 ti:IsPair h TI (.ref i1) (.ref i2)
 a1:h.IsListIter i1 l k
 a2:h.IsStrIter i2 ty x t k
 li:h.IsList l xs
section
variable {prog:Program} {w:World} {K:Type} [DecidableEq K] {knd:KeyKind prog w K} {A:Around} {R:Result->Shared->Prop}
variable {Q:Option Value->Shared->Prop} {xs:Array Value} {t:Tok} {x:Str} {z i1 i2 l d:Addr} {ty:String} {s:Shared} {E:E1}
theorem vZ (hty:ty = "str_ascii_iterator" \/ ty = "str_iterator") {TI TO:Addr} {k c:Nat} {v:Value} {od:Obj} (D:ApartD z TI TO i1 i2 l d)
  (Z:ZS s.heap z TI TO i1 i2 l d ty x t xs k) (hod:s.heap.get? d=some od) (hv:xs[k]?=some v) (hc:x.cps[k]?=some c)
  (hQ:∀h' T u,ZS h' z TI TO i1 i2 l d ty x t xs (k+1)->IsPair h' T v (.str ⟨#[c]⟩ u)->T≠d->(∀c o,c≠z->c≠TO->c≠i1->c≠i2->s.heap.get? c=some o->h'.get? c=some o)->Q (some (.ref T)) { s with heap:=h',toks:=s.toks+1 }) :
  wpAny (model prog w) A (pyNext (.ref z)) Q E s:=by
 have lt:∀{c o},s.heap.get? c=some o->s.heap.objs.size≠c:=λe=>Nat.ne_of_gt (Qn e);have l1:s.heap.objs.size≠i1:=by obtain⟨_,e,_⟩:=Z.a1;exact lt e
 have l2:s.heap.objs.size≠i2:=by obtain⟨_,e,_⟩:=Z.a2;exact lt e
 rcases Z.zf with⟨hz,a,b,hTO⟩|⟨T,f1,oT,hz,hT,n1,n2,n3,n4⟩
 ·refine pM hty D.toApart5 hz Z.ti hTO Z.a1 Z.a2 Z.li hv hc λh' b1 b2 b3 b4 b5 b6 b7=>?_;exact hQ h' _ _ ⟨.inr ⟨_,_,_,b1,b5,lt hz,l1,l2,lt hod⟩,b7 _ _ D.TIz D.TITO D.TIi1 D.TIi2 Z.ti,b3,b4,Z.li.at λo e=>b7 _ o D.lz D.lTO D.li1 D.li2 e⟩ b5 (lt hod) b7
 refine pL hty D.toApart5 hz hT Z.ti Z.a1 Z.a2 Z.li hv hc λh' b1 b3 b4 b5 b6 b7=>?_;exact hQ h' _ _ ⟨.inr ⟨T,_,oT,b1,b7 _ _ n1 n2 n3 hT,n1,n2,n3,n4⟩,b7 _ _ D.TIz D.TIi1 D.TIi2 Z.ti,b3,b4,Z.li.at λo e=>b7 _ o D.lz D.li1 D.li2 e⟩ b5 (lt hod) λc o c1 _ c3 c4 e=>b7 c o c1 c3 c4 e
theorem yz {TI TO:Addr} {k:Nat} (hh:A.handled=none) (D:ApartD z TI TO i1 i2 l d)
  (Z:ZS s.heap z TI TO i1 i2 l d ty x t xs k) (hv:xs[k]?=none) (hQ:∀h',(∀c o,c≠z->c≠i1->s.heap.get? c=some o->h'.get? c=some o)->Q none { s with heap:=h' }):wpAny (model prog w) A (pyNext (.ref z)) Q E s:=by
 rcases Z.zf with⟨hz,a,b,hTO⟩|⟨T,f1,oT,hz,hT,n1,n2,n3,n4⟩
 ·exact ou (a:=a) (b:=b) hh D.toApart5 hz (.inl ⟨rfl,rfl,a,b,hTO⟩) Z.ti Z.a1 Z.li hv hQ
 exact ou (a:=.none) (b:=.none) hh D.toApart5 hz (.inr ⟨T,oT,rfl,hT⟩) Z.ti Z.a1 Z.li hv hQ
theorem ZS.dict {h h':Heap} {TI TO:Addr} {k:Nat} (D:ApartD z TI TO i1 i2 l d) (Z:ZS h z TI TO i1 i2 l d ty x t xs k) (hs:Heap.SameBut d h h'):ZS h' z TI TO i1 i2 l d ty x t xs k:=by
 refine⟨?_,hs.extBut _ _ D.dTI.symm Z.ti,Z.a1.extBut hs.extBut D.di1.symm,Z.a2.extBut hs.extBut D.di2.symm,Z.li.extBut hs.extBut D.dl.symm⟩;rcases Z.zf with⟨hz,a,b,hTO⟩|⟨T,f1,oT,hz,hT,n1,n2,n3,n4⟩
 ·exact .inl ⟨hs.extBut _ _ D.dz.symm hz,a,b,hs.extBut _ _ D.dTO.symm hTO⟩
 exact .inr ⟨T,f1,oT,hs.extBut _ _ D.dz.symm hz,hs.extBut _ _ n4 hT,n1,n2,n3,n4⟩
def dA (kvs:List (K × Value)) (ps:List (K × Value)):List (K × Value):=ps.foldl (λacc p=>stored acc p.1 p.2) kvs
theorem je (kvs:List (K × Value)) (k:K) (v:Value):(stored kvs k v).length<=kvs.length+1:=by
 unfold stored
 split
 ·rw[Qa];exact Bj
 rw[Qg];simp
theorem tF (hty:ty = "str_ascii_iterator" \/ ty = "str_iterator") {TI TO:Addr} (D:ApartD z TI TO i1 i2 l d) (hh:A.handled=none) (ks:Nat->K) (hk:∀k v,xs[k]?=some v->knd.is (ks k) v=true)
  (hlen:xs.size<=x.cps.size) (hsz:xs.size<=sizeLine):∀(m k:Nat) (i:Int) (s:Shared) (kvs:List (K × Value)),xs.size-k=m->k<=xs.size->ZS s.heap z TI TO i1 i2 l d ty x t xs k->s.heap.DictOf knd d kvs->kvs.length<=k ->
  (∀h' tk (ps:List (K × Value)),ps.length=xs.size-k->(∀(j:Nat) p,ps[j]?=some p->p.1=ks (k+j)/\∃c u,x.cps[k+j]?=some c/\p.2=.str ⟨#[c]⟩ u)->h'.DictOf knd d (dA kvs ps) ->
   (∀c o,c≠z->c≠TO->c≠i1->c≠i2->c≠d->s.heap.get? c=some o->h'.get? c=some o)->R (.ok (.ret .none)) { s with heap:=h',toks:=tk }) ->
  codeAny (model prog w) A (.builtin "dict.update.loop" ⟨[.ref d,.ref z,rawInt i,.none],[]⟩) R s:=by
 intro m
 induction m with
 | zero =>
  intro k i s kvs hm hkk Z hd hkl hR;have hin:k=xs.size:=by exact xX hm hkk
  refine codeAny_builtin fW ?_;rw[Around.under_plainId cC _];show wpAny _ A.in1 (pyNext (.ref z) >>= _) _ _ s;refine Qb (yz (show A.in1.handled=none from hh) D Z (by rw[hin];simp) λh' hkeep=>?_);show wpAny _ _ (Builtin.Dict.addKeywords d [] >>= _) _ _ _;refine Qb (Qm (Qm ?_));have hdn:d≠z:=D.dz
  have hd':h'.DictOf knd d kvs:=by
   obtain⟨o,es,ep,e1,r⟩:=hd;exact⟨o,es,ep,hkeep d o D.dz D.di1 e1,r⟩
  exact hR h' s.toks [] (by simp;exact Bi hm) (λj p e=>by simp at e) hd' λc o c1 _ c3 _ _ e=>hkeep c o c1 c3 e
 | succ m ih =>
 intro k i s kvs hm hkk Z hd hkl hR;have hlt:k<xs.size:=by exact xW hm hkk
 have hv:xs[k]?=some xs[k]:=by simp[hlt]
 have hltc:k<x.cps.size:=by exact x_ hlen hlt
 have hc:x.cps[k]?=some x.cps[k]:=by simp[hltc]
 obtain⟨od,es0,ep0,hod,_⟩:=id hd;refine codeAny_builtin fW ?_;rw[Around.under_plainId cC _];show wpAny _ A.in1 (pyNext (.ref z) >>= _) _ _ s;refine Qb (vZ hty D Z hod hv hc λh1 T u Z1 hT hTd hkeep=>?_)
 have hd1:h1.DictOf knd d kvs:=by
  obtain⟨o,es,ep,e1,r⟩:=hd;exact⟨o,es,ep,hkeep d o D.dz D.dTO D.di1 D.di2 e1,r⟩
 refine Qb (Q3 ?_);have hTy:(Shared.TypeIs { s with heap:=h1,toks:=s.toks+1 } (.ref T) "tuple"):=⟨_,hT,rfl⟩;refine Qb (wpAny_tryCatch ?_);unfold Builtin.Dict.pairItems;refine Qb (wpAny_typeOf hTy ?_);rw[QJ (by decide)];refine Qb (wpAny_seqItems hT rfl (Qm ?_));show wpAny _ _ (holding [xs[k],_] (dictSet d xs[k] _)) _ _ _;refine Q3 (wpAny_dictSet_pairs (hk k _ hv) hd1 (λh2 hd2 hs2=>?_) (by exact xV hsz hkl hlt));refine Qm ⟨plainId_quiet cC _,ih (k+1) (i+1) _ _ (by exact xU hm hlt) (by exact xT hlt) (ZS.dict D Z1 hs2) hd2 (QZ (je _ _ _) (by exact sE hkl)) λh3 tk ps hl hp hd3 hk3=>?_⟩;refine hR h3 tk ((ks k,.str ⟨#[x.cps[k]]⟩ u)::ps) (by rw[QU,hl];exact Bg hm hlt) (λj p e=>?_) hd3 λc o c1 c2 c3 c4 c5 e=>hk3 c o c1 c2 c3 c4 c5 (hs2.extBut c o c5 (hkeep c o c1 c2 c3 c4 e))
 cases j with
 | zero =>
  have e':(ks k,Value.str ⟨#[x.cps[k]]⟩ u)=p:=by simpa using e
  subst e';exact⟨rfl,x.cps[k],u,hc,rfl⟩
 | succ j =>
 have q:=hp j p (by simpa using e);rw[show k+(j+1)=k+1+j by exact Be];exact q
theorem gf (a:Value) {Q:E1} (h:Q (.ref s.heap.objs.size) { s with heap:=s.heap.push { cls:=.type "dict", data:=.dict #[] } }) :
  codeAny (model prog w) A (.call (.builtin "dict.__new__") ⟨[.type "dict", a],[]⟩) (wants Q E) s:=by
 refine codeAny_call_builtin jt jP (wpAny_of_eq (jA a) ?_);have hsub:=tZ;have hmro:=jE;obtain⟨hp,g,d,tk,os⟩:=s;unfold Builtin.«dict.__new__»
 wp_walk
 exact h
theorem tJ (hty:ty = "str_ascii_iterator" \/ ty = "str_iterator") {TI TO:Addr} {Q:E1} (D:Apart5 z TI TO i1 i2 l) (hh:A.handled=none) (ks:Nat->K)
  (hk:∀k v,xs[k]?=some v->knd.is (ks k) v=true) (hlen:xs.size<=x.cps.size) (hsz:xs.size<=sizeLine) (hz:IsZ s.heap z TI TO .none false) (hTI:IsPair s.heap TI (.ref i1) (.ref i2)) (hTO:∃a b,IsPair s.heap TO a b)
  (h1:s.heap.IsListIter i1 l 0) (h2:s.heap.IsStrIter i2 ty x t 0) (hl:s.heap.IsList l xs)
  (h:∀h' tk (ps:List (K × Value)),ps.length=xs.size->(∀(j:Nat) p,ps[j]?=some p->p.1=ks j/\∃c u,x.cps[j]?=some c/\p.2=.str ⟨#[c]⟩ u)->h'.DictOf knd s.heap.objs.size (dA [] ps) ->
   (∀c o,c≠z->c≠TO->c≠i1->c≠i2->s.heap.get? c=some o->h'.get? c=some o)->Q (.ref s.heap.objs.size) { s with heap:=h',toks:=tk }) :
  wpAny (model prog w) A (call (.type "dict") [.ref z]) Q E s:=by
 refine callType_codes (Q₁:=λobj s1=>obj=.ref s.heap.objs.size/\s1={ s with heap:=s.heap.push { cls:=.type "dict", data:=.dict #[] } }) iJ (e_ _) F.entry_dict_init (gf _ ⟨rfl,rfl⟩) ?_;rintro obj s1 ⟨rfl,rfl⟩;have up:∀c o,s.heap.get? c=some o->(s.heap.push { cls:=.type "dict", data:=.dict #[] }).get? c=some o:=λc o e=>Qc _ e;have hnew:(s.heap.push { cls:=.type "dict", data:=.dict #[] }).DictOf knd s.heap.objs.size []:=Heap.DictOf.new s.heap;have lt:∀{c o},s.heap.get? c=some o->s.heap.objs.size≠c:=λe=>Nat.ne_of_gt (Qn e);have l1:s.heap.objs.size≠i1:=by obtain⟨_,e,_⟩:=h1;exact lt e
 have l2:s.heap.objs.size≠i2:=by obtain⟨_,e,_⟩:=h2;exact lt e
 have ll:s.heap.objs.size≠l:=by obtain⟨_,e,_⟩:=hl;exact lt e
 obtain⟨a0,b0,hTO'⟩:=hTO;have DD:ApartD z TI TO i1 i2 l s.heap.objs.size:=⟨D,lt hz,lt hTI,lt hTO',l1,l2,ll⟩;refine⟨hnew.typeIs,F.args_dict_init_2 _ _,?_⟩;unfold Builtin.«dict.__init__»;refine Qb ?_;unfold Builtin.Dict.selfAndRest;refine Qb (wpAny_notOrdered_dict hnew.typeIs ?_);show wpAny _ _ (pure (s.heap.objs.size,[Value.ref z])) _ _ _;refine Qm ?_;show wpAny _ _ (Builtin.Dict.updateFrom "dict.__init__" s.heap.objs.size (.ref z) [] .none) _ _ _;unfold Builtin.Dict.updateFrom;have hzT:Shared.TypeIs { s with heap:=s.heap.push { cls:=.type "dict", data:=.dict #[] } } (.ref z) "zip" := ⟨_,up _ _ hz,rfl⟩;refine Qb (wpAny_typeOf hzT ?_);rw[QJ (by decide)];refine Qb (sV (up _ _ hz) (show A.in1.in1.handled=none from hh) λh3 tk k3=>?_);simp only[Option.isNone_none,if_true];refine Qb (wpAny_rule ?_);have hz3:IsZ h3 z TI TO .none false:=k3 _ _ (up _ _ hz);refine Qb (wpAny_pyIter_zip (z:=z) (TI:=TI) (TO:=TO) (f0:=.none) hz3 ?_);refine Qm ⟨plainId_quiet cC _,?_⟩;have Z3:ZS h3 z TI TO i1 i2 l s.heap.objs.size ty x t xs 0:=⟨.inl ⟨hz3,a0,b0,k3 _ _ (up _ _ hTO')⟩,k3 _ _ (up _ _ hTI),h1.at λo e=>k3 _ o (up _ o e),(let ⟨o,e,r⟩:=h2;⟨o,k3 _ o (up _ o e),r⟩),hl.at λo e=>k3 _ o (up _ o e)⟩
 have hd3:h3.DictOf knd s.heap.objs.size []:=by
  obtain⟨o,es,ep,e1,r⟩:=hnew;exact⟨o,es,ep,k3 _ _ e1,r⟩
 refine tF hty DD (show A.in1.handled=none from hh) ks hk hlen hsz xs.size 0 0 _ [] (by simp) (QQ _) Z3 hd3 (Qf _) λh4 tk4 ps hp1 hp2 hd4 hk4=>?_;refine⟨rfl,h h4 tk4 ps (by simpa using hp1) (λj p e=>by simpa using hp2 j p e) hd4 λc o c1 c2 c3 c4 e=>hk4 c o c1 c2 c3 c4 (lt e).symm (k3 _ _ (up _ _ e))⟩
end
end LZ
namespace L2
open PySem PySem.Spec PyProof.Rows
def bP (kvs:List (Key × V)):List (Key × V)->List (Key × V)
 | []=>kvs
 | p::r=>bP (cf kvs p.1 p.2) r
def cJ (ns:List Str) (z:Str):List (Key × V):=(ns.zipIdx).map λp=>(Sum.inr p.1,fg z p.2)
theorem pZ:∀{qs:List (Key × V)} {ps:List (Key × Value)} {kvs:List (Key × V)} {vs:List (Key × Value)},KV qs ps->KV kvs vs->KV (bP kvs qs) (LZ.dA vs ps)
 | [],_,_,_,h,r=>by cases h;exact r
 | q::qs,p::ps,kvs,vs,h,r=>by
  cases h with
  | cons h1 h2 =>
  show KV (bP (cf kvs q.1 q.2) qs) (LZ.dA (stored vs p.1 p.2) ps);rw[<-h1.1];exact pZ h2 (r.put q.1 h1.2)
theorem paired_get {α β:Type} {F:α->β->Prop}:∀{xs:List α} {ys:List β},xs.length=ys.length->(∀(j:Nat) x y,xs[j]?=some x->ys[j]?=some y->F x y)->Paired F xs ys
 | [],[],_,_=>.nil
 | x::xs,y::ys,hl,h=>.cons (h 0 x y rfl rfl) (paired_get (by simpa using hl) λj a b e1 e2=>h (j+1) a b (by simpa using e1) (by simpa using e2))
theorem dX:∀(qs kvs:List (Key × V)),(bP kvs qs).length<=kvs.length+qs.length
 | [],kvs=>Qf _
 | q::qs,kvs=>by
  have h1:=dX qs (cf kvs q.1 q.2);have h2:=dQ kvs q.1 q.2;show (bP (cf kvs q.1 q.2) qs).length<=_;rw[QU];exact Bw h1 h2
section
variable {X:Cx} {a b:Expr} {ta:TA} {p1 p2 pos1 pos2:Pos}
def Ar (K:PySem.W.Frag) (ta:TA):TE:=λU H Q=>ta U H λvs H1=>∃l ns z,vs=[.ref l,.str z]/\SqL K H1 l (ns.map V.str)/\ns.length<=z.cps.size/\ns.length<1000/\∀d,H1 d=none->Q (.ref d) (upd H1 d (.dK (bP [] (cJ ns z))))
theorem qY (hc:X.calm=true) (hg:Gl X "dict") (hm:X.mg "dict" = none) (hg2:Gl X "zip") (hm2:X.mg "zip" = none) (ha:PA X [a,b] ta)
  (hs:starEach [a,b] X.env=[(false,eval a X.env),(false,eval b X.env)]:=by rfl) (hs2:starEach [b] X.env=[(false,eval b X.env)]:=by rfl)
  (hs0:starEach [.Call (.Name "zip" p2) [a,b] [] pos2] X.env=[(false,eval (.Call (.Name "zip" p2) [a,b] [] pos2) X.env)]:=by rfl) :
  PE X (.Call (.Name "dict" p1) [.Call (.Name "zip" p2) [a,b] [] pos2] [] pos1) (Ar X.K ta):=by
 intro pins s U H Q I h;refine Call_ (dY I hg hm PyProof.Rows.boot_dict (Xg ?_ hs0 rfl));rw[hs0];show wpAny _ _ (spliced [(false,eval (.Call (.Name "zip" p2) [a,b] [] pos2) X.env)]) _ _ s;refine Calls.spliced_cons ?_;refine Call_ (dY I hg2 hm2 PyProof.Rows.boot_zip (Xg (thn (ha pos2 pins s U H _ I h) λus s1 ⟨vs,H1,I1,r1,q1⟩=>?_) (by rw[hs,hs2]) (by rw[hs2];rfl)));obtain⟨l,ns,z,e,hl,hlen,hsm,q⟩:=q1;subst e;obtain⟨u1,u2,e,ru1,ru2⟩:=nv r1;subst e;cases ru1;obtain⟨t,e⟩:=ru2;subst e;obtain⟨its,rv,pl,_⟩:=I1.list hl;have hits:its.length=ns.length:=by have:=rv.length;rw[Qa]at this;exact this.symm
 refine LZ.vT pl.isList λh2 b1 b2 b3 b4 b5 b6 b7=>?_;refine Calls.spliced_nil ?_;have I2:Inv X pins U H1 { s1 with heap:=h2 }:=I1.kept (t':=s1.toks) b7;have ltl:@LT.lt Nat _ l s1.heap.objs.size:=by obtain⟨o,ho,_⟩:=pl.isList;exact Qn ho
 have big:1000<sizeLine:=by decide
 refine LZ.tJ (knd:=bp X.prog X.w) (LZ.v9 z) (i1:=s1.heap.objs.size) (i2:=s1.heap.objs.size+1) (l:=l) (xs:=its.toArray) ⟨(by show @Ne Nat _ _;exact Bv),(by show @Ne Nat _ _;exact Bu),(by show @Ne Nat _ _;exact Bt),(by show @Ne Nat _ _;exact Bs),(by show @Ne Nat _ _;exact Br),(by show @Ne Nat _ _;exact Bq),(by show @Ne Nat _ _;exact Bp),(by show @Ne Nat _ _;exact Bo),(by show @Ne Nat _ _;exact Bn),(by show @Ne Nat _ _;exact Bm),(by show @Ne Nat _ _;omega),(by show @Ne Nat _ _;omega),(by show @Ne Nat _ _;omega),(by show @Ne Nat _ _;omega)⟩ (I.ok.hd hc) (λk=>Sum.inr (ns.getD k Str.empty)) (λk v hv=>?_)
  (by rw[Qh,hits];exact hlen) (by rw[Qh,hits];omega) b1 b2 ⟨_,_,b3⟩ b4 b5 (pl.isList.at λo e=>b7 _ o e) λh3 tk ps hp1 hp2 hd3 hk3=>?_
 ·have hv':its[k]?=some v:=by simpa using hv
  have hk:k<ns.length:=by have:=(Qe.mp hv').1;exact zm hits this
  have e1:(ns.map V.str)[k]?=some (.str (ns.getD k Str.empty)):=by
   rw[Qi,Qd hk,QR,Qd hk];rfl
  obtain⟨u,hu,ru⟩:=rv.get e1;rw[hv']at hu;cases hu;obtain⟨t',e⟩:=ru;subst e;exact fv _ _ _ _
 have hlenz:(cJ ns z).length=ns.length:=by unfold cJ;simp
 have kv:KV (cJ ns z) ps:=by
  refine paired_get (by rw[hlenz,hp1,Qh,hits]) λj x y e1 e2=>?_;obtain⟨f1,c,u,f2,f3⟩:=hp2 j y e2;unfold cJ at e1;rw[Qi,List.getElem?_zipIdx]at e1
  cases e:ns[j]? with
  | none=>rw[e]at e1;simp at e1
  | some n =>
  rw[e]at e1;simp at e1;subst e1;refine⟨?_,?_⟩
  ·rw[f1];show (Sum.inr n:Key)=Sum.inr (ns.getD j Str.empty);rw[QR,e];rfl
  rw[f3];refine⟨u,?_⟩;show Value.str ⟨#[c]⟩ u=Value.str ⟨#[z.cps.getD j 0]⟩ u;rw[Array.getD_eq_getD_getElem?,f2];rfl
 have hnew:H1 h2.objs.size=none:=I2.hok.fresh (Qf _)
 have kept:∀c o,s1.heap.get? c=some o->h3.get? c=some o:=λc o e=>by
  have:@LT.lt Nat _ c s1.heap.objs.size:=Qn e;exact hk3 c o (by show @Ne Nat _ _;omega) (by show @Ne Nat _ _;omega) (by show @Ne Nat _ _;omega) (by show @Ne Nat _ _;omega) (b7 c o e)
 have hle:s1.heap.objs.size<=h2.objs.size:=by exact Bl b6
 have I3:Inv X pins U (upd H1 h2.objs.size (.dK (bP [] (cJ ns z)))) { s1 with heap:=h3,toks:=tk }:=I1.laid kept hle ⟨by
   have:=dX (cJ ns z) [];rw[hlenz]at this;simp only[List.length_nil]at this
   omega,beq_eq_false_iff_ne.mpr (by
   have:@LT.lt Nat _ sysModules s1.heap.objs.size:=I1.big;intro e;have e':@Eq Nat h2.objs.size sysModules:=e
   omega),_,pZ kv .nil,hd3⟩
 exact⟨.ref h2.objs.size,_,I3,rfl,q _ hnew⟩
end
end L2
namespace LZ
open PySem
section
variable {prog:Program} {w:World} {A:Around} {E:E1} {s:Shared}
theorem gT:typeLookup (.type "list") "__getattr__" = pure none:=by rw[typeLookup_type,builtinLookup_eq_fast];kernel_rfl
theorem jJ:typeLookup (.type "list") "keys" = pure none:=by rw[typeLookup_type,builtinLookup_eq_fast];kernel_rfl
theorem eF:entryFor table "list.__getattribute__" = some Builtin.«object.__getattribute__» :=
 entryFor_alias (id' := "object.__getattribute__") (by kernel_rfl) (by decide +kernel) (by decide +kernel) (by kernel_rfl)
theorem iO (a:Addr) (xs:Array Value) (m:Nat) (sl:Array (Option Value)) (u:Tok) :
  Meets (Builtin.«object.__getattribute__» ⟨[.ref a,.str "keys" u],[]⟩) (λA R s=>s.heap.get? a=some { cls:=.type "list", dict:=none,data:=.seq xs m,slots:=sl }/\raisesAttr (.ref a) "keys" A R s) :=
 Meets.of_wp λprog w A R s hs=>by
  obtain⟨hp,g,d,tk,os⟩:=s;obtain⟨hx,hs⟩:=hs;have hT:(⟨hp,g,d,tk,os⟩:Shared).TypeIs (.ref a) "list" := ⟨_,hx,rfl⟩;have hmiss:=jJ;have hname:(["__module__", "__name__", "__qualname__", "__doc__", "__annotations__"]:List Str).contains "keys" = false:=by decide +kernel
  unfold Builtin.«object.__getattribute__»
  repeat (any_goals (first|assumption|wp_step))
  try simp only[hname,QW,if_false]
  repeat (any_goals (first|assumption|wp_step))
  exact wpAny_raiseAttrError hs.1 hs.2 (attrMsg_fits (by decide +kernel) (by decide +kernel))
theorem p6 {a:Addr} {xs:Array Value} {m:Nat} {sl:Array (Option Value)} {Q:Option Value->Shared->Prop} (hx:s.heap.get? a=some { cls:=.type "list", dict:=none,data:=.seq xs m,slots:=sl }) (hA:A.handled=none)
  (h:∀h' tk,(∀c o,s.heap.get? c=some o->h'.get? c=some o)->Q none { s with heap:=h',toks:=tk }):wpAny (model prog w) A (getAttr? (.ref a) "keys") Q E s:=by
 obtain⟨hp,g,d,tk,os⟩:=s;have hT:∀tk',(⟨hp,g,d,tk',os⟩:Shared).TypeIs (.ref a) "list" := λ_=>⟨_,hx,rfl⟩;have f1:=sub_AttributeError;have f3:=F.slot_list_getattribute.lookup;have f4:=F.slot_list_getattribute.bind (.ref a);have f5:=gT;unfold getAttr? getAttrBy? getAttrBy
 repeat (any_goals (first|assumption|exact hT _|((with_reducible show wpAny _ _ (call (Value.builtin "list.__getattribute__") _ _) _ _ _);refine call_meets F.slot_list_getattribute (hT _) eF (F.args_list_getattribute_2 _ _) (iO a xs m sl _) ⟨hx,hA,λh' tk' e hx'=>?_⟩)|wp_step))
 obtain⟨t',u',he⟩:=hx'.there;show wpAny _ _ (getattributeRaised _ _ _ _ _ _ _) _ _ _;unfold getattributeRaised
 repeat (any_goals (first|assumption|wp_step))
 all_goals exact h _ _ hx'.keeps
end
section
variable {prog:Program} {w:World} {K:Type} [DecidableEq K] {knd:KeyKind prog w K} {A:Around} {R:Result->Shared->Prop}
def i9 (h:Heap) (xs:Array Value) (ka va:Nat->Value) (it d:Addr):Prop:=∀k,k<xs.size->∃(T:Addr) (o:Obj) (n:Nat),xs[k]?=some (.ref T)/\h.get? T=some o/\o.cls=.type "tuple" /\ o.data=.seq #[ka k,va k] n/\T≠it/\T≠d
theorem i9.keep {h h':Heap} {xs:Array Value} {ka va:Nat->Value} {it d:Addr} (p:i9 h xs ka va it d) (hk:∀c o,c≠it->c≠d->h.get? c=some o->h'.get? c=some o):i9 h' xs ka va it d:=λk hlt =>
 let ⟨T,o,n,e1,e2,e3,e4,e5,e6⟩:=p k hlt;⟨T,o,n,e1,hk T o e5 e6 e2,e3,e4,e5,e6⟩
theorem ql {it l d:Addr} {xs:Array Value} {ka va:Nat->Value} (nid:d≠it) (nil:l≠it) (ndl:l≠d) (hh:A.handled=none) (ks:Nat->K) (hk:∀k,k<xs.size->knd.is (ks k) (ka k)=true) (hsz:xs.size<=sizeLine) :
  ∀(m k:Nat) (i:Int) (s:Shared) (kvs:List (K × Value)),xs.size-k=m->k<=xs.size->s.heap.IsListIter it l k->s.heap.IsList l xs->i9 s.heap xs ka va it d->s.heap.DictOf knd d kvs->kvs.length<=k ->
  (∀h' tk,h'.DictOf knd d (dA kvs ((List.range (xs.size-k)).map λj=>(ks (k+j),va (k+j))))->(∀c o,c≠it->c≠d->s.heap.get? c=some o->h'.get? c=some o)->R (.ok (.ret .none)) { s with heap:=h',toks:=tk }) ->
  codeAny (model prog w) A (.builtin "dict.update.loop" ⟨[.ref d,.ref it,rawInt i,.none],[]⟩) R s:=by
 intro m
 induction m with
 | zero =>
  intro k i s kvs hm hkk hit hl hp hd hkl hR;have hin:k=xs.size:=by exact xX hm hkk
  refine codeAny_builtin fW ?_;rw[Around.under_plainId cC _];show wpAny _ A.in1 (pyNext (.ref it) >>= _) _ _ s;refine Qb (wpAny_pyNext_list_end (show A.in1.handled=none from hh) hit hl (by rw[hin];simp) λh' hkeep=>?_);show wpAny _ _ (Builtin.Dict.addKeywords d [] >>= _) _ _ _;refine Qb (Qm (Qm ?_))
  have hd':h'.DictOf knd d kvs:=by
   obtain⟨o,es,ep,e1,r⟩:=hd;exact⟨o,es,ep,hkeep d o nid e1,r⟩
  refine hR h' s.toks ?_ λc o c1 _ e=>hkeep c o c1 e;rw[hm];exact hd'
 | succ m ih =>
 intro k i s kvs hm hkk hit hl hp hd hkl hR;have hlt:k<xs.size:=by exact xW hm hkk
 obtain⟨T,oT,n,hx,hT,hTc,hTd,nTi,nTd⟩:=hp k hlt;refine codeAny_builtin fW ?_;rw[Around.under_plainId cC _];show wpAny _ A.in1 (pyNext (.ref it) >>= _) _ _ s;refine Qb (wpAny_pyNext_list_item hit hl hx λh1 hit1 hs1=>?_);have k1:∀c o,c≠it->s.heap.get? c=some o->h1.get? c=some o:=λc o n1 e=>hs1.extBut c o n1 e
 have hd1:h1.DictOf knd d kvs:=by
  obtain⟨o,es,ep,e1,r⟩:=hd;exact⟨o,es,ep,k1 d o nid e1,r⟩
 have hT1:=k1 T oT nTi hT;refine Qb (Q3 ?_);have hTy:(Shared.TypeIs { s with heap:=h1 } (.ref T) "tuple"):=⟨_,hT1,hTc⟩;refine Qb (wpAny_tryCatch ?_);unfold Builtin.Dict.pairItems;refine Qb (wpAny_typeOf hTy ?_);rw[QJ (by decide)];refine Qb (wpAny_seqItems hT1 hTd (Qm ?_));show wpAny _ _ (holding [ka k,va k] (dictSet d (ka k) (va k))) _ _ _;refine Q3 (wpAny_dictSet_pairs (hk k hlt) hd1 (λh2 hd2 hs2=>?_) (by exact xV hsz hkl hlt));have k2:∀c o,c≠it->c≠d->s.heap.get? c=some o->h2.get? c=some o:=λc o n1 n2 e=>hs2.extBut c o n2 (k1 c o n1 e);refine Qm ⟨plainId_quiet cC _,ih (k+1) (i+1) _ _ (by exact xU hm hlt) (by exact xT hlt) (hit1.extBut hs2.extBut (Xh nid)) (hl.at λo e=>k2 l o nil ndl e) (hp.keep k2) hd2 (QZ (je _ _ _) (by exact sE hkl)) λh3 tk hd3 hk3=>?_⟩;refine hR h3 tk ?_ λc o c1 c2 e=>hk3 c o c1 c2 (k2 c o c1 c2 e);rw[show xs.size-k=(xs.size-(k+1))+1 from by exact Bc hm hlt,List.range_succ_eq_map,QH,QX];have e:(List.range (xs.size-(k+1))).map (λj=>(ks (k+1+j),va (k+1+j)))=(List.range (xs.size-(k+1))).map ((λj=>(ks (k+j),va (k+j)))∘Nat.succ):=List.map_congr_left λj _=>by simp[Function.comp,Nat.add_assoc,Nat.add_comm 1]
 rw[e]at hd3;exact hd3
variable {Q E:E1}
theorem qw {s:Shared} {l:Addr} {xs:Array Value} {ka va:Nat->Value} (hh:A.handled=none) (ks:Nat->K) (hk:∀k,k<xs.size->knd.is (ks k) (ka k)=true) (hsz:xs.size<=sizeLine) (hl:PlainL s.heap l xs)
  (hp:∀k,k<xs.size->∃(T:Addr) (o:Obj) (n:Nat),xs[k]?=some (.ref T)/\s.heap.get? T=some o/\o.cls=.type "tuple" /\ o.data=.seq #[ka k,va k] n)
  (h:∀h' tk,h'.DictOf knd s.heap.objs.size (dA [] ((List.range xs.size).map λj=>(ks j,va j)))->(∀c o,s.heap.get? c=some o->h'.get? c=some o)->Q (.ref s.heap.objs.size) { s with heap:=h',toks:=tk }) :
  wpAny (model prog w) A (call (.type "dict") [.ref l]) Q E s:=by
 refine callType_codes (Q₁:=λobj s1=>obj=.ref s.heap.objs.size/\s1={ s with heap:=s.heap.push { cls:=.type "dict", data:=.dict #[] } }) iJ (e_ _) F.entry_dict_init (gf _ ⟨rfl,rfl⟩) ?_;rintro obj s1 ⟨rfl,rfl⟩;have up:∀c o,s.heap.get? c=some o->(s.heap.push { cls:=.type "dict", data:=.dict #[] }).get? c=some o:=λc o e=>Qc _ e;have hnew:(s.heap.push { cls:=.type "dict", data:=.dict #[] }).DictOf knd s.heap.objs.size []:=Heap.DictOf.new s.heap;have lt:∀{c o},s.heap.get? c=some o->s.heap.objs.size≠c:=λe=>Nat.ne_of_gt (Qn e);obtain⟨⟨c0,d0,dt0,sl0⟩,n0,ho,hoc,hod,hos⟩:=hl;have hoc:c0=.type "list" := hoc;have hod:d0=none:=hod;have hos:dt0=.seq xs n0:=hos;subst hoc hod hos;refine⟨hnew.typeIs,F.args_dict_init_2 _ _,?_⟩;unfold Builtin.«dict.__init__»;refine Qb ?_;unfold Builtin.Dict.selfAndRest;refine Qb (wpAny_notOrdered_dict hnew.typeIs ?_);show wpAny _ _ (pure (s.heap.objs.size,[Value.ref l])) _ _ _;refine Qm ?_;show wpAny _ _ (Builtin.Dict.updateFrom "dict.__init__" s.heap.objs.size (.ref l) [] .none) _ _ _;unfold Builtin.Dict.updateFrom;have hzT:Shared.TypeIs { s with heap:=s.heap.push { cls:=.type "dict", data:=.dict #[] } } (.ref l) "list" := ⟨_,up _ _ ho,rfl⟩;refine Qb (wpAny_typeOf hzT ?_);rw[QJ (by decide)];refine Qb (p6 (up _ _ ho) (show A.in1.in1.handled=none from hh) λh3 tk k3=>?_);simp only[Option.isNone_none,if_true];refine Qb (wpAny_rule ?_);have hL3:h3.IsList l xs:=⟨_,k3 _ _ (up _ _ ho),rfl,n0,rfl⟩
 have hd3:h3.DictOf knd s.heap.objs.size []:=by
  obtain⟨o,es,ep,e1,r⟩:=hnew;exact⟨o,es,ep,k3 _ _ e1,r⟩
 obtain⟨od,es,ep,hd3',r3⟩:=id hd3;refine Qb (wpAny_pyIter_list hL3 ?_);refine Qm ⟨plainId_quiet cC _,?_⟩;have up4:∀c o,h3.get? c=some o->(h3.push { cls:=.type "list_iterator", data:=.fields #[.ref l,.int 0 0] }).get? c=some o:=λc o e=>Qc _ e;have lt3:∀{c o},h3.get? c=some o->c≠h3.objs.size:=λe=>QB (Qn e);refine ql (it:=h3.objs.size) (l:=l) (d:=s.heap.objs.size) (ka:=ka) (va:=va) (lt3 hd3') (lt3 (k3 _ _ (up _ _ ho))) (lt ho).symm (show A.in1.handled=none from hh) ks hk hsz xs.size 0 0 _ [] (by simp) (QQ _) ⟨_,Qu _ rfl,rfl,rfl⟩ (hL3.at λo e=>up4 _ o e) (λk hlt=>?_) ⟨od,es,ep,up4 _ _ hd3',r3⟩ (Qf _) λh5 tk5 hd5 hk5=>?_
 ·obtain⟨T,o,n,e1,e2,e3,e4⟩:=hp k hlt;exact⟨T,o,n,e1,up4 _ _ (k3 _ _ (up _ _ e2)),e3,e4,lt3 (k3 _ _ (up _ _ e2)),(lt e2).symm⟩
 refine⟨rfl,h h5 tk5 (by simpa using hd5) λc o e=>hk5 c o (lt3 (k3 _ _ (up _ _ e))) (lt e).symm (up4 _ _ (k3 _ _ (up _ _ e)))⟩
end
end LZ
namespace L2
open PySem PySem.Spec PyProof.Rows
def tN (H:Hp) (v:V) (p:Str × V):Prop:=∃b,v=.ref b/\H b=some (.tup [.str p.1,p.2])
def dR (ps:List (Str × V)):List (Key × V):=ps.map λp=>((Sum.inr p.1:Key),p.2)
section
variable {X:Cx} {a:Expr} {ta:TA} {p1 pos1:Pos}
def qG (K:PySem.W.Frag) (ta:TA):TE:=λU H Q=>ta U H λvs H1=>∃l xs ps,vs=[.ref l]/\SqL K H1 l xs/\xs.length<10000/\Paired (tN H1) xs ps/\∀d,H1 d=none->Q (.ref d) (upd H1 d (.dK (bP [] (dR ps))))
theorem xL {H:Hp}:∀{xs:List V} {ps:List (Str × V)},Paired (tN H) xs ps->∀(j:Nat) x,xs[j]?=some x->∃y,ps[j]?=some y/\tN H x y
 | _,_,.nil=>λj x e=>by simp at e
 | _,_,.cons (a:=a) (b:=b) h t=>λj x e=>by
  cases j with
  | zero=>simp at e;subst e;exact⟨_,rfl,h⟩
  | succ j=>simp at e;obtain⟨y,e',f⟩:=xL t j x e;exact⟨y,by simpa using e',f⟩
theorem ur {H:Hp}:∀{xs:List V} {ps:List (Str × V)},Paired (tN H) xs ps->xs.length=ps.length
 | _,_,.nil=>rfl
 | _,_,.cons h t=>by simp[ur t]
theorem io (hc:X.calm=true) (hg:Gl X "dict") (hm:X.mg "dict" = none) (ha:PA X [a] ta) (hs:starEach [a] X.env=[(false,eval a X.env)]:=by rfl):PE X (.Call (.Name "dict" p1) [a] [] pos1) (qG X.K ta):=by
 intro pins s U H Q I h;refine Call_ (dY I hg hm PyProof.Rows.boot_dict (Xg (thn (ha pos1 pins s U H _ I h) λus s1 ⟨vs,H1,I1,r1,q1⟩=>?_) hs rfl));obtain⟨l,xs,ps,e,hl,hsm,hpr,q⟩:=q1;subst e;obtain⟨u1,e,ru1⟩:=d6 r1;subst e;cases ru1;obtain⟨its,rv,pl,_⟩:=I1.list hl;have hits:its.length=xs.length:=rv.length.symm;have hps:=ur hpr;have big:10000<sizeLine:=by decide
 have each:∀k,∃g:Value × Value × Str,k<its.length->∃(T:Addr) (o:Obj) (m:Nat) (v:V) (t:Tok),its[k]?=some (.ref T)/\s1.heap.get? T=some o/\o.cls=.type "tuple" /\ o.data=.seq #[g.1,g.2.1] m/\g.1=.str g.2.2 t/\ps[k]?=some (g.2.2,v)/\aX v g.2.1:=λk=>by
  by_cases hk:k<its.length
  ·have hx:xs[k]?=some (xs[k]'(by exact om3 hits hps hk)):=by simp
   obtain⟨y,hy,b,eb,hb⟩:=xL hpr k _ hx;obtain⟨u,hu,ru⟩:=rv.get hx;rw[eb]at ru;cases ru;obtain⟨its2,rv2,⟨o,e1,e2,n,e3⟩,_⟩:=I1.tuple (SqT.of hb);obtain⟨w1,w2,e4,r1,r2⟩:=nv rv2;subst e4;obtain⟨t,et⟩:=r1;subst et;exact⟨(.str y.1 t,w2,y.1),λ_=>⟨b,o,n,y.2,t,hu,e1,e2,e3,rfl,hy,r2⟩⟩
  exact⟨(.none,.none,Str.empty),λh=>absurd h hk⟩
 let g:=λk=>Classical.choose (each k);have hg':∀k,k<its.length->∃(T:Addr) (o:Obj) (m:Nat) (v:V) (t:Tok),its[k]?=some (.ref T)/\s1.heap.get? T=some o/\o.cls=.type "tuple" /\ o.data=.seq #[(g k).1,(g k).2.1] m/\(g k).1=.str (g k).2.2 t/\ps[k]?=some ((g k).2.2,v)/\aX v (g k).2.1:=λk=>Classical.choose_spec (each k);refine LZ.qw (knd:=bp X.prog X.w) (l:=l) (xs:=its.toArray) (ka:=λk=>(g k).1) (va:=λk=>(g k).2.1) (I1.ok.hd hc) (λk=>(Sum.inr (g k).2.2:Key)) (λk hk=>?_) (by rw[Qh,hits];omega) pl (λk hk=>?_) λh3 tk hd3 kept=>?_
 ·rw[Qh]at hk;obtain⟨T,o,m,v,t,_,_,_,_,e5,_⟩:=hg' k hk;show (bp X.prog X.w).is _ (g k).1=true;rw[e5];exact fv _ _ _ _
 ·rw[Qh]at hk;obtain⟨T,o,m,v,t,e1,e2,e3,e4,_⟩:=hg' k hk;exact⟨T,o,m,by simpa using e1,e2,e3,e4⟩
 rw[Qh]at hd3
 have kv:KV (dR ps) ((List.range its.length).map λj=>((Sum.inr (g j).2.2:Key),(g j).2.1)):=by
  unfold dR;refine paired_get (by simp[hits,hps]) λj x y e1 e2=>?_;rw[Qi]at e1 e2
  have hj:j<its.length:=by
   cases e:(List.range its.length)[j]? with
   | none=>rw[e]at e2;cases e2
   | some q=>have:=(Qe.mp e).1;simpa using this
  obtain⟨T,o,m,v,t,_,_,_,_,_,e6,e7⟩:=hg' j hj;rw[e6]at e1;rw[List.getElem?_range hj]at e2;cases e1;cases e2;exact⟨rfl,e7⟩
 have hnew:H1 s1.heap.objs.size=none:=I1.hok.fresh (Qf _)
 have I3:Inv X pins U (upd H1 s1.heap.objs.size (.dK (bP [] (dR ps)))) { s1 with heap:=h3,toks:=tk }:=I1.laid kept (Qf _) ⟨by
   have:=dX (dR ps) [];have e:(dR ps).length=ps.length:=by unfold dR;simp
   simp only[List.length_nil]at this
   omega,beq_eq_false_iff_ne.mpr (by
   have:@LT.lt Nat _ sysModules s1.heap.objs.size:=I1.big;intro e;have e':@Eq Nat s1.heap.objs.size sysModules:=e
   omega),_,pZ kv .nil,hd3⟩
 exact⟨.ref s1.heap.objs.size,_,I3,rfl,q _ hnew⟩
end
section
variable {X:Cx} {o e:Expr} {apos cpos:Pos} {ty:TE} {T:Addr}
end
section
variable {K:PySem.W.Frag} {g:TG} {te:TE} {σ0:St} {QD:Hp->Prop} {H1:Hp} {D:Addr}
end
section
variable {X:Cx}
end
section
variable {K:PySem.W.Frag} {g:TG} {te:TE} {tt:TT} {σ0:St} {QD:Hp->Prop} {H1:Hp} {D:Addr}
end
def xI (f:Addr) (l:Lm) (y:Str) (cell c:Addr) (t:TE):V->Hp->VK->Prop:=λvx H Q=>∃(o:Obj) (uy:Value) (vy:V),H f=some (iC f l [(y,cell)] c)/\H c=some (iK c l.qual)/\H cell=some (c6 o)/\o.data=.cell (some uy)/\aX vy uy /\
 t [some vx,some vy] (de H cell) λv H'=>H' cell=none->Q v (upd H' cell (c6 o))
theorem qr {P:Program} {w:World} {K:PySem.W.Frag} {mg:E3} {base:Heap} {x y:Str} {l:Lm} {f c cell:Addr} {k:Nat} {t:TE} (S:LmScope x y l.scope)
  (hb:∀(pm ctv u:Value),bindArgs (PySem.W.kla_fn "<lambda>" l.qual l.params l.body l.scope [(y,cell)] pm (.ref c) ctv) ⟨[u],[]⟩=pure [(x,u)])
  (body:∀(A:Around) (outer:List Env) (s:Shared) (H:Hp),Room k (A.deeper (PySem.W.envX l.qual l.scope s.heap.objs.size f (.ref c) [(y,cell)]))->PE (rL P w K mg base x y l f c cell A outer s H E0) l.body t) :
  Calls P w K mg base (k+1) f (xI f l y cell c t):=by
 intro X e1 e2 e3 e4 e5 hx hr pins s U H vx u Q I rx h;subst e1 e2 e3 e4 e5;obtain⟨o,uy,vy,hf,hc,hcell,hd,ry,q⟩:=h;obtain⟨pm,ctv,ef⟩:=(I.hok f _ hf).1;have ec:s.heap.CodeRec (.ref c) l.qual:=(I.hok c _ hc).1;have eo:s.heap.get? cell=some o:=(I.hok cell _ hcell).1;have e0:=I.env0
 have nf:cell∉frs X.stack:=λz=>by
  have:=e0.frf cell z;rw[hcell]at this;cases this
 have e0':Env0 X.prog X.w X.K X.mg X.base X.A X.stack s (de H cell):=⟨e0.frames,e0.mod,λb ob e=>⟨(e0.bs b ob e).1,by
  by_cases z:b=cell
  ·rw[z];exact cV
  ·rw[bH z];exact(e0.bs b ob e).2⟩,e0.bsz,e0.funs,λb hb=>by
  by_cases z:b=cell
  ·rw[z];exact cV
  rw[bH z];exact e0.frf b hb,e0.hok.drop hcell,e0.bare⟩
 refine wpAny_call (codeAny_mono (wM (E:=E0) S hr e0' rx ry ⟨o,eo,hd⟩ cV ef ec (hb pm ctv u) (body X.A X.stack s (de H cell)) q) λr s' hq=>?_)
 cases r with
 | error e=>exact False.elim hq
 | ok fl =>
 cases fl with
 | ret u =>
  obtain⟨v,H',os,bare,un,hok,rv,qv⟩:=hq;obtain⟨un',n',e'⟩:=un.back hcell eo nf (by simp);exact I.after ⟨v,_,os,bare,un',hok.take n' e',rv,qv n'⟩
 | next=>exact False.elim hq
 | brk=>exact False.elim hq
 | cont=>exact False.elim hq
end L2
namespace LR
open PySem
section
variable {prog:Program} {w:World} {A:Around} {E:E1} {s:Shared}
end
end LR
namespace L2
open PySem PySem.Spec PyProof.Rows
section
variable {X:Cx}
end
section
variable {X:Cx} {elts:List Expr} {k:Nat} {tpos:Pos}
end
section
variable {X:Cx}
end
section
variable {X:Cx} {elts:List Expr} {k:Nat} {tpos:Pos}
end
end L2
namespace Bf
section
variable {κ:Type} [DecidableEq κ]
def bi (w:List κ):List κ->List κ
 | []=>w
 | k::ks=>bi (if k∈w then w else w++[k]) ks
def bfs (nx:κ->List κ) (s:κ):Nat->List κ
 | 0=>[s]
 | n+1=>match (bfs nx s n)[n]? with
  | some h=>bi (bfs nx s n) (nx h)
  | none=>bfs nx s n
inductive Reach (nx:κ->List κ) (s:κ):κ->Prop
 | start:Reach nx s s
 | step {a b:κ}:Reach nx s a->b∈nx a->Reach nx s b
theorem cW:∀(ks w:List κ),w <+: bi w ks
 | [],w=>List.prefix_refl w
 | k::ks,w=>by
  unfold bi;refine List.IsPrefix.trans ?_ (cW ks _)
  split
  ·exact List.prefix_refl w
  exact List.prefix_append w [k]
theorem dM:∀(ks w:List κ) (x:κ),x∈bi w ks↔x∈w\/x∈ks
 | [],w,x=>by simp[bi]
 | k::ks,w,x=>by
  unfold bi;rw[dM ks]
  split
  ·rename_i h
   constructor
   ·rintro(q|q)
    ·exact .inl q
    exact .inr (Qv _ q)
   rintro(q|q)
   ·exact .inl q
   rcases QV.mp q with e|q
   ·subst e;exact .inl h
   exact .inr q
  rw[Qr,QI,QV,or_assoc]
theorem dv:∀(ks w:List κ),w.Nodup->(bi w ks).Nodup
 | [],w,h=>h
 | k::ks,w,h=>by
  unfold bi;refine dv ks _ ?_
  split
  ·exact h
  rename_i hk
  rw[List.nodup_append];refine⟨h,by simp,λa ha b hb=>?_⟩;rw[QI]at hb;subst hb;intro e;subst e;exact hk ha
theorem kQ (w ks ls:List κ):bi w (ks++ls)=bi (bi w ks) ls:=by
 induction ks generalizing w with
 | nil=>rfl
 | cons k ks ih=>exact ih _
theorem km {w:List κ} {k:κ} (h:k∈w):bi w [k]=w:=by simp[bi,h]
theorem kj {w:List κ} {k:κ} (h:k∉w):bi w [k]=w++[k]:=by simp[bi,h]
variable {nx:κ->List κ} {s:κ}
variable {n i m:Nat}
theorem eK {h:κ} (e:(bfs nx s n)[n]?=some h):bfs nx s (n+1)=bi (bfs nx s n) (nx h):=by
 show (match (bfs nx s n)[n]? with|some h=>bi (bfs nx s n) (nx h)|none=>bfs nx s n)=_;rw[e]
theorem fE (e:(bfs nx s n)[n]?=none):bfs nx s (n+1)=bfs nx s n:=by
 show (match (bfs nx s n)[n]? with|some h=>bi (bfs nx s n) (nx h)|none=>bfs nx s n)=_;rw[e]
theorem kb (n:Nat):bfs nx s n <+: bfs nx s (n+1):=by
 cases e:(bfs nx s n)[n]? with
 | none=>rw[fE e];exact List.prefix_refl _
 | some h=>rw[eK e];exact cW _ _
theorem i8 (n:Nat):∀m,bfs nx s n <+: bfs nx s (n+m)
 | 0=>List.prefix_refl _
 | m+1=>(i8 n m).trans (kb (n+m))
theorem iW {xs ys:List κ} (h:xs <+: ys) {x:κ} (e:xs[i]?=some x):ys[i]?=some x:=by
 obtain⟨t,rfl⟩:=h;rw[QM (Qe.mp e).1];exact e
theorem js {xs ys:List κ} (h:xs <+: ys) {x:κ} (hi:i<xs.length) (e:ys[i]?=some x):xs[i]?=some x:=by
 obtain⟨t,rfl⟩:=h;rw[QM hi]at e;exact e
theorem b_:∀n,(bfs nx s n).Nodup
 | 0=>by simp[bfs]
 | n+1=>by
  cases e:(bfs nx s n)[n]? with
  | none=>rw[fE e];exact b_ n
  | some h=>rw[eK e];exact dv _ _ (b_ n)
theorem cI:∀n x,x∈bfs nx s n->Reach nx s x
 | 0,x,h=>by
  have:x=s:=by simpa[bfs] using h
  subst this;exact .start
 | n+1,x,hx=>by
  cases e:(bfs nx s n)[n]? with
  | none=>rw[fE e]at hx;exact cI n x hx
  | some h =>
  rw[eK e]at hx;rcases(dM _ _ _).mp hx with q|q
  ·exact cI n x q
  exact .step (cI n h (Qj e)) q
theorem oU (n:Nat):(bfs nx s n)[0]?=some s:=iW (by have:=i8 (nx:=nx) (s:=s) 0 n;rwa [Nat.zero_add]at this) rfl
theorem tK (n:Nat):s∈bfs nx s n:=Qj (oU n)
theorem ke {n i:Nat} {h:κ} (hi:i<n) (e:(bfs nx s n)[i]?=some h):∀k∈nx h,k∈bfs nx s n:=by
 have h1:bfs nx s i <+: bfs nx s n:=by
  have:=i8 (nx:=nx) (s:=s) i (n-i);rwa [Nat.add_sub_cancel' (Xx hi)]at this
 have h2:bfs nx s (i+1) <+: bfs nx s n:=by
  have:=i8 (nx:=nx) (s:=s) (i+1) (n-(i+1));rwa [Nat.add_sub_cancel' hi]at this
 intro k hk
 cases q:(bfs nx s i)[i]? with
 | some h' =>
  have:some h'=some h:=(iW h1 q).symm.trans e;cases this;refine h2.subset ?_;rw[eK q];exact(dM _ _ _).mpr (.inr hk)
 | none =>
 -- then nothing is added any more
 exfalso
 have stay:∀m,bfs nx s (i+m)=bfs nx s i:=by
  intro m
  induction m with
  | zero=>rfl
  | succ m ih =>
  have:(bfs nx s (i+m))[i+m]?=none:=by
   rw[ih];exact Xv (QZ (List.getElem?_eq_none_iff.mp q) (Nat.le_add_right i m))
  exact(fE this).trans ih
 have:=stay (n-i);rw[Nat.add_sub_cancel' (Xx hi)]at this;rw[this,q]at e;cases e
theorem rO (hn:(bfs nx s n).length<=n) (x:κ):x∈bfs nx s n↔Reach nx s x:=by
 refine⟨cI n x,λr=>?_⟩
 induction r with
 | start=>exact tK n
 | step r hb ih =>
 obtain⟨i,hi,e⟩:=Qq.mp ih;exact ke (i:=i) (by omega) (by rw[Qd hi,e]) _ hb
theorem gC:∀(ks w:List κ) (j:Nat) (x:κ),w.length<=j->(bi w ks)[j]?=some x->x∈ks
 | [],w,j,x,hj,e=>by
  have:w[j]?=some x:=e;rw[Xv hj]at this;cases this
 | k::ks,w,j,x,hj,e=>by
  unfold bi at e
  split at e
  ·exact Qv _ (gC ks w j x hj e)
  by_cases c:j=w.length
  ·subst c;have:=js (cW ks (w++[k])) (i:=w.length) (by simp) e;rw[QE (Qf _)]at this;simp at this;exact this▸Xi
  exact Qv _ (gC ks (w++[k]) j x (by simp;omega) e)
theorem j_:∀(n j:Nat) (x:κ),0<j->(bfs nx s n)[j]?=some x->∃i h,i<j/\i<n/\(bfs nx s n)[i]?=some h/\x∈nx h
 | 0,j,x,hj,e=>by
  have:([s]:List κ)[j]?=some x:=e;rw[Xv (by simp;omega)]at this;cases this
 | n+1,j,x,hj,e=>by
  cases q:(bfs nx s n)[n]? with
  | none =>
   rw[fE q]at e ⊢;obtain⟨i,h,h1,h2,h3,h4⟩:=j_ n j x hj e;exact⟨i,h,h1,by omega,h3,h4⟩
  | some h =>
  rw[eK q]at e ⊢;by_cases c:j<(bfs nx s n).length
  ·have e':=js (cW (nx h) (bfs nx s n)) c e;obtain⟨i,h',h1,h2,h3,h4⟩:=j_ n j x hj e';exact⟨i,h',h1,by omega,iW (cW _ _) h3,h4⟩
  have hn:n<(bfs nx s n).length:=(Qe.mp q).1;exact⟨n,h,by omega,by omega,iW (cW _ _) q,gC _ _ j x (by omega) e⟩
theorem w6 (hn:(bfs nx s n).length=n) (hm:(bfs nx s m).length=m):n=m:=by
 have a:∀x,x∈bfs nx s n↔x∈bfs nx s m:=λx=>(rO (Nat.le_of_eq hn) x).trans (rO (Nat.le_of_eq hm) x).symm;have:=(List.perm_ext_iff_of_nodup (b_ n) (b_ m)).mpr a;have:=this.length_eq;omega
theorem pigeon:∀(xs ys:List κ),xs.Nodup->(∀x∈xs,x∈ys)->xs.length<=ys.length
 | [],_,_,_=>QQ _
 | x::xs,ys,nd,h=>by
  rw[Xb]at nd;have hx:x∈ys:=h x Xi;have:=pigeon xs (ys.erase x) nd.2 λy hy=>(List.mem_erase_of_ne (λz:y=x=>nd.1 (by rw[<-z];exact hy))).mpr (h y (Qv _ hy));rw[List.length_erase_of_mem hx]at this;have:0<ys.length:=List.length_pos_of_mem hx;simp only[QU];omega
end
section
variable {κ:Type} [DecidableEq κ] {nx:κ->List κ} {s:κ}
end
end Bf
namespace L2
open PySem PySem.Spec PyProof.Rows
section
variable {X:Cx}
end
section
variable {X:Cx} {scope:Scope} {tgs:List Str} {cap:List (Str × Nat)}
theorem xK {j:Nat} {x:Str} {pos' spos:Pos} {elt tg iter:Expr} {ifs:List Expr} {pos:Pos} {wi:TI} {g:TG} {tt:TT} {te:TE} (hN:X.N.Nodup) (hj:X.N[j]?=some x) (hx:Loc X.env.scope x) (hc:X.calm=true) (B:BlockOk X scope tgs cap) (hi:PI X tg iter wi)
  (hg:∀C s H fp,PG (X.block (tgs++cap.map (·.1)) scope C s H fp) tg g) (ht:∀C s H fp,xj (X.block (tgs++cap.map (·.1)) scope C s H fp) ifs tt) (he:∀C s H fp,PE (X.block (tgs++cap.map (·.1)) scope C s H fp) elt te)
  (hs:∀x,foldedSetIterable iter X.env x=pure x:=by intro _;rfl) (hsw:swapsWith (.ListComp elt [⟨tg,iter,ifs,0⟩] scope pos) (some (.Name x pos')) spos.line X.env=pure true:=by rfl)
  (hf:X.fn x=true\/X.env.scope.names.lookup x=some .local:=by z_go):PS X (.Assign [.Name x pos'] (.ListComp elt [⟨tg,iter,ifs,0⟩] scope pos) spos) (se (jc wi g tt te (bR tgs cap)) (dU j)):=by
 intro pins s U H D I h;rw[exec_Assign_Name_used _ _ _ _ hsw];refine Qb (wpAny_standAt (Qb ?_));show wpAny _ _ (comprehension _ _ _ _ _ _ _ _ >>= _) _ _ _;refine Qb (thn (Q:=λ_ s'=>SP X pins D .next s') ?_ λ_ s' q=>Qm (Qm q));refine wpAny_comprehension_free (use:=some (assign (.Name x pos') X.env)) rfl hs (jU (B.cellAt I.ok)) B.kind B.locs (thn (hi pins s U H _ I h) λv s1 h1=>thn h1 λitv s2 h2=>?_);obtain⟨it,fp,tn,J,H2,e,I2,T,st2,f2,q⟩:=h2;subst e;have lt2:∀b∈fp,b<s2.heap.objs.size:=λb hb=>let ⟨o,e,_⟩:=T.obj _ _ st2 b hb;Qn e;have hD:H2 s2.heap.objs.size=none:=I2.hok.fresh (Qf _);obtain⟨W,⟨m0,w0⟩,turn⟩:=q s2.heap.objs.size hD;refine wpAny_newObj_type ?_;have I3:Inv X pins U (upd H2 s2.heap.objs.size (.lst [])) { s2 with heap:=s2.heap.push { cls:=.type "list", dict:=none,data:=.seq ([]:List Value).toArray } }:=I2.lnew (t':=s2.toks) (ys:=[]) (its:=[]) .nil (QQ _);have st3:tn 0 (s2.heap.push { cls:=.type "list", dict:=none,data:=.seq ([]:List Value).toArray }):=T.keep _ _ _ st2 λb _ o e=>Qc _ e;have nD:∀b∈fp,b≠s2.heap.objs.size:=λb hb=>QB (lt2 b hb);have f3:∀b∈fp,gF X pins (upd H2 s2.heap.objs.size (.lst [])) b:=λb hb=>⟨by rw[aj (nD b hb)];exact(f2 b hb).1,(f2 b hb).2⟩;generalize hs3:({ s2 with heap:=s2.heap.push { cls:=.type "list", dict:=none,data:=.seq ([]:List Value).toArray } }:Shared)=s3 at I3 st3 ⊢;have st3':tn 0 s3.heap:=by rw[<-hs3];exact st3
 have lt3:∀b∈fp,b<s3.heap.objs.size:=λb hb=>let ⟨o,e,_⟩:=T.obj _ _ st3' b hb;Qn e;generalize hH3:upd H2 s2.heap.objs.size (.lst [])=H3 at I3 f3 w0;generalize s2.heap.objs.size=DD at *;refine wpAny_newFunctionEnv B.noc (by intro y hy;simp at hy) (λh1 hns hsb=>?_) B.kind;have old:∀b o,s3.heap.get? b=some o->h1.get? b=some o:=λb o e=>hsb.extBut b o (QB (Qn e)) (Qc _ e);have I4:=Inv.enter (tk:=s3.toks+([]:List (Str × Value)).length) (h1:=h1) B I3 f3 lt3 hns old;have st4:tn 0 h1:=T.keep _ _ _ st3' λb _ o e=>old b o e
 have fpB:∀{H':Hp},(∀b∈fp,H' b=none)->∀b∈fp,gF (X.block (tgs++cap.map (·.1)) scope s3.heap.objs.size s3 H3 fp) [] H' b:=λ{H'} hn b hb =>
  ⟨hn b hb,QB (lt3 b hb),I4.ok.exfs b hb,.inl hb,λx c e=>(I4.ok.exf b hb).2 x c e,λp hp=>absurd (show p∈([]:E2) from hp) (by simp)⟩
 have loop:codeAny (model X.prog X.w) X.A (.compLoop (.ListComp elt [⟨tg,iter,ifs,0⟩] scope pos) 0 (.ref it) (.ref DD) (compEnvC scope (cR X.env scope.names []) s3.heap.objs.size X.env))
   (compPost (model X.prog X.w) X.A X.xe (some (assign (.Name x pos') X.env)) (λ_ s'=>SP X pins D .next s') (.ref DD) s3.heap.objs.size) { s3 with heap:=h1,toks:=s3.toks+([]:List (Str × Value)).length }:=by
  refine gZ (λn s'=>∃i H' ys,Inv (X.block (tgs++cap.map (·.1)) scope s3.heap.objs.size s3 H3 fp) [] (bR tgs cap U) H' s'/\tn i s'.heap/\(∀b∈fp,H' b=none)/\W i n H' ys) ?_ m0 ⟨0,H3,[],I4,st4,λb hb=>(f3 b hb).1,w0⟩;rintro n s5 ⟨i,H5,ys,I5,st5,fr5,w5⟩;obtain⟨hl,ht5⟩:=turn i n H5 ys w5;rcases ht5 with⟨stop,qd⟩|⟨go,step⟩
  ·refine thn (T.done (X.block (tgs++cap.map (·.1)) scope s3.heap.objs.size s3 H3 fp) rfl rfl rfl hc i [] s5 _ H5 _ I5 (fpB fr5) st5 stop) λr s6 ⟨hr,I6⟩=>?_;subst hr;obtain⟨m6,n6,_⟩:=I6.loc;have IO:Inv X pins U H5 s6:=Inv.leave (h2:=s6.heap) I3 f3 I6 ⟨rfl,λ_ _=>rfl⟩;have fC:gF X pins H5 s3.heap.objs.size:=⟨I6.free,(I3.fpOk (Qf _) (I3.hok.fresh (Qf _))).2⟩;obtain⟨f0,f1,f2',f3',f4,f5⟩:=fC;refine wpAny_assign_Name (kY IO hN hj hx (show aX (.ref DD) (.ref DD) from rfl) (λs7 I7 ⟨a,sb,ha⟩=>?_) hf)
   have na:s3.heap.objs.size≠a:=by
    rcases ha with z|z
    ·rw[z];exact f1
    exact λy=>f4 x a z y.symm
   obtain⟨o6,es6,ep6,ho6,r6⟩:=n6;refine⟨m6,⟨o6,es6,ep6,(sb.2 _ na).trans ho6,r6⟩,λh' hs'=>⟨_,H5,I7.turned (t':=s7.toks) (λb o hb q=>(hs'.2 b hb).trans q) f0 f1 f3' f4 f5,qd⟩⟩
  refine thn (T.item (X.block (tgs++cap.map (·.1)) scope s3.heap.objs.size s3 H3 fp) rfl rfl rfl hc i [] s5 _ H5 _ I5 (fpB fr5) st5 go) λr s6 ⟨u,hr,h6⟩=>?_;subst hr;refine thn h6 λ_ s7 ⟨x,H7,I7,r7,y7,st7,fr7⟩=>?_;have I7':=I7.pinned (fpB fr7) (T.obj _ _ st7)
  have again:∀{σ8:St} {H8:Hp} {s8:Shared} {ys8:List V},Inv (X.block (tgs++cap.map (·.1)) scope s3.heap.objs.size s3 H3 fp) ([]++ik fp s7.heap) σ8 H8 s8->wk (bR tgs cap U) σ8->(∃m',m'<n/\W (i+1) m' H8 ys8) ->
    ∃m,m<n/\∃i H' ys,Inv (X.block (tgs++cap.map (·.1)) scope s3.heap.objs.size s3 H3 fp) [] (bR tgs cap U) H' s8/\tn i s8.heap/\(∀b∈fp,H' b=none)/\W i m H' ys:=λ{σ8 H8 s8 ys8} I8 k8 ⟨m',hm,w8⟩=>by
   refine⟨m',hm,i+1,H8,ys8,I8.unpinned.weak (lR k8) (lS k8),T.keep _ _ _ st7 λb hb o e=>(I8.pin (b,o) (QL _ (QL _ (cS hb e)))).1,λb hb=>?_,w8⟩;obtain⟨o,e,d⟩:=T.obj _ _ st7 b hb;exact(I8.pin (b,o) (QL _ (QL _ (cS hb e)))).2.1
  refine thn (hg _ _ _ _ _ s7 _ H7 x u _ I7' r7 (step x H7 y7)) λ_ s8 ⟨σ8,H8,I8,k8,q8⟩=>?_;refine thn (ht _ _ _ _ _ s8 σ8 H8 _ I8 q8) λok s9 ⟨H9,I9,q9⟩=>?_
  cases ok with
  | false =>
   rw[QA Qk]at q9 ⊢;exact again I9 k8 q9
  | true =>
  rw[QJ rfl]at q9 ⊢;refine thn (he _ _ _ _ _ s9 σ8 H9 _ I9 q9) λy sA ⟨yv,HA,IA,rA,hA,zA,qA⟩=>?_;exact thn (bu _ sA σ8 HA (.ref DD) [yv] (.ref DD) [y] (λv H'=>v=.non/\∃m',m'<n/\W (i+1) m' H' (ys++[yv])) IA rfl (.cons rA .nil) ⟨DD,ys,yv,rfl,rfl,hA,zA,rfl,qA⟩) λ_ sB ⟨_,HB,IB,_,_,qB⟩=>again IB k8 qB
 exact codeAny_compStart_list loop (T.self _ 0 _ _ _ st4 loop)
end
end L2
namespace L2
open PySem PySem.Spec PyProof.Rows
open AutoSeq1 (wpAny_loadPart')
section
variable {P:Program} {w:World} {A:Around} {E:E1} {s:Shared}
theorem tD (l:Addr) (c:Int) (tc:Tok) (hc:Builtin.SmallTypes.fitsIndex c=true) (its:Array Value) (m:Nat) (dd:Option Addr) (ss:Array (Option Value)) :
  Meets (Builtin.«enumerate.__new__» ⟨[.type "enumerate", .ref l],[("start", .int c tc)]⟩) (λ_ R t=>t.heap.get? l=some { cls:=.type "list", dict:=dd,data:=.seq its m,slots:=ss } /\
   R (.ok (.ret (.ref (t.heap.push { cls:=.type "list_iterator", data:=.fields #[.ref l,.int 0 0] }).objs.size)))
    { t with heap:=(t.heap.push { cls:=.type "list_iterator", data:=.fields #[.ref l,.int 0 0] }).push { cls:=.type "enumerate", data:=.fields #[.none,.bool false,.ref t.heap.objs.size,rawInt c,.none,.none] } }):=by
 refine .of_wp λP w A R t ht=>?_;obtain⟨hp,g,d,tk,os⟩:=t;obtain⟨hl,h⟩:=ht;have sub:=sub_enumerate;have hL:Heap.IsList (Shared.heap ⟨hp,g,d,tk,os⟩) l its:=⟨_,hl,rfl,m,rfl⟩
 wp_walk using wpAny_loadPart' hl
 refine wpAny_stack_any λst=>Qm ?_;have nf:(!Builtin.SmallTypes.fitsIndex c)=false:=by rw[hc];rfl
 split
 rotate_left
 ·(wp_walk using wpAny_loadPart' hl,wpAny_pyIter_list hL);exact⟨_,rfl,h⟩
 rename_i k _ _ _ _ _
 cases (k==Value.type "enumerate") <;> ((wp_walk using wpAny_loadPart' hl,wpAny_pyIter_list hL);exact⟨_,rfl,h⟩)
theorem rZ (a b:Value):checkTypeCall "enumerate" ⟨[a],[("start", b)]⟩=pure ():=by kernel_rfl
theorem u5 (a b:Value):checkBuiltinCall "enumerate.__new__" ⟨[.type "enumerate", a],[("start", b)]⟩=pure ():=by kernel_rfl
theorem DA (a b c:Value):argsOk "object.__init__" ⟨[a,b],[("start", c)]⟩:=by
 show Bind.checkArgs _ _ _=_
 kernel_rfl
theorem u0 {T nid:String} {o a b:Value} (hl:typeLookup (.type T) "__init__" = pure (some (.builtin "object.__init__"))) (hm:Bind.madeBy (.type T)=pure (some nid)) (ne:(some nid != some "object.__new__")=true) :
  Meets (Builtin.«object.__init__» ⟨[o,a],[("start", b)]⟩) (λ_ R t=>t.TypeIs o T/\R (.ok (.ret .none)) t):=by
 refine .of_wp λP w A R t ⟨hT,hq⟩=>?_
 repeat (any_goals (first|assumption|wp_step))
 exact⟨_,rfl,hq⟩
end
end L2
namespace L2
open PySem PySem.Spec PyProof.Rows
variable {P:Program} {w:World} {A:Around} {E:E1} {s:Shared}
section
theorem qu {l:Addr} {c:Int} {tc:Tok} {its:Array Value} {Q:E1} (hc:Builtin.SmallTypes.fitsIndex c=true) (hL:s.heap.IsList l its)
  (h:∀h',IsEnum h' (s.heap.objs.size+1) s.heap.objs.size c .none->h'.IsListIter s.heap.objs.size l 0->(∀b o,s.heap.get? b=some o->h'.get? b=some o)->Q (.ref (s.heap.objs.size+1)) { s with heap:=h' }) :
  wpAny (model P w) A (call (.type "enumerate") [.ref l] [("start", .int c tc)]) Q E s:=by
 obtain⟨⟨k,dd,dt,ss⟩,hl,hk,m,hd⟩:=hL;have hk:k=.type "list" := hk;have hd:dt=.seq its m:=hd;subst hk hd;have ft:=F.called_enumerate;obtain⟨c0,tl,hmro⟩:=ft.mro;have hmade:=ft.made;have hsub:=ft.sub;have h1:=ft.notType;have h2:=ft.canCreate;have hct:=rZ (.ref l) (.int c tc);refine wpAny_call (codeAny_of_tree ?_);show wpAny _ _ (callAny (.type "enumerate") _) _ _ _;refine Qm ⟨Code.quiet_builtin _ (by decide +kernel),codeAny_builtin F.entry_type_call ?_⟩;rw[Around.under_plain (weight_type_call_type "enumerate" [.ref l] [("start", .int c tc)]) (units_type_call_type "enumerate" [.ref l] [("start", .int c tc)])]
 repeat (any_goals (first|assumption|wp_step))
 have hcn:=u5 (.ref l) (.int c tc);refine codeAny_mono (codeAny_call_builtin ft.plain F.entry_enumerate_new (wpAny_of_eq hcn ((tD l c tc hc its m dd ss) P w A.in1 (wants (λobj s₁=>s₁.TypeIs obj "enumerate" /\ Q obj s₁) E) s ⟨hl,?_⟩))) λr s₁ hr=>?_
 ·have hz:(s.heap.push { cls:=.type "list_iterator", data:=.fields #[.ref l,.int 0 0] }).objs.size=s.heap.objs.size+1:=Heap.size_push ..;show _/\_;rw[hz];have he:=Qu (s.heap.push { cls:=.type "list_iterator", data:=.fields #[.ref l,.int 0 0] }) (o:={ cls:=.type "enumerate", data:=.fields #[.none,.bool false,.ref s.heap.objs.size,rawInt c,.none,.none] }) rfl;rw[hz]at he;exact⟨⟨_,he,rfl⟩,h _ he ⟨_,Qc _ (Qu _ rfl),rfl,rfl⟩ λb o x=>Qc _ (Qc _ x)⟩
 cases r with
 | error e=>exact hr
 | ok fl =>
 cases fl with
 | ret obj =>
  obtain⟨hT,hq⟩:=hr;have hli:=ft.init.lookup;have hbi:=ft.init.bind obj
  repeat (any_goals (first|assumption|wp_step))
  refine codeAny_mono (codeAny_call_builtin ft.init.plain F.entry_object_init (ft.init.check _ _ _ _ _ _ _ _ hT (DA obj _ _) ((u0 ft.init.lookup ft.made (by decide)) P w A.in1 (wants (λr s₂=>r=.none/\Q obj s₂) E) s₁ ⟨hT,rfl,hq⟩))) λr₂ s₂ hr₂=>?_
  cases r₂ with
  | error e=>exact hr₂
  | ok fl2 =>
  cases fl2 with
  | ret r=>obtain⟨rfl,hq⟩:=hr₂;repeat (any_goals (first|assumption|wp_step))
  | _=>exact hr₂.elim
 | _=>exact hr.elim
end
section
variable {its:Array Value} {e it l:Addr}
theorem qk {i:Nat} {c:Int} {x old:Value} {Q:E1} (he:IsEnum s.heap e it c old) (hit:s.heap.IsListIter it l i) (hl:s.heap.IsList l its) (hx:its[i]?=some x) (hne:e≠it)
  (hQ:∀h',IsEnumOut h' e it (c+1) x s.heap.objs.size->h'.IsListIter it l (i+1)->h'.get? s.heap.objs.size=some { cls:=.type "tuple", data:=.seq #[.int c s.toks,x] } ->
   (∀b o,b≠e->b≠it->s.heap.get? b=some o->h'.get? b=some o)->Q (.ref s.heap.objs.size) { s with heap:=h',toks:=s.toks+1 }) :
  wpAny (model P w) A (Builtin.«enumerate.__next__» ⟨[.ref e],[]⟩) (λfin s'=>∃v,fin=.done (.ret v)/\Q v s') E s:=by
 obtain⟨hp,g,d,tk,os⟩:=s;show wpAny _ _ (field (.ref e) 2 >>= _) _ _ _;refine Qb (Q7 he rfl (x:=.ref it) rfl (Qb (wpAny_nextOf_list_item hit hl hx λk1 i1 s1=>?_)));have s1:Heap.SameBut it hp k1:=s1;have e1:IsEnum k1 e it c old:=(s1.2 e hne).trans he;show wpAny _ _ (field (.ref e) 3 >>= _) _ _ ⟨k1,g,d,tk,os⟩;refine Qb (Q7 e1 rfl (x:=rawInt c) rfl ?_);show wpAny _ _ (field (.ref e) 4 >>= _) _ _ ⟨k1,g,d,tk,os⟩;refine Qb (Q7 e1 rfl (x:=.none) rfl ?_);show wpAny _ _ (mkInt c >>= _) _ _ ⟨k1,g,d,tk,os⟩;refine Qb (wpAny_mkInt ?_);show wpAny _ _ (setField (.ref e) 3 (rawInt (c+1)) >>= _) _ _ ⟨k1,g,d,tk+1,os⟩;refine Qb (Xe e1 (by simp) λk2 e2 s2=>?_);have s2:Heap.SameBut e k1 k2:=s2;have e2:IsEnum k2 e it (c+1) old:=e2;show wpAny _ _ (setField (.ref e) 4 .none >>= _) _ _ ⟨k2,g,d,tk+1,os⟩;refine Qb (Xe e2 (by simp) λk3 e3 s3=>?_);have s3:Heap.SameBut e k2 k3:=s3;have e3:IsEnum k3 e it (c+1) old:=e3;show wpAny _ _ (newTuple [.int c tk,x] >>= _) _ _ ⟨k3,g,d,tk+1,os⟩;refine Qb (wpAny_newTuple ?_);have e4:IsEnum (k3.push { cls:=.type "tuple", data:=.seq #[.int c tk,x] }) e it (c+1) old:=Qc _ e3;generalize hh:k3.push { cls:=.type "tuple", data:=.seq #[.int c tk,x] }=k4 at e4;have sz:k3.objs.size=hp.objs.size:=by rw[s3.1,s2.1,s1.1]
 have el:e<hp.objs.size:=Qn he;have t4:k4.get? hp.objs.size=some { cls:=.type "tuple", data:=.seq #[.int c tk,x] }:=by rw[<-hh,<-sz];exact Qu _ rfl
 have kp:∀b o,b≠e->b≠it->hp.get? b=some o->k4.get? b=some o:=λb o n1 n2 q=>by rw[<-hh];exact Qc _ (s3.extBut b o n1 (s2.extBut b o n1 (s1.extBut b o n2 q)))
 have i4:k4.IsListIter it l (i+1):=by
  obtain⟨o,ho,r⟩:=(i1.extBut s2.extBut (Xh hne)).extBut s3.extBut (Xh hne);exact⟨o,by rw[<-hh];exact Qc _ ho,r⟩
 show wpAny _ _ (Builtin.SmallTypes.ownedTupleIsFree (.ref e) >>= _) _ _ ⟨k4,g,d,tk+1,os⟩;rw[sz];refine Qb ?_;unfold Builtin.SmallTypes.ownedTupleIsFree;refine Qb (Q7 e4 rfl (x:=.none) rfl (Qm ?_));simp only[if_true];refine Qb (wpAny_rule (Qb (Q7 e4 rfl (x:=old) rfl (Qb (Xe e4 (by simp) λk5 e5 s5=>?_)))));have s5:Heap.SameBut e k4 k5:=s5;have e5:IsEnum k5 e it (c+1) x:=e5;show wpAny _ _ (Builtin.SmallTypes.ownedTupleHandOut (.ref e) (.ref hp.objs.size) >>= _) _ _ ⟨k5,g,d,tk+1,os⟩;refine Qb ?_;unfold Builtin.SmallTypes.ownedTupleHandOut;refine Qb (Xe e5 (by simp) λk6 e6 s6=>?_);have s6:Heap.SameBut e k5 k6:=s6;have e6:IsEnumOut k6 e it (c+1) x hp.objs.size:=e6;refine Xe e6 (by simp) λk7 e7 s7=>?_;have s7:Heap.SameBut e k6 k7:=s7;have e7:IsEnumOut k7 e it (c+1) x hp.objs.size:=e7;have far:∀b o,b≠e->k4.get? b=some o->k7.get? b=some o:=λb o n q=>s7.extBut b o n (s6.extBut b o n (s5.extBut b o n q));exact Qb (wpAny_letGo (Qm ⟨_,rfl,hQ k7 e7 (((i4.extBut s5.extBut (Xh hne)).extBut s6.extBut (Xh hne)).extBut s7.extBut (Xh hne)) (far _ _ (Nat.ne_of_gt el) t4) λb o n1 n2 q=>far b o n1 (kp b o n1 n2 q)⟩))
variable {Q:Option Value->Shared->Prop}
theorem mv {i:Nat} {c:Int} {x old:Value} (he:IsEnum s.heap e it c old) (hit:s.heap.IsListIter it l i) (hl:s.heap.IsList l its) (hx:its[i]?=some x) (hne:e≠it)
  (hQ:∀h',IsEnumOut h' e it (c+1) x s.heap.objs.size->h'.IsListIter it l (i+1)->h'.get? s.heap.objs.size=some { cls:=.type "tuple", data:=.seq #[.int c s.toks,x] } ->
   (∀b o,b≠e->b≠it->s.heap.get? b=some o->h'.get? b=some o)->Q (some (.ref s.heap.objs.size)) { s with heap:=h',toks:=s.toks+1 }):wpAny (model P w) A (pyNext (.ref e)) Q E s:=by
 have ty:s.TypeIs (.ref e) "enumerate" := ⟨_,he,rfl⟩;unfold pyNext;refine Qb (wpAny_attempt (wpAny_callSpecial?_slot (name:=Str.ofString "__next__") ty F.slot_enumerate_next (wpAny_call_entry F.slot_enumerate_next ty F.entry_enumerate_next (qk he hit hl hx hne λh' a b c k=>?_) (F.args_enumerate_next_1 _))));exact Qm (hQ h' a b c k)
theorem ii {i:Nat} {c:Int} {old:Value} (hh:A.handled=none) (he:IsEnum s.heap e it c old) (hit:s.heap.IsListIter it l i) (hl:s.heap.IsList l its) (hx:its[i]?=none)
  (hQ:∀h',Heap.ExtBut it s.heap h'->Q none { s with heap:=h' }):wpAny (model P w) A (pyNext (.ref e)) Q E s:=by
 have ty:s.TypeIs (.ref e) "enumerate" := ⟨_,he,rfl⟩;unfold pyNext;refine Qb (wpAny_attempt (wpAny_callSpecial?_slot (name:=Str.ofString "__next__") ty F.slot_enumerate_next (wpAny_call_entry F.slot_enumerate_next ty F.entry_enumerate_next ?_ (F.args_enumerate_next_1 _))));show wpAny _ _ (field (.ref e) 2 >>= _) _ _ _;refine Qb (Q7 he rfl (x:=.ref it) rfl (Qb (wpAny_nextOf_list_end hh hit hl hx λh' y hx' ⟨o,ho,ko⟩=>?_)));exact Qb (wpAny_isInstance (T := "StopIteration") (b:=true) ⟨o,ho,ko⟩ isSubtype_stop (Qm (hQ _ hx')))
end
noncomputable def vY (K:PySem.W.Frag) (a:Addr) (n:Int):It :=
 ⟨λi H=>∃xs x,SqL K H a xs/\xs[i]?=some x,λi H x H'=>∃T v,H T=none/\x=.ref T/\H'=upd H T (.tup [.int (n+(i:Nat)),v])/\∀xs,SqL K H a xs->xs[i]?=some v,λi H=>∃xs,SqL K H a xs/\xs.length<=i⟩
theorem o9 {P:Program} {w:World} {K:PySem.W.Frag} {elts:List Expr} {k:Nat} {pos:Pos} (a e it:Addr) (n:Int) (hne:e≠it) :
  Turn P w K (.Tuple elts k pos) (vY K a n) [e,it] e (λi h=>(∃old,IsEnum h e it (n+(i:Nat)) old)/\h.IsListIter it a i) where
 mem:=by simp
 obj:=λi h st b hb=>by
  obtain⟨⟨old,he⟩,o,ho,hc,hd⟩:=st;have z:b=e\/b=it:=by simpa using hb
  rcases z with z|z
  ·subst z
   exact⟨_,he,λv q=>by
    have q':Data.fields _=Data.cell v:=q
    cases q'⟩
  subst z;exact⟨o,ho,λv q=>by rw[hd]at q;cases q⟩
 keep:=λi h h' st kk=>by
  obtain⟨⟨old,he⟩,hl⟩:=st;exact⟨⟨old,kk e (by simp) _ he⟩,hl.at λo q=>kk it (by simp) o q⟩
 item:=by
  intro X hP hw hK hc i pins s U H E I hf st hg;subst hP hw hK;obtain⟨xs,x,hq,hx⟩:=hg;obtain⟨its,rv,p,hz⟩:=I.list hq;obtain⟨u,hu,ru⟩:=rv.get hx;obtain⟨⟨old,he⟩,hl⟩:=st;have f1:=hf e (by simp);have f2:=hf it (by simp);refine mv he hl p.isList (x:=u) (by simpa using hu) hne λh1 a1 a2 a3 a5=>⟨_,rfl,?_⟩;refine wpAny_letOwnedTupleGo_enum a1 λh2 b1 b2=>?_
  have nTe:s.heap.objs.size≠e:=λz=>by
   have q:=Qn (show s.heap.get? e=some _ from he);rw[<-z]at q;exact Nat.lt_irrefl _ q
  have keep2:∀b o,b≠e->b≠it->s.heap.get? b=some o->h2.get? b=some o:=λb o n1 n2 q=>b2.extBut b o n1 (a5 b o n1 n2 q);have tup2:h2.get? s.heap.objs.size=some { cls:=.type "tuple", data:=.seq #[.int (n+(i:Nat)) s.toks,u] }:=b2.extBut _ _ nTe a3
  have I2:Inv X pins U (upd H s.heap.objs.size (.tup [.int (n+(i:Nat)),x])) { s with heap:=h2,toks:=s.toks+1 } :=
   I.turned2 keep2 f1 f2 (Qf _) ⟨(by show 2<=sizeLine;decide),[.int (n+(i:Nat)) s.toks,u],.cons ⟨_,rfl⟩ (.cons ru .nil),⟨_,tup2,rfl,_,rfl⟩⟩
  refine⟨.ref s.heap.objs.size,_,I2,rfl,⟨s.heap.objs.size,x,I.hok.fresh (Qf _),rfl,rfl,λys hy=>by rw[I.list_inj hy hq];exact hx⟩,⟨⟨u,?_⟩,(a2.extBut b2.extBut (Xh hne))⟩,λb hb=>?_⟩
  ·have q:IsEnum h2 e it (n+(i:Nat)+1) u:=b1;have c:n+(((i+1:Nat):Nat):Int)=n+(i:Nat)+1:=by omega
   rw[c];exact q
  have z:b=e\/b=it:=by simpa using hb
  have nT:b≠s.heap.objs.size:=by
   rcases z with z|z
   ·rw[z];exact Xh nTe
   rw[z];obtain⟨o,ho,_⟩:=hl;exact QB (Qn ho)
  rw[aj nT];exact(hf b hb).1
 done:=by
  intro X hP hw hK hc i pins s U H E I hf st hg;subst hP hw hK;obtain⟨xs,hq,hx⟩:=hg;obtain⟨its,rv,p,hz⟩:=I.list hq;obtain⟨⟨old,he⟩,hl⟩:=st;obtain⟨f0,f1,f2,f3,f4,f5⟩:=hf it (by simp);have hlen:=rv.length;exact ii (I.ok.hd hc) he hl p.isList (by simp;exact om4 hx hlen) λh' eb=>⟨rfl,I.turned (t':=s.toks) (λb o hb q=>eb b o hb q) f0 f1 f3 f4 f5⟩
 self:=λ_ _ _ _ _ st h=>by
  obtain⟨⟨old,he⟩,_⟩:=st;exact wpAny_pyIter_enum he h
section
variable {X:Cx} {elts:List Expr} {k:Nat} {tpos:Pos}
def zT (K:PySem.W.Frag) (ta tk:TA):TI:=λU H R=>ta U H λvs H1=>tk U H1 λzs H2=>∃a n,vs=[.ref a]/\zs=[.int n]/\(0<=n/\n<1000)/\(∃xs,SqL K H2 a xs)/\R (vY K a n) H2
variable {E Q:E1}
theorem jZ {M:Model} {env:Env} {pos:Pos} {T:String} {e:Expr} {kws:List Keyword} {A:Around} {s:Shared}
  (h:wpAny M A (spliced (backTo pos (starEach [e] env))) (λvs s1=>wpAny M A (evalAll ((backToKw pos (keywordEach kws env)).map (·.2))) (λzs s2=>wpAny M A (call (.type T) vs (((backToKw pos (keywordEach kws env)).filterMap (·.1)).zip zs)) Q E s2) E s1) E s)
  (he:backTo pos (starEach [e] env)=(false,eval e env)::backTo pos (starEach [] env):=by rfl) (hp:(backTo pos (starEach [e] env)).any (·.1)=false:=by rfl) (ha:(backToKw pos (keywordEach kws env)).all (·.1.isSome)=true:=by rfl) (hk:(backToKw pos (keywordEach kws env)).any (·.1.isNone)=false:=by rfl) :
  wpAny M A (callWith pos (.type T) [] (backTo pos (starEach [e] env)) (backToKw pos (keywordEach kws env))) Q E s:=by
 unfold callWith;refine Qb (Q3 (Q8 (show wpAny M A (evalArgs _ true _ _) (λa s1=>wpAny M A (call (.type T) a.pos a.kw) Q E s1) E s from ?_) (λa s1 h1=>Qb (wpAny_standAt ?_)) λ_ _ x=>x))
 ·rw[he]at h ⊢;exact evalArgs_kwB ha h
 simp only[hp,hk,Bool.or_false];refine Qb (Qm ?_);exact Qb (Q8 h1 (λr s2 hr=>Qb (Q3 (wpAny_point (Qm hr)))) λ_ _ x=>x)
theorem uw {a b:Expr} {ta tk:TA} {p pos kp:Pos} (hg:Gl X "enumerate") (hm:X.mg "enumerate" = none) (ha:PA X [a] ta) (hb:PK X [⟨some "start", b,kp⟩] tk) (he:∀pos,backTo pos (starEach [a] X.env)=(false,eval a X.env)::backTo pos (starEach [] X.env):=by intro pos;rfl) :
  PI X (.Tuple elts k tpos) (.Call (.Name "enumerate" p) [a] [⟨some "start", b,kp⟩] pos) (zT X.K ta tk):=by
 intro pins s U H R I h;refine XA (dY I hg hm boot_enumerate ?_);refine jZ (thn (ha pos pins s U H _ I h) λus s1 ⟨vs,H1,I1,r1,q1⟩=>thn (hb pos pins s1 U H1 _ I1 q1) λws s2 ⟨zs,H2,I2,rz,q2⟩=>?_) (he pos) (by rw[he pos];rfl);obtain⟨l,n,e1,e2,⟨n0,n1⟩,⟨xs,hq⟩,q⟩:=q2;subst e1 e2
 cases r1 with
 | cons r rr =>
 cases rr;cases r;obtain⟨u,e,ru⟩:=d6 rz;subst e;obtain⟨tc,e⟩:=ru;subst e;obtain⟨its,rv,pl,hz⟩:=I2.list hq;refine qu (c:=n) (tc:=tc) (by unfold Builtin.SmallTypes.fitsIndex;simp;omega) pl.isList λh' b1 b2 b4=>?_;refine wpAny_pyIter_enum b1 ?_;have I3:Inv X pins U H2 { s2 with heap:=h' }:=I2.kept (t':=s2.toks) b4;refine⟨s2.heap.objs.size+1,[s2.heap.objs.size+1,s2.heap.objs.size],_,_,H2,rfl,I3,o9 l (s2.heap.objs.size+1) s2.heap.objs.size n (by show @Ne Nat _ _;exact om5),⟨⟨_,by rw[show n+((0:Nat):Int)=n from by omega];exact b1⟩,b2⟩,λb hb=>?_,q⟩;have z:b=s2.heap.objs.size+1\/b=s2.heap.objs.size:=by simpa using hb
 have hle:s2.heap.objs.size<=b:=by
  rcases z with z|z
  ·rw[z];exact Nat.le_succ _
  rw[z];exact Qf _
 exact I2.fpOk hle (I2.hok.fresh hle)
end
theorem tw {K:PySem.W.Frag} {a:Addr} {n:Int} {xs:List V} {g:TG} {tb:TS} {D:Ends} {U:St} {H:Hp} (Pv:Nat->St->Hp->Prop) (h0:Pv 0 U H) (hl:∀i U H,i<=xs.length->Pv i U H->SqL K H a xs)
  (hs:∀i x U H T,xs[i]?=some x->Pv i U H->H T=none->g (.ref T) U (upd H T (.tup [.int (n+(i:Nat)),x])) λσ2 H2=>tb { D with nx:=Pv (i+1),ct:=Pv (i+1),bk:=D.nx } σ2 H2) (hd:∀U H,Pv xs.length U H->D.nx U H) :
  ∃W:Nat->Nat->St->Hp->Prop,(∃m,W 0 m U H)/\∀i m U H,W i m U H ->
   ((vY K a n).stop i H/\D.nx U H)\/((vY K a n).go i H/\∃N:St->Hp->Prop,(∀σ' H',N σ' H'->∃m',m'<m/\W (i+1) m' σ' H')/\∀x H',(vY K a n).yld i H x H'->g x U H' λσ2 H2=>tb { D with nx:=N,ct:=N,bk:=D.nx } σ2 H2):=by
 refine⟨λi m U H=>m=xs.length-i/\i<=xs.length/\Pv i U H,⟨xs.length,by simp,QQ _,h0⟩,?_⟩;rintro i m U H ⟨rfl,hi,p⟩;have q:=hl i U H hi p;by_cases hlt:i<xs.length
 ·refine .inr ⟨⟨xs,xs[i],q,by simp[hlt]⟩,Pv (i+1),λσ' H' p'=>⟨xs.length-(i+1),by exact om6 hlt,rfl,hlt,p'⟩,λx H' y=>?_⟩;obtain⟨T,v,hT,ex,eH,y⟩:=y;subst ex eH;exact hs i v U H T (y xs q) p hT
 have e:i=xs.length:=by exact om0 hi hlt
 subst e;exact .inl ⟨⟨xs,q,Qf _⟩,hd U H p⟩
theorem jR {K:PySem.W.Frag} {H1:Hp} {D:Addr} {σ0:St} {g:TG} {te:TE} {tt:TT} {QD:Hp->Prop} {a:Addr} {xs:List V} (Pv:Nat->Hp->List V->Prop) (h0:Pv 0 (upd H1 D (.lst [])) []) (hD:∀i H ys,Pv i H ys->H D=some (.lst ys)/\SqL K H a xs)
  (hs:∀i x H ys,xs[i]?=some x->Pv i H ys->g x σ0 H λσ2 H2=>wk σ0 σ2/\tt σ2 H2 λb H3=>if b=true then te σ2 H3 (cA Pv xs.length D i ys) else ∃m',m'<xs.length-i/\(m'=xs.length-(i+1)/\i+1<=xs.length/\Pv (i+1) H3 ys)) (hd:∀H ys,Pv xs.length H ys->QD H) :
  ∃W:Nat->Nat->Hp->List V->Prop,(∃m,W 0 m (upd H1 D (.lst [])) [])/\∀i m H ys,W i m H ys->H D=some (.lst ys)/\(((Itl K a).stop i H/\QD H)\/((Itl K a).go i H/\∀x H',(Itl K a).yld i H x H'->g x σ0 H' λσ2 H2=>wk σ0 σ2/\tt σ2 H2 λb H3 =>
   if b=true then te σ2 H3 λv H4=>H4 D=some (.lst ys)/\ys.length<sizeLine/\∃m',m'<m/\W (i+1) m' (upd H4 D (.lst (ys++[v]))) (ys++[v]) else ∃m',m'<m/\W (i+1) m' H3 ys)):=by
 refine⟨λi m H ys=>m=xs.length-i/\i<=xs.length/\Pv i H ys,⟨xs.length,by simp,QQ _,h0⟩,?_⟩;rintro i m H ys ⟨rfl,hi,p⟩;obtain⟨d1,d2⟩:=hD i H ys p;refine⟨d1,?_⟩;by_cases hlt:i<xs.length
 ·refine .inr ⟨⟨xs,xs[i],d2,by simp[hlt]⟩,λx H' y=>?_⟩;obtain⟨e,y⟩:=y;subst e;exact hs i x _ ys (y xs d2) p
 have e:i=xs.length:=by exact om0 hi hlt
 subst e;exact .inl ⟨⟨xs,d2,Qf _⟩,hd H ys p⟩
theorem vF {x:V} (h:cQ x=true):eqV x x=true:=by
 cases x <;> first|(simp[eqV];done)|(simp[cQ]at h;done)|simp_all [eqV,cQ]
theorem m_ (n:Nat):((List.range n).all λ_=>true)=true:=Q2.mpr λ_ _=>rfl
section
variable {K:PySem.W.Frag} {H:Hp} {Q:VK}
theorem vE {n:Nat} {x:V} (h:cQ x=true):EqD K H n x x true:=by
 have q:=EqD.flat (K:=K) (H:=H) (n:=n) h h;rwa [vF h]at q
variable {xs ys:List V} {a b l:Addr}
theorem oM {n:Nat} (h1:SqL K H a xs) (h2:SqL K H b ys) (hl:xs.length=ys.length) (hi:∀(j:Nat) x y,xs[j]?=some x->ys[j]?=some y->EqD K H n x y true):EqD K H (n+1) (.ref a) (.ref b) true:=by
 by_cases e:a=b
 ·subst e;exact .same
 have q:=EqD.lists (e:=λ_=>true) h1 h2 hl hi e;rwa [m_]at q
theorem tz {n:Nat} (f:xs.all cQ=true):∀(j:Nat) x y,xs[j]?=some x->xs[j]?=some y->EqD K H n x y true:=λj x y e1 e2=>by
 rw[e1]at e2;cases e2;exact vE (Q2.mp f x (Qj e1))
theorem yq (h1:SqT K H a xs) (h2:SqT K H b ys) (hl:xs.length=ys.length) (hi:∀(j:Nat) x y,xs[j]?=some x->ys[j]?=some y->EqD K H 8 x y true) (q:Q (.bl false) H):wg K true (.ref a) (.ref b) H Q:=by
 refine⟨a,b,xs,ys,λ_=>true,rfl,rfl,h1,h2,hi,?_⟩;rw[m_,hl,beq_self_eq_true];exact q
theorem Dj (h1:SqT K H a xs) (h2:SqT K H b ys) (hl:xs.length=ys.length) (hi:∀(j:Nat) x y,xs[j]?=some x->ys[j]?=some y->EqD K H 8 x y true) (q:Q (.bl true) H):wg K false (.ref a) (.ref b) H Q:=by
 refine⟨a,b,xs,ys,λ_=>true,rfl,rfl,h1,h2,hi,?_⟩;rw[m_,hl,beq_self_eq_true];exact q
theorem r_eqNil {R:Bool->Hp->Prop} {U:St} (hl:H l=some (.lst xs)) (q:∀H',am H H'->R (decide (xs.length=0)) H'):wb eO U H λy H2=>sj K false (.ref l) y H2 λx H'=>∃k,x=.bl k/\R k H':=by
 refine i_lst (aM ⟨by simp[sizeLine],λp hp=>?_⟩);refine⟨l,p,xs,[],λ_=>true,rfl,rfl,SqL.of (ai hp _ _ hl),SqL.of af,λj x y _ e=>by simp at e,_,rfl,?_⟩
 have e:(if false=true then !(xs.length==([]:List V).length&&(List.range xs.length).all λ_=>true) else (xs.length==([]:List V).length&&(List.range xs.length).all λ_=>true))=decide (xs.length=0):=by
  rw[QA Qk,m_,Bool.and_true];rfl
 rw[e];exact q _ (ai hp)
end
end L2
namespace LY
open PySem LZ
section
variable {prog:Program} {w:World} {A:Around} {E:E1} {s:Shared}
end
structure ApartM (z TI TO i1 i2 l m d:Addr):Prop extends ApartD z TI TO i1 i2 l d where
 mz:m≠z
 mTO:m≠TO
 mi1:m≠i1
 mi2:m≠i2
 dm:d≠m
structure ZS (h:Heap) (z TI TO i1 i2 l d:Addr) (m:Addr) (xs ys:Array Value) (k:Nat):Prop where
 zf:(IsZ h z TI TO .none false/\∃a b,IsPair h TO a b)\/∃(T:Addr) (f1:Bool) (oT:Obj),IsZ h z TI TO (rawInt (T:Nat)) f1/\h.get? T=some oT/\T≠z/\T≠i1/\T≠i2/\T≠d
 ti:IsPair h TI (.ref i1) (.ref i2)
 a1:h.IsListIter i1 l k
 a2:h.IsListIter i2 m k
 li:h.IsList l xs
 mi:h.IsList m ys
section
variable {prog:Program} {w:World} {K:Type} [DecidableEq K] {knd:KeyKind prog w K} {A:Around} {R:Result->Shared->Prop}
end
end LY
namespace L2
open PySem PySem.Spec PyProof.Rows
section
variable {X:Cx} {elts:List Expr} {k:Nat} {tpos:Pos}
end
section
variable {X:Cx}
end
section
variable {X:Cx}
end
end L2
namespace LS
open PySem PySem.Spec PyProof.Rows
def Led (w:World) (t:SetTable) (n:Nat):Prop:=w.params.followText "set-order" = true\/(t.led=true/\(n≠0->t.plain=false))
def kn (prog:Program) (w:World) (h:Heap) (a:Addr) (S:Str->Bool) (n:Nat):Prop:=∃o es ep t,h.get? a=some o/\o.ExactSet/\o.data=.set es ep t/\ElemsOf (strKind prog w) es.toList/\(∀k,S k=true↔∃e∈es.toList,(strKind prog w).is k e.2=true)/\es.size<scanBound/\t.fits es.size=true/\es.size=n/\Led w t es.size
section
variable {prog:Program} {w:World} {A:Around} {E:E1} {s:Shared} {a:Addr} {S:Str->Bool} {n:Nat}
variable {es' es:Array (Int × Value)}
theorem kn.put {h:Heap} {o:Obj} {ep:Nat} {t:SetTable} (ho:h.get? a=some o) (hex:o.ExactSet) (hd:o.data=.set es ep t) {t':SetTable}
  (hel:ElemsOf (strKind prog w) es'.toList) (hm:∀k,S k=true↔∃e∈es'.toList,(strKind prog w).is k e.2=true) (hb:es'.size<scanBound) (hf:t'.fits es'.size=true) (hn:es'.size=n) (hl:Led w t' es'.size) :
  (h.update a (Obj.putSet es' t')).get? a=some { o with data:=.set es' (ep+1) t' }/\kn prog w (h.update a (Obj.putSet es' t')) a S n:=by
 obtain⟨g,_⟩:=SetOf_store (knd:=strKind prog w) ho hex hd hel hm hb hf;exact⟨g,_,es',ep+1,t',g,hex,rfl,hel,hm,hb,hf,hn,hl⟩
theorem kn.congr {h:Heap} {S':Str->Bool} {m:Nat} (q:kn prog w h a S n) (e:∀k,S k=S' k) (f:n=m):kn prog w h a S' m:=by
 obtain⟨o,es,ep,t,h1,h2,h3,h4,h5,h6,h7,h8,h9⟩:=q;exact⟨o,es,ep,t,h1,h2,h3,h4,λk=>by rw[<-e k];exact h5 k,h6,h7,h8.trans f,h9⟩
abbrev bare (led:Bool):Obj:={ cls:=.type "set", dict:=none,data:=.set #[] 0 (.fresh 0 0 led) }
theorem kn.bare {h:Heap} (g:h.get? a=some (bare !(w.params.followText "set-order"))):kn prog w h a (λ_=>false) 0 :=
 ⟨_,#[],0,_,g,⟨rfl,rfl,rfl⟩,rfl,fun e he=>by simp at he,fun k=>by simp,by decide,rfl,rfl,by
  unfold Led
  cases e:w.params.followText "set-order" with
  | true=>exact .inl rfl
  | false=>exact .inr ⟨rfl,λz=>absurd rfl z⟩⟩
end
def DG (h:Heap) (it a:Addr) (first:Value) (i n ep:Nat):Prop:=∃o,h.get? it=some o/\o.cls=.type "set_iterator" /\ o.data=.fields #[first,.int i 0,.ref a,.int n 0,.int ep 0]
section
variable {prog:Program} {w:World} {A:Around} {E:E1} {s:Shared} {a it:Addr} {es:Array (Int × Value)} {ep:Nat} {t:SetTable} {i:Nat} {first:Value}
theorem DG.typeIs {n:Nat} (h:DG s.heap it a first i n ep):s.TypeIs (.ref it) "set_iterator" := let ⟨o,ho,hc,_⟩:=h;⟨o,ho,hc⟩
end
end LS
set_option maxHeartbeats 400000
namespace LS
open PySem PySem.Spec PyProof.Rows
section
variable {prog:Program} {w:World} {A:Around} {E:E1} {s:Shared} {a it:Addr} {es:Array (Int × Value)} {ep:Nat} {t:SetTable} {i:Nat}
end
end LS
set_option maxHeartbeats 4000000
namespace LS
open PySem PySem.Spec PyProof.Rows
def met (g:Nat->Str):Nat->List Str
 | 0=>[]
 | i+1=>if g i∈met g i then met g i else met g i++[g i]
section
variable {prog:Program} {w:World} {A:Around} {R:Result->Shared->Prop} {I S:Addr} {fp wr:E4} {G:Array GenState->Array GenState->Prop} {n:Nat} {P:Nat->Value->Prop} {St:Nat->Shared->Prop}
end
section
variable {prog:Program} {w:World} {A:Around} {E:E1} {s:Shared}
end
end LS
namespace L2
open PySem PySem.Spec PyProof.Rows
def uniq (ts:List Str):Nat:=(LS.met (λi=>ts.getD i Str.empty) ts.length).length
section
variable {X:Cx} {a:Expr} {ta:TA} {p p1 pos pos1:Pos}
end
end L2
namespace LS
open PySem
end LS
namespace L2
open PySem
end L2
set_option maxHeartbeats 400000
namespace LS
open PySem PySem.Spec PyProof.Rows PySem.Calls
section
variable {prog:Program} {w:World} {A:Around} {E:E1} {s:Shared} {a:Addr} {S:Str->Bool} {n:Nat}
structure Ord (S:Str->Bool) (n:Nat) (od:List (Int × Value)):Prop where
 len:od.length=n
 txt:∀e∈od,∃x t,e.2=.str x t
 mem:∀x,S x=true↔∃e∈od,∃t,e.2=.str x t
end
end LS
namespace L2
open PySem PySem.Spec PyProof.Rows
theorem Inv.drawn {X:Cx} {pins:E2} {U:List (Option V)} {H:Hp} {s:Shared} (I:Inv X pins U H s) (d:Drawn):Inv X pins U H { s with drawn:=d }:=⟨I.ok,I.os,I.bare,I.base,I.loc,I.cell,I.free,I.freeC,I.pin,I.hok,I.len⟩
section
variable {X:Cx} {a:Expr} {ta:TA} {p p1 pos pos1:Pos}
end
end L2
set_option maxHeartbeats 4000000
namespace L2
open PySem PySem.Spec PyProof.Rows
theorem lF {H1:Hp} {D:Addr} {σ0:St} {g:TG} {te:TE} {QD:Hp->Prop} {a:Addr} {o:Obj} {kvs:List (Key × V)} (Pv:Nat->Hp->List V->Prop) (h0:Pv 0 (upd H1 D (.lst [])) []) (hD:∀i H ys,Pv i H ys->H D=some (.lst ys)/\H a=some (.frz o (.dK kvs)))
  (hs:∀i k v H ys,kvs[i]?=some (k,v)->Pv i H ys->g (kV k) σ0 H λσ2 H2=>wk σ0 σ2/\gI σ2 H2 λb H3=>if b=true then te σ2 H3 (cA Pv kvs.length D i ys) else ∃m',m'<kvs.length-i/\(m'=kvs.length-(i+1)/\i+1<=kvs.length/\Pv (i+1) H3 ys)) (hd:∀H ys,Pv kvs.length H ys->QD H) :
  ∃W:Nat->Nat->Hp->List V->Prop,(∃m,W 0 m (upd H1 D (.lst [])) [])/\∀i m H ys,W i m H ys->H D=some (.lst ys)/\(((Itd a o kvs).stop i H/\QD H)\/((Itd a o kvs).go i H/\∀x H',(Itd a o kvs).yld i H x H'->g x σ0 H' λσ2 H2=>wk σ0 σ2/\gI σ2 H2 λb H3 =>
   if b=true then te σ2 H3 λv H4=>H4 D=some (.lst ys)/\ys.length<sizeLine/\∃m',m'<m/\W (i+1) m' (upd H4 D (.lst (ys++[v]))) (ys++[v]) else ∃m',m'<m/\W (i+1) m' H3 ys)):=by
 refine⟨λi m H ys=>m=kvs.length-i/\i<=kvs.length/\Pv i H ys,⟨kvs.length,by simp,QQ _,h0⟩,?_⟩;rintro i m H ys ⟨rfl,hi,p⟩;obtain⟨d1,d2⟩:=hD i H ys p;refine⟨d1,?_⟩;by_cases hlt:i<kvs.length
 ·refine .inr ⟨⟨d2,hlt⟩,λx H' y=>?_⟩;obtain⟨e,k,v,hk,ex⟩:=y;subst e ex;exact hs i k v _ ys hk p
 have e:i=kvs.length:=by exact om0 hi hlt
 subst e;exact .inl ⟨⟨d2,Qf _⟩,hd H ys p⟩
end L2
namespace Tm
open PySem PyProof.Rows
@[reducible] def intK:PyProof.Rows.KeyKind where
 α:=Int
 blt a b:=decide (a<b)
 irrefl a:=by simp
 trans a b c h1 h2:=by simp only[decide_eq_true_eq] at *;exact Int.lt_trans h1 h2
 negTrans a b c h:=by
  simp only[decide_eq_true_eq] at *;by_cases hab:a<b
  ·exact .inl hab
  exact .inr (Int.lt_of_le_of_lt (Int.not_lt.mp hab) h)
 total a b h1 h2:=by simp only[decide_eq_false_iff_not] at *;exact Int.le_antisymm (Int.not_lt.mp h2) (Int.not_lt.mp h1)
 keyOf v:=match v with|.int x _=>some x|_=>none
 dflt:=0
section
variable {prog:Program} {w:World}
end
end Tm
namespace L2
open PySem PySem.Spec PyProof.Rows
section
variable {X:Cx}
end
end L2
namespace Tm
open PySem PyProof.Rows PySem.W
def mI (a b:List Nat × Int):Bool:=decide (a.1<b.1) || (decide (a.1=b.1)&&decide (a.2<b.2))
variable {a b:List Nat × Int}
theorem eg:mI a b=true↔a.1<b.1\/(a.1=b.1/\a.2<b.2):=by simp[mI]
theorem mG:mI a b=false↔¬(a.1<b.1\/(a.1=b.1/\a.2<b.2)):=by rw[<-eg];simp
theorem rj (a:List Nat × Int):mI a a=false:=by
 rw[mG];rintro(h|⟨_,h⟩)
 ·exact List.lt_irrefl _ h
 exact Int.lt_irrefl _ h
def vi:List Value->Option (List Nat × Int)
 | [.str z _,.int i _]=>some (z.cps.toList,i)
 | _=>none
def lB:Data->Option (List Nat × Int)
 | .seq its _=>vi its.toList
 | _=>none
def mB (h:Heap):Value->Option (List Nat × Int)
 | .ref a=>(h.get? a).bind λo=>lB o.data
 | _=>none
theorem xM {h:Heap} {a:Addr} {o:Obj} {its:Array Value} {n:Nat} {z:Str} {t:Tok} {i:Int} {u:Tok} (g:h.get? a=some o) (d:o.data=.seq its n) (e:its.toList=[.str z t,.int i u]):mB h (.ref a)=some (z.cps.toList,i):=by
 show (h.get? a).bind (λo=>lB o.data)=_;rw[g];show lB o.data=_;rw[d];show vi its.toList=_;rw[e];rfl
theorem wQ {l:List Value} {k:List Nat × Int} (e:vi l=some k):∃z t i u,l=[.str z t,.int i u]/\k=(z.cps.toList,i):=by
 unfold vi at e
 split at e
 ·exact⟨_,_,_,_,rfl,(QN e).symm⟩
 cases e
theorem vK {d:Data} {k:List Nat × Int} (e:lB d=some k):∃its n,d=.seq its n/\vi its.toList=some k:=by
 unfold lB at e
 split at e
 ·exact⟨_,_,rfl,e⟩
 cases e
noncomputable def q_ (h:Heap):PyProof.Rows.KeyKind where
 α:=List Nat × Int
 blt:=mI
 irrefl a:=rj a
 trans a b c h1 h2:=by
  rw[eg] at *;rcases h1 with h1|⟨e1,h1⟩ <;> rcases h2 with h2|⟨e2,h2⟩
  ·exact .inl (List.lt_trans h1 h2)
  ·exact .inl (e2▸h1)
  ·exact .inl (e1▸h2)
  exact .inr ⟨e1.trans e2,Int.lt_trans h1 h2⟩
 negTrans a b c h:=by
  rw[eg] at *;rw[eg];by_cases h1:a.1<b.1
  ·exact .inl (.inl h1)
  by_cases h2:b.1<c.1
  ·exact .inr (.inl h2)
  have l1:=List.not_lt.mp h1;have l2:=List.not_lt.mp h2;rcases h with h|⟨e,h⟩
  ·exact absurd (List.lt_of_le_of_lt (List.le_trans l2 l1) h) (List.lt_irrefl _)
  have e1:a.1=b.1:=List.le_antisymm (e▸l2) l1;by_cases h3:a.2<b.2
  ·exact .inl (.inr ⟨e1,h3⟩)
  exact .inr (.inr ⟨e1▸e,by omega⟩)
 total a b h1 h2:=by
  rw[mG] at *;have e:a.1=b.1:=List.le_antisymm (List.not_lt.mp λz=>h2 (.inl z)) (List.not_lt.mp λz=>h1 (.inl z))
  have:a.2=b.2:=by
   have x1:¬a.2<b.2:=λz=>h1 (.inr ⟨e,z⟩);have x2:¬b.2<a.2:=λz=>h2 (.inr ⟨e.symm,z⟩);omega
  exact Prod.ext e this
 keyOf:=mB h
 dflt:=([],0)
theorem my {h:Heap} {v:Value} {k:List Nat × Int} (e:mB h v=some k):∃(a:Addr) (o:Obj) (its:Array Value) (n:Nat) (z:Str) (t:Tok) (i:Int) (u:Tok),v=.ref a/\h.get? a=some o/\o.data=.seq its n/\its.toList=[.str z t,.int i u]/\k=(z.cps.toList,i):=by
 unfold mB at e
 split at e
 ·rename_i a
  cases g:h.get? a with
  | none=>rw[g]at e;cases e
  | some o =>
  rw[g]at e;have e:lB o.data=some k:=e;obtain⟨its,n,d,e⟩:=vK e;obtain⟨z,t,i,u,e1,e2⟩:=wQ e;exact⟨a,o,its,n,z,t,i,u,rfl,g,d,e1,e2⟩
 cases e
section
variable {prog:Program} {w:World}
theorem wv {h:Heap} {A:Around} {s:Shared} (keep:∀v k,mB h v=some k->mB s.heap v=some k):iB (q_ h) (tuples' true) prog w A s:=by
 intro E x y a b Q ha hb hq;obtain⟨ax,o1,is1,n1,z1,t1,i1,u1,rfl,g1,d1,l1,rfl⟩:=my (keep _ _ ha);obtain⟨ay,o2,is2,n2,z2,t2,i2,u2,rfl,g2,d2,l2,rfl⟩:=my (keep _ _ hb);have hq:Q (mI (z1.cps.toList,i1) (z2.cps.toList,i2)) s:=hq;refine kat_lt g1 d1 g2 d2 ?_
 have ez:decide (is1.size<is2.size)=false:=by
  have x1:=congrArg List.length l1;have x2:=congrArg List.length l2;rw[Qo]at x1 x2;rw[x1,x2];rfl
 rw[ez,l1,l2];refine kat_cons (eqBool_str (kat_go (λe=>kat_yes ?_) (λe=>kat_no ?_)))
 ·have e:z1=z2:=by simpa using e
  subst e;refine kat_cons (wpAny_eqBool_int (kat_go (λe=>kat_yes (kat_nil ?_)) (λe=>kat_no ?_)))
  ·have e:i1=i2:=by simpa using e
   subst e;rw[rj]at hq;exact hq
  refine kat_one _ _ (lt_int ?_)
  have:mI (z1.cps.toList,i1) (z1.cps.toList,i2)=decide (i1<i2):=by
   rw[Bool.eq_iff_iff,eg,XB];exact⟨λh=>h.elim (λh=>absurd h (List.lt_irrefl _)) (·.2),λh=>.inr ⟨rfl,h⟩⟩
  rw[this]at hq;exact hq
 have e:¬z1=z2:=by simpa using e
 have ne:¬z1.cps.toList=z2.cps.toList:=λz=>e (by cases z1;cases z2;exact congrArg Str.mk (Array.toList_inj.mp z));refine oneLt_str ?_
 have:mI (z1.cps.toList,i1) (z2.cps.toList,i2)=decide (z1.cps.toList<z2.cps.toList):=by
  rw[Bool.eq_iff_iff,eg,XB];exact⟨λh=>h.elim id (λh=>absurd h.1 ne),λh=>.inl h⟩
 rw[this]at hq;exact hq
def lN (h:Heap) (bs:E4) (kf:Addr->Str × Int):Prop:=∀b∈bs,∃(o:Obj) (its:Array Value) (n:Nat) (t u:Tok),h.get? b=some o/\o.cls=.type "tuple" /\ o.data=.seq its n/\its.toList=[.str (kf b).1 t,.int (kf b).2 u]
variable {kf:Addr->Str × Int}
theorem uu {h:Heap} {bs:E4} (p:lN h bs kf) {b:Addr} (hb:b∈bs):mB h (.ref b)=some ((kf b).1.cps.toList,(kf b).2):=by
 obtain⟨o,its,n,t,u,g,_,d,l⟩:=p b hb;exact xM g d l
theorem qC {h:Heap} {kf:Addr->Str × Int}:∀{bs:E4},lN h bs kf->∃fs:List Value,fs.length=bs.length/\KatTups h (bs.map Value.ref) fs/\∀f∈fs,∃z t,f=.str z t
 | [],_=>⟨[],rfl,.nil,λf hf=>nomatch hf⟩
 | b::bs,p=>by
  obtain⟨fs,l,k,hf⟩:=qC (bs:=bs) λc hc=>p c (Qv _ hc);obtain⟨o,its,n,t,u,g,hc,d,li⟩:=p b (by simp);refine⟨.str (kf b).1 t::fs,by rw[QU,l,QU],.cons g hc d (by rw[<-Qy,li];rfl) k,λf h=>?_⟩;rcases QV.mp h with rfl|h
  ·exact⟨_,_,rfl⟩
  exact hf f h
theorem tH {h0 h:Heap} {a:Addr} {bs:E4} (k0:∀b o,h0.get? b=some o->h.get? b=some o) (p:lN h0 bs kf) (na:∀b o,h0.get? b=some o->b≠a):Can prog w (q_ h0) (tuples' true) h a (bs.map Value.ref) where
 key v hv:=by
  obtain⟨b,hb,rfl⟩:=Ql.mp hv;exact⟨((kf b).1.cps.toList,(kf b).2),uu p hb⟩
 lt A s ks:=wv λv k e=>by
  obtain⟨b,o,its,n,z,t,i,u,rfl,g,d,l,rfl⟩:=my e;exact xM (ks _ _ (na _ _ g) (k0 _ _ g)) d l
 kind h2 A E s Q ks hq:=by
  have p':lN s.heap bs kf:=λb hb=>by
   obtain⟨o,its,n,t,u,g,hc,d,l⟩:=p b hb;exact⟨o,its,n,t,u,ks _ _ (na _ _ g) (k0 _ _ g),hc,d,l⟩
  obtain⟨fs,l,kt,hf⟩:=qC p';rw[Qa]at h2;refine kat_kind (T:=.type "str") kt (by omega) (λf hf'=>?_) (by decide) hq;obtain⟨z,t,rfl⟩:=hf f hf';exact Looks.of_pure rfl
end
end Tm
namespace L2
open PySem PySem.Spec PyProof.Rows
section
variable {X:Cx}
theorem lc:∀(cs:E4),be (cs.map V.ref) (cs.map Value.ref)
 | []=>.nil
 | _::cs=>.cons rfl (lc cs)
theorem sr:∀{ys zs:List Value},ys.Perm zs->∀l:E4,zs=l.map Value.ref->∃l':E4,l'.Perm l/\ys=l'.map Value.ref:=by
 intro ys zs h
 induction h with
 | nil=>intro l e;cases l with
  | nil=>exact⟨[],.refl _,rfl⟩
  | cons a l=>cases e
 | cons x _ ih=>intro l e;cases l with
  | nil=>cases e
  | cons a l =>
   rw[QH]at e;cases e;obtain⟨l',h1,h2⟩:=ih l rfl;exact⟨a::l',h1.cons a,by rw[h2];rfl⟩
 | swap x y zs=>intro l e;match l,e with
  | a::b::l,e =>
   cases e;exact⟨b::a::l,.swap _ _ _,rfl⟩
 | trans _ _ ih1 ih2 =>
 intro l e;obtain⟨l2,h1,h2⟩:=ih2 l e;obtain⟨l3,h3,h4⟩:=ih1 l2 h2;exact⟨l3,h3.trans h1,h4⟩
end
end L2
namespace Tm
open PySem PyProof.Rows PySem.W
theorem qp {prog:Program} {w:World} {h:Heap} {a:Addr} {bs:E4} {kf:Addr->Str × Int} (p:lN h bs kf) (na:a=h.objs.size) (l:Obj):Can prog w (q_ h) (tuples' true) (h.push l) a (bs.map Value.ref) :=
 tH (λb o e=>Qc _ e) p λb o e=>by rw[na];exact QB (Qn e)
end Tm
namespace L2
open PySem PySem.Spec PyProof.Rows
section
variable {X:Cx}
def nt (a:Addr):Obj:={ cls:=.type "dict_items", data:=.fields #[.ref a] }
def tX (tl:TE):TE:=λU H Q=>tl U H λx H1=>∃a kvs,x=.ref a/\H1 a=some (.dK kvs)/\∀r,H1 r=none->Q (.ref r) (upd H1 r (c6 (nt a)))
theorem uA {l:Expr} {tl:TE} {apos pos:Pos} (hl:PE X l tl) (hbase:attributeBase l "items" X.env (eval l X.env)=eval l X.env:=by rfl) (hline:(apos.endLine==pos.line)=true:=by rfl):PE X (.Call (.Attribute l "items" apos) [] [] pos) (tX tl):=by
 intro pins s U H Q I h;refine wpAny_Call_method (T := "dict") (id := "dict.items") hbase rfl hline F.plainAttrs_dict F.slot_dict_items F.type_dict_items (thn (hl pins s U H _ I h) λv s1 ⟨x,H1,I1,r1,q1⟩=>?_);obtain⟨a,kvs,e,hz,q⟩:=q1;subst e;cases r1;obtain⟨z,hm,vs,rel,dd⟩:=rE I1.hok hz;refine⟨dd.typeIs,dd.mapOf.noDict,?_⟩;show wpAny _ _ (callWith pos (.builtin "dict.items") [.ref a] [] []) _ _ s1;refine method_meetsIn F.slot_dict_items F.entry_dict_items rfl (PySem.evalArgs_none ⟨rfl,dd.typeIs,F.args_dict_items_1 _,_,meets_dict_items (bp X.prog X.w) a hm,⟨vs,dd⟩,?_⟩);exact⟨.ref s1.heap.objs.size,_,I1.laid (t':=s1.toks) (o:=c6 (nt a)) (λb o e=>Qc _ e) (Qf _) (rR (Qu _ rfl)),rfl,q _ (I1.hok.fresh (Qf _))⟩
def iw (ps:List (Str × Int)):List (Key × V):=ps.map λp=>((Sum.inr p.1:Key),V.int p.2)
def yQ (K:PySem.W.Frag):List V->Hp->VK->Prop:=λxs H Q=>∃(r a:Addr) (ps:List (Str × Int)),xs=[.ref r]/\H r=some (c6 (nt a))/\H a=some (.dK (iw ps))/\ps.length<=100000/\ps≠[] /\
 ∀(p:Addr) (bs:E4) (kf:Addr->Str × Int) (H2:Hp),am H H2->H p=none->(bs.map kf).Perm ps->bs.Pairwise (λx y=>leT (kf x).1 (kf y).1)->(∀b∈bs,H2 b=some (.tup [.str (kf b).1,.int (kf b).2]))->H2 p=some (.lst (bs.map V.ref))->Q (.ref p) H2
theorem Inv.laidAll {pins:E2} {U:St} {H H':Hp} {s:Shared} {h':Heap} {t':Nat} (I:Inv X pins U H s) (k:∀b u,s.heap.get? b=some u->h'.get? b=some u) (old:∀b,b<s.heap.objs.size->H' b=H b) (new:∀b u,s.heap.objs.size<=b->H' b=some u->bn X.prog X.w H' h' b u) :
  Inv X pins U H' { s with heap:=h',toks:=t' }:=by
 have sm:∀b u,H b=some u->H' b=some u:=λb u e=>by rw[old b (I.hok.lt e)];exact e
 refine I.un ⟨λb u q _ _ _=>k b u q,λb u q _ _ _=>⟨u.slots,k b u q⟩,λb u q n _=>by rw[old b (Qn q)];exact n,λb u q _=>⟨u,k b u q⟩,λb xs q=>sm _ _ q,λb u xs q=>sm _ _ q,λb ps q=>⟨#[],by rw[sm _ _ q];simp⟩⟩ λb u e=>?_;by_cases c:b<s.heap.objs.size
 ·exact(I.hok b u (by rw[<-old b c];exact e)).stay (λc v _ q=>k c v q) (λ_ q=>sm _ _ q) λ_ _ q=>sm _ _ q
 exact new b u (Nat.le_of_not_lt c) e
theorem qt (hc:X.calm=true):cZ X (.builtin "sorted") (yQ X.K):=by
 intro pins s U H xs us Q I r h;obtain⟨rv,a,ps,rfl,hr,ha,hz,ne,q⟩:=h;obtain⟨u,rfl,ru⟩:=d6 r;cases ru;obtain⟨er,_⟩:=(show bn X.prog X.w H s.heap rv (c6 (nt a)) from I.hok rv _ hr);obtain⟨z,hm,vs,rel,dd⟩:=rE I.hok ha;obtain⟨ep,da⟩:=dd.dictAt;have lv:vs.length=ps.length:=by rw[<-KV.len rel];unfold iw;rw[Qa]
 refine Tm.hZ (s:=s) (κ:=Tm.q_) (kd:=tuples' true) (G:=λh' us=>∃(as:E4) (kf:Addr->Str × Int),us=as.map Value.ref/\as.map kf=ps/\Tm.lN h' as kf/\∀b∈as,s.heap.objs.size<=b)
  (λA E R hA hR=>PySem.W.kdx_collect (knd:=bp X.prog X.w) (kvs:=vs) (ep:=ep) hA ⟨_,er,rfl,rfl⟩ da (by rw[lv,sizeLine_eq];exact QZ hz (by decide)) λh' tk as k la g=>?_) (I.ok.hd hc) (λh' us D k g eD=>?_) λD h' tk us h1 out m k1 g1 k2 hle hD at' p1 p2=>?_
 ·have nd:as.Nodup:=g.rise.imp λh=>QB h;refine hR h' tk _ k ?_ ⟨as,λb=>ps.getD (as.idxOf b) ("", 0),rfl,?_,?_,λb hb=>Xx (g.above b hb)⟩
  ·obtain⟨b,hb⟩:∃b,b∈as:=List.exists_mem_of_length_pos (by rw[la,lv];exact List.length_pos_iff.mpr ne);exact Xx (Nat.lt_trans (g.above b hb) (g.there hb))
  ·refine List.ext_getElem? λi=>?_;rw[Qi];by_cases c:i<as.length
   ·rw[Qd c];show some (ps.getD (as.idxOf as[i]) ("", 0))=_;rw[nd.idxOf_getElem,QR,Qd (by omega)];rfl
   rw[Xv (by omega),Xv (by omega)];rfl
  intro b hb;obtain⟨j,hj,rfl⟩:=Qq.mp hb;obtain⟨key,kk,x,e1,e2,e3⟩:=g.pairs j _ (Qd hj);have hp:j<ps.length:=by omega
  obtain⟨u,e4,e5⟩:=KV.get (i:=j) (k:=Sum.inr (ps[j]).1) (v:=V.int (ps[j]).2) rel (by unfold iw;rw[Qi,Qd hp];rfl);rw[e1]at e4;cases e4;obtain⟨tu,rfl⟩:=e5;rcases bA (show iG (Sum.inr (ps[j]).1) key=true from e2) with⟨i,t,z,_⟩|⟨y,t,z,rfl⟩
  ·cases z
  cases z;dsimp only;rw[nd.idxOf_getElem,QR,Qd hp];exact⟨_,_,_,t,tu,e3,rfl,rfl,rfl⟩
 ·obtain⟨as,kf,rfl,e,p,_⟩:=g;have la:as.length=ps.length:=by rw[<-e,Qa]
  exact⟨by rw[Qa,la];exact hz,Tm.qp p eD _⟩
 obtain⟨as,kf,rfl,e,p,ab⟩:=g1;obtain⟨bs,pm,eo⟩:=sr p1 as rfl;have la:as.length=ps.length:=by rw[<-e,Qa]
 have lb:bs.length=ps.length:=pm.length_eq.trans la;have mem:∀{b},b∈bs->b∈as:=λhb=>pm.mem_iff.mp hb
 have neD:∀{b},b∈bs->b≠D:=λ{b} hb zz=>by
  obtain⟨o,_,_,_,_,g,_⟩:=p b (mem hb);exact absurd (Qn g) (by rw[zz];exact Nat.not_lt.mpr hD)
 let H2:Hp:=λb=>if b=D then some (.lst (bs.map V.ref)) else if b∈bs then some (.tup [.str (kf b).1,.int (kf b).2]) else H b;have h2D:H2 D=some (.lst (bs.map V.ref)):=QJ rfl;have h2b:∀b∈bs,H2 b=some (.tup [.str (kf b).1,.int (kf b).2]):=λb hb=>(QA (neD hb)).trans (QJ hb);have h2o:∀b,b<s.heap.objs.size->H2 b=H b:=λb hb=>(QA (QB (Qz hb hle))).trans (QA λzz=>absurd (ab b (mem zz)) (Nat.not_le.mpr hb));refine⟨.ref D,H2,I.laidAll (t':=tk) (λb o g=>k2 b o (k1 b o g)) h2o λb u hb e=>?_,rfl,q D bs kf H2 (λb u e=>by rw[h2o b (I.hok.lt e)];exact e) (I.hok.fresh hle) (by rw[<-e];exact pm.map _) ?_ h2b h2D⟩
 ·by_cases cD:b=D
  ·subst cD;rw[h2D]at e;cases e;exact⟨by rw[Qa,lb,sizeLine_eq];exact QZ hz (by decide),out.toList,m,by rw[eo];exact lc bs,at'⟩
  by_cases cb:b∈bs
  ·rw[h2b b cb]at e;cases e;obtain⟨o,its,n,t,u,g,hc',hd,l⟩:=p b (mem cb);exact⟨by simp[sizeLine_eq],its.toList,by rw[l];exact .cons ⟨t,rfl⟩ (.cons ⟨u,rfl⟩ .nil),o,k2 _ _ g,hc',n,by rw[hd]⟩
  have:H2 b=H b:=(QA cD).trans (QA cb);rw[this,I.hok.fresh hb]at e;cases e
 rw[eo,List.pairwise_map]at p2;refine p2.imp_of_mem λ{x y} hx hy h=>?_;have h:Tm.mI ((Tm.mB h1 (.ref y)).getD ([],0)) ((Tm.mB h1 (.ref x)).getD ([],0))=false:=h;rw[Tm.uu p (mem hx),Tm.uu p (mem hy)]at h;exact λz=>(Tm.mG.mp h) (.inl z)
end
section
variable {X:Cx}
def yS:List V->Hp->VK->Prop:=λxs H Q=>∃a kvs,xs=[.ref a]/\Rd H a (.dK kvs)/\∀l,H l=none->Q (.ref l) (upd H l (.lst (kvs.map λp=>kV p.1)))
theorem jY (hc:X.calm=true):cZ X (.type "list") yS:=by
 intro pins s U H xs us Q I r h;obtain⟨a,kvs,rfl,rd,q⟩:=h;obtain⟨u,rfl,ru⟩:=d6 r;cases ru;obtain⟨z,hm,vs,rel,dd⟩:=jQ I.hok rd;obtain⟨ep,da⟩:=dd.dictAt;have lv:=KV.len rel;refine PySem.W.kdl_call (PySem.W.kdl_dict (knd:=bp X.prog X.w) (kvs:=vs) (ep:=ep) hm) (I.ok.hd hc) da (by rw[<-lv];exact z) λh' tk acc c k at' it=>?_
 have rv:be (kvs.map λp=>kV p.1) acc.toList:=by
  refine paired_get (by rw[Qa,show acc.toList.length=acc.size from Qo,it.1,lv]) λj x y e1 e2=>?_;obtain⟨k',x',e3,e4⟩:=it.2 j y (by rw[<-Qy];exact e2);rw[Qi]at e1
  cases e5:kvs[j]? with
  | none=>rw[e5]at e1;cases e1
  | some p =>
  rw[e5]at e1;cases e1;obtain⟨u,hu,_⟩:=KV.get (i:=j) (k:=p.1) (v:=p.2) rel e5;rw[e3]at hu;cases hu;exact vj e4
 exact⟨.ref s.heap.objs.size,_,I.laid (o:=.lst (kvs.map λp=>kV p.1)) (t':=tk) k (Qf _) ⟨by rw[Qa];exact z,acc.toList,c,rv,at'⟩,rfl,q _ (I.hok.fresh (Qf _))⟩
end
end L2
namespace L2
open PySem PySem.Spec PyProof.Rows
open AutoSeq1 (wpAny_loadPart')
section
variable {A:Around} {s:Shared} {l:Addr}
end
section
variable {X:Cx}
end
end L2
namespace XE
open PySem
open Sem (wp)
structure XN (fs:E4) (e T:Addr) (oe:Obj) (h h':Heap):Prop where
 keep:∀b o,b≠e->b∉fs->h.get? b=some o->h'.get? b=some o
 slot:∀b o,b≠e->h.get? b=some o->∃sl,h'.get? b=some { o with slots:=sl }
 at_:h'.get? e=some (oe.mapFields (·.setIfInBounds 1 (.ref T)))
 new:h.get? T=none
abbrev tbO (head:Value) (L:Addr) (pc:List Value):Obj:={ cls:=.type "traceback", dict:=none,data:=.fields ([head,.ref L,.none,rawInt L,.none]++(if pc.isEmpty then List.replicate 6 Value.none else pc)).toArray }
section
variable {M:Model} {A:Around} {E:E1} {s:Shared}
variable {Q:Unit->Shared->Prop} {vs ts:Array Value} {oe oT o:Obj} {L e T:Addr} {outer:List Env} {env:Env}
theorem tP {base:Heap} {head:Value} {hadNext:Bool}
  (fr:A.frames=some (env::outer)) (ff:s.heap.FunFrames base (env::outer)) (fL:env.frame=some L)
  (ee:s.heap.get? e=some oe) (ed:oe.data=.fields vs) (sz:1<vs.size)
  (h:∀h' T oT ts,XN ((env::outer).filterMap (·.frame)) e T oe s.heap h'->h'.get? T=some oT->oT.data=.fields ts->ts[3]?=some (rawInt L)->T≠e->Q () { s with heap:=h' }) :
  wpAny M A (do let a <-frameOf env;let pc <-entryPlaceOf L hadNext;let b <-EntryCells.newEntry head a .none (rawInt L) .none pc;setField (.ref e) 1 b) Q E s:=by
 have nef:e∉(env::outer).filterMap (·.frame):=λmm=>by
  obtain⟨_,o,eo,nf⟩:=ff.mem mm;rw[ee]at eo;injection eo with eo;subst eo;exact nf vs ed
 refine Qb (wpAny_frameOf_fun fr ff fL λg1 so=>?_);refine Qb (wpAny_entryPlaceOf λpc pk=>?_);unfold EntryCells.newEntry newFields;refine Qb (wpAny_newObj_type ?_ (pk.sizeOk5 _ _ _ _ _));have x1:g1.get? e=some oe:=(so.2.1 e nef).trans ee;have x2:=Qc (h:=g1) (tbO head L pc) x1;refine wpAny_setField x2 ed sz ?_;have nTe:g1.objs.size≠e:=Nat.ne_of_gt (Qn x1);have x3:=Xk ed (·.setIfInBounds 1 (Value.ref g1.objs.size));have x4:=Xu (Obj.mapFields (·.setIfInBounds 1 (Value.ref g1.objs.size))) x2 (Obj.isFreed_of_fields x3)
 have x5:=(QC (g1.push (tbO head L pc))
  (Obj.mapFields (·.setIfInBounds 1 (Value.ref g1.objs.size))) (Xh nTe)).trans (Qu g1 rfl)
 have keep:∀b o,b≠e->g1.get? b=some o ->
   ((g1.push (tbO head L pc)).update e (Obj.mapFields (·.setIfInBounds 1 (Value.ref g1.objs.size)))).get? b=some o :=
  λb o nbe eb=>by
   rw[QC _ _ (Xh nbe)];exact Qc _ eb
 refine h _ g1.objs.size _ _ ⟨λb o nbe nbf eb=>keep b o nbe ((so.2.1 b nbf).trans eb),λb o nbe eb=>?_,x4,?_⟩ x5 rfl ?_ nTe
 ·obtain⟨sl,ez⟩:=so.2.2 b o eb;exact⟨sl,keep b _ nbe ez⟩
 ·exact Heap.get?_none_of_le (by first|exact Nat.le_of_eq so.1.symm|exact Nat.le_of_eq so.1|(rw[so.1];exact Qf _))
 first|(simp;done)|(rcases pk with rfl|⟨_,_,_,_,_,_,_,rfl⟩ <;> simp)
theorem lQ {f:Option Addr} (ee:s.heap.get? e=some oe) (ed:oe.data=.fields vs) (v1:vs[1]?=some (.ref T))
  (eT:s.heap.get? T=some oT) (dT:oT.data=.fields ts) (v3:3<ts.size)
  (h:Q () { s with heap:=s.heap.update T (Obj.mapFields (·.setIfInBounds 3 (f.elim Value.none λf=>rawInt f))) }):wpAny M A (setFlight (.ref e) f) Q E s:=by
 unfold setFlight;refine Qb (Q7 ee ed v1 ?_);rw[QJ (show (Value.ref T != Value.none)=true from by simp)];exact wpAny_setField eT dT v3 h
structure Tr (e T:Addr) (h:Heap):Prop where
 ex:∃oe vs oT ts,h.get? e=some oe/\oe.data=.fields vs/\vs[1]?=some (.ref T)/\h.get? T=some oT/\oT.data=.fields ts/\ts[3]?=some .none
 ne:T≠e
structure XL (fs:E4) (e:Addr) (Ts:E4) (h h':Heap):Prop where
 keep:∀b o,b≠e->b∉Ts->b∉fs->h.get? b=some o->h'.get? b=some o
 slot:∀b o,b≠e->b∉Ts->h.get? b=some o->∃sl,h'.get? b=some { o with slots:=sl }
 at_:∀oe,h.get? e=some oe->∃oe',h'.get? e=some oe'/\oe'.cls=oe.cls/\oe'.dict=oe.dict
theorem fV {f:Array Value->Array Value}:(o.mapFields f).cls=o.cls/\(o.mapFields f).dict=o.dict:=by
 obtain⟨c,d,dt,sl⟩:=o;cases dt <;> exact⟨rfl,rfl⟩
theorem yD {base:Heap}
  (fr:A.frames=some (env::outer)) (ff:s.heap.FunFrames base (env::outer)) (fL:env.frame=some L)
  (ee:s.heap.get? e=some oe) (ed:oe.data=.fields vs) (v1:vs[1]?=some .none)
  (h:∀h' T,XL ((env::outer).filterMap (·.frame)) e [] s.heap h'->Tr e T h'->s.heap.get? T=none->Q () { s with heap:=h' }):wpAny M A (leaving env (.ref e)) Q E s:=by
 unfold leaving noteFrame;simp only[fL];refine Qb (Qb (Q7 ee ed v1 ?_));rw[QA (by decide)];have sz:=(QF.mp v1).1;refine tP fr ff fL ee ed sz λh' T oT ts x eT dT v3 hne=>?_;have x3:=Xk ed (·.setIfInBounds 1 (Value.ref T));have v3':=(QF.mp v3).1;refine lQ (s:={ s with heap:=h' }) x.at_ x3 (by simp[sz]) eT dT v3' ?_;have ne:∀b o,s.heap.get? b=some o->T≠b:=λb o q z=>by rw[<-z,x.new]at q;cases q
 refine h _ T ⟨λb o eb _ fL q=>?_,λb o eb _ q=>?_,λoe' q=>?_⟩ ⟨⟨_,_,_,_,?_,x3,by simp[sz],Xu _ eT (Obj.isFreed_of_fields (Xk dT _)),Xk dT _,by simp[v3']⟩,hne⟩ x.new
 ·exact(QC _ _ (ne b o q)).trans (x.keep b o eb fL q)
 ·obtain⟨sl,z⟩:=x.slot b o eb q;exact⟨sl,(QC _ _ (ne b o q)).trans z⟩
 ·rw[ee]at q;cases q;exact⟨_,(QC _ _ hne).trans x.at_,fV.1,fV.2⟩
 exact(QC _ _ hne).trans x.at_
theorem xk {base:Heap}
  (fr:A.frames=some (env::outer)) (ff:s.heap.FunFrames base (env::outer)) (fL:env.frame=some L) (t:Tr e T s.heap)
  (h:∀h' T',XL ((env::outer).filterMap (·.frame)) e [T] s.heap h'->Tr e T' h'->s.heap.get? T'=none->Q () { s with heap:=h' }) :
  wpAny M A (noteFrame (.ref e) env) (λ_ s₂=>wpAny M A (setFlight (.ref e) none) Q E s₂) E s:=by
 obtain⟨⟨oe,vs,oT,ts,ee,ed,v1,eT,dT,v3⟩,nTe⟩:=t;unfold noteFrame;simp only[fL];refine Qb (Q7 ee ed v1 ?_);rw[QJ (show (Value.ref T != Value.none)=true from by simp)];refine Qb (Q7 eT dT v3 ?_);rw[QA (show ¬((Value.none==rawInt L)=true) from by simp[rawInt])];refine Qb (wpAny_setField eT dT (QF.mp v3).1 ?_);have sz:=(QF.mp v1).1;have els:∀b,b≠T->(s.heap.update T (Obj.mapFields (·.setIfInBounds 3 Value.none))).get? b=s.heap.get? b:=λb eb=>QC _ _ (Xh eb)
 have norec:∀b o,s.heap.get? b=some o->(∀vs,o.data≠.fields vs)->b≠T:=λb o eb nf q=>by
  rw[q,eT]at eb;injection eb with eb;subst eb;exact nf ts dT
 refine tP (ff:=ff.of_keeps λb o eb nf=>⟨o,(els b (norec b o eb nf)).trans eb,rfl⟩) fr (fL:=fL) (ee:=(els e (Xh nTe)).trans ee) ed sz λh' T' oT' ts' x eT' dT' v3' hne=>?_;have x3:=Xk ed (·.setIfInBounds 1 (Value.ref T'));have v3'':=(QF.mp v3').1
 have nT:T≠T':=λz=>by
  have q:=x.new;rw[<-z,Xu _ eT (Obj.isFreed_of_fields (Xk dT _))]at q;cases q
 have new:s.heap.get? T'=none:=by
  have q:=x.new
  change (s.heap.update T (Obj.mapFields (·.setIfInBounds 3 Value.none))).get? T'=none at q
  rwa [els T' (Xh nT)]at q
 refine lQ (s:={ s with heap:=h' }) x.at_ x3 (by simp[sz]) eT' dT' v3'' ?_;have ne:∀b o,s.heap.get? b=some o->T'≠b:=λb o q z=>by rw[<-z,new]at q;cases q
 refine h _ T' ⟨λb o eb ht fL q=>?_,λb o eb ht q=>?_,λoe' q=>?_⟩ ⟨⟨_,_,_,_,?_,x3,by simp[sz],Xu _ eT' (Obj.isFreed_of_fields (Xk dT' _)),Xk dT' _,by simp[v3'']⟩,hne⟩ new
 ·exact(QC _ _ (ne b o q)).trans (x.keep b o eb fL ((els b (λz=>ht (by simp[z]))).trans q))
 ·obtain⟨sl,z⟩:=x.slot b o eb ((els b (λz=>ht (by simp[z]))).trans q);exact⟨sl,(QC _ _ (ne b o q)).trans z⟩
 ·rw[ee]at q;cases q;exact⟨_,(QC _ _ hne).trans x.at_,fV.1,fV.2⟩
 exact(QC _ _ hne).trans x.at_
theorem rW {base:Heap}
  (fr:A.frames=some (env::outer)) (ff:s.heap.FunFrames base (env::outer)) (fL:env.frame=some L) (t:Tr e T s.heap)
  (h:∀h' T',XL ((env::outer).filterMap (·.frame)) e [T] s.heap h'->Tr e T' h'->s.heap.get? T'=none->Q () { s with heap:=h' }):wpAny M A (leaving env (.ref e)) Q E s:=by
 unfold leaving;exact Qb (xk fr ff fL t h)
theorem yF {fs:E4} (t:Tr e T s.heap) (h:∀h',XL fs e [T] s.heap h'->Tr e T h'->Q () { s with heap:=h' }):wpAny M A (setFlight (.ref e) none) Q E s:=by
 obtain⟨⟨oe,vs,oT,ts,ee,ed,v1,eT,dT,v3⟩,nTe⟩:=t;have v3':=(QF.mp v3).1;have els:∀b,b≠T->(s.heap.update T (Obj.mapFields (·.setIfInBounds 3 ((none:Option Addr).elim Value.none λf=>rawInt f)))).get? b=s.heap.get? b:=λb eb=>QC _ _ (Xh eb);refine lQ ee ed v1 eT dT v3' (h _ ⟨λb o _ ht _ q=>(els b (λz=>ht (by simp[z]))).trans q,λb o _ ht q=>⟨o.slots,(els b (λz=>ht (by simp[z]))).trans q⟩,λoe' q=>⟨oe',(els e (Xh nTe)).trans q,rfl,rfl⟩⟩ ⟨⟨oe,vs,_,_,(els e (Xh nTe)).trans ee,ed,v1,Xu _ eT (Obj.isFreed_of_fields (Xk dT _)),Xk dT _,by simp[v3']⟩,nTe⟩)
end
end XE
namespace XE
open PySem
abbrev Lk {α:Type} (M:Model) (g:Heap) (t:Sem α) (r:α):Prop:=∀(A:Around) (Q:α->Shared->Prop) (E:E1) (s:Shared),(∀b o,g.get? b=some o->s.heap.get? b=some o)->Q r s->wpAny M A t Q E s
abbrev pN (us:List Value):Obj:={ cls:=.type "tuple", data:=.seq us.toArray }
abbrev jz (C p:Addr):Obj:={ cls:=.ref C,data:=.fields #[.ref p,.none,.none,.none,.bool false,.none] }
structure XC (g:Heap) (C:Addr) (B new:String) (up top:List Value):Prop where
 obj:∃nm q N bs hd sn sub ab col dd a0 a1 a2 a3 a5,g.get? C=some (excClassObj nm q C N bs up hd sn sub ab col dd a0 a1 a2 a3 a5 new)
 tail:OwnTail g top up
theorem XC.keeps {g g':Heap} {C:Addr} {B new:String} {up top:List Value} (x:XC g C B new up top) (k:∀b o,g.get? b=some o->g'.get? b=some o):XC g' C B new up top:=by
 obtain⟨a1,a2,a3,a4,a5,a6,a7,a8,a9,a10,a11,a12,a13,a14,a15,e⟩:=x.obj;exact⟨⟨a1,a2,a3,a4,a5,a6,a7,a8,a9,a10,a11,a12,a13,a14,a15,k _ _ e⟩,x.tail.keeps k⟩
section
variable {P:Program} {w:World} {A:Around} {E:E1} {g:Heap} {gs:Array GenState} {dr:Drawn} {tk:Nat} {os:OsState} {C:Addr} {B new init:String} {up top:List Value}
abbrev made (g:Heap) (C:Addr) (us:List Value):Heap:=(g.push (pN us)).push (jz C g.objs.size)
theorem gS {b:Addr} {o:Obj} {us:List Value} (e:g.get? b=some o):(made g C us).get? b=some o:=Qc _ (Qc _ e)
theorem u9 {us:List Value}:(made g C us).get? (g.objs.size+1)=some (jz C g.objs.size):=by
 have e:=Qu (g.push (pN us)) (o:=jz C g.objs.size) rfl;rwa [Heap.size_push]at e
theorem Aj (F:ExcBaseFacts B new init top) (x:XC g C B new up top) {e p:Addr} {ob:Obj} {us:List Value} {Q:E1} (e1:g.get? e=some ob) (e2:ob.cls=.ref C)
  (e3:ob.data=.fields #[.ref p,.none,.none,.none,.bool false,.none]) (few:us.length<=sizeLine)
  (k:∀g',(∀b o,b≠e->g.get? b=some o->g'.get? b=some o)->g'.get? e=some { ob with data:=.fields #[.ref g.objs.size,.none,.none,.none,.bool false,.none] }->Q .none ⟨g',gs,dr,tk,os⟩) :
  wpAny (model P w) A (call (.builtin init) (.ref e::us)) Q E ⟨g,gs,dr,tk,os⟩:=by
 obtain⟨⟨nm,q,N,bs,hd,sn,sub,ab,col,dd,a0,a1,a2,a3,a5,eC⟩,T⟩:=x;refine wpAny_call (codeAny_call_builtin F.init.plain F.initEntry (wpAny_check_init_subT F T eC e1 e2 ?_));have e4:=Qc (pN us) e1;obtain⟨oc,od,odt,osl⟩:=ob;dsimp only at e2 e3;subst e2 e3
 wp_walk
 refine k _ (λb o ne z=>(QC _ _ (Xh ne)).trans (Qc _ z)) ?_;rw[Xu _ e4 rfl];rfl
theorem yA {M:Model} {env:Env} {s:Shared} {t:Sem Value} {Q:Flow->Shared->Prop} (hb:top.contains (.type "BaseException")=true) (hh:A.handled=none)
  (k:wpAny M A t (λv s1=>∃e ob p,v=.ref e/\XC s1.heap C B new up top/\s1.heap.get? e=some ob/\ob.cls=.ref C/\ob.data=.fields #[.ref p,.none,.none,.none,.bool false,.none]/\E (.ref e) s1) E s) :
  wpAny M A (raiseStmt env (some t) none) Q E s:=by
 unfold raiseStmt;refine Qb (Q8 k (λv s1 z=>?_) λ_ _ z=>z);obtain⟨e,ob,p,e0,⟨⟨nm,q,N,bs,hd,sn,sub,ab,col,dd,a0,a1,a2,a3,a5,eC⟩,T⟩,e1,e2,e3,z⟩:=z;subst e0;have base:(Value.ref C::up).contains (.type "BaseException")=true:=by rw[List.contains_cons,T.hasType hb];rfl
 obtain⟨h1,g1,d1,t1,o1⟩:=s1;obtain⟨oc,od,odt,osl⟩:=ob;dsimp only at e2 e3;subst e2 e3
 repeat (first|with_reducible refine wpAny_loadPart_at e1 ?_|(with_reducible refine wpAny_isSubtype_exc eC ?_;rw[base])|wp_step)
 exact wpAny_raiseNew_none hh z
end
end XE
set_option maxHeartbeats 1000000
namespace XE
open PySem PySem.W PySem.Calls PyProof.Rows Builtin Builtin.ObjectAttr
abbrev ku:List Value:=[.type "ValueError", .type "Exception", .type "BaseException", .type "object"]
structure XKl (K:Frag) (C NE:Addr):Prop where
 mr:((clsIn K C).any λcd=>cd.mro==.ref C::.ref NE::ku)=true
 ga:findIn K (.ref C) "__getattribute__" = some (some (.builtin "BaseException.__getattribute__"))
 gh:findIn K (.ref C) "__getattr__" = some none
 sb:subIn K (.ref C) (.type "BaseException")=some true
 hd:hasDictIn K C=true
 cl:findIn K (.ref C) "__class__" = some (some (.builtin "object.__class__"))
 cg:specialIn K (.builtin "object.__class__") "__get__" = some (some (.builtin "getset_descriptor.__get__"))
 ct:takesIn K (.builtin "object.__class__")=some true
 ob:mroIn K C (.type "object")=some true
 sa:findIn K (.ref C) "__setattr__" = some (some (.builtin "object.__setattr__"))
theorem bga:Slot "ValueError" "__getattribute__" "BaseException.__getattribute__" :=
 .of (owner := "BaseException") (n := "__getattribute__") (by rw[typeLookup_type,builtinLookup_eq_fast];kernel_rfl) (by decide +kernel) (by decide +kernel) (by decide +kernel) (by first|exact .inl (by decide +kernel)|exact .inr (by decide +kernel)) (by rw[isSubtype_type];kernel_rfl)
theorem Dy:builtinKind "BaseException.__getattribute__" = some .slot:=by decide +kernel
theorem Dw:splitId "BaseException.__getattribute__" = some ("BaseException", "__getattribute__"):=by decide +kernel
theorem Dx:(Value.builtin "BaseException.__getattribute__" == Value.builtin "object.__getattribute__")=false:=by decide +kernel
section
variable {P:Program} {w:World} {A:Around} {E:E1} {R:Result->Shared->Prop} {s:Shared} {K:Frag} {x C NE:Addr} {ox:Obj} {od:Option Obj} {name:Str}
theorem xby {tk:Tok} {fill expr:Bool} {Q:E1} (X:K.In s.heap) (I:InstAt s.heap x ox C od) (k:XKl K C NE)
  (h:wpAny (model P w) A.in1 (Builtin.«object.__getattribute__» ⟨[.ref x,.str name tk],[]⟩) (λfin s'=>match fin with|.done (.ret v)=>wpAny (model P w) A (handedOut v) Q E s'|_=>False) (λ_ _=>False) s) :
  wpAny (model P w) A (getAttrBy (.ref x) (.str name tk) fill expr) Q E s:=by
 have hx:(expr&&onTheHeap (Value.builtin "BaseException.__getattribute__"))=false:=by cases expr <;> rfl
 unfold getAttrBy;refine Q3 (Qb (I.type.here (Qb ((looks_findIn X k.ga).here ?_))));dsimp only;rw[Dx,Bool.and_false,QA (by decide)];unfold getAttrByItsOwn;refine Qb ((looks_hook (mc:=.ref C) X (r:=none) (by rw[QJ (show onTheHeap (Value.ref C)=true from rfl)];exact k.gh)).here (Qb (wpAny_attempt (Q3 ?_))));unfold callGetattribute;rw[hx,QA (by decide)];unfold boundAndCalled;rw[bga.bind];refine Qb (Qm ?_);show wpAny _ _ (call (.builtin "BaseException.__getattribute__") [.ref x,.str name tk]) _ _ _;refine wpAny_call ?_;refine codeAny_call_builtin bga.plain F.entry_bexc_ga ?_;refine @check_slot (model P w) _ _ s "BaseException.__getattribute__" "BaseException" "__getattribute__" (.ref x) [.str name tk] [] _ Dy Dw (I.type.andThen (looks_subIn X k.sb)) (F.args_bexc_ga (.ref x) (.str name tk)) ?_;refine Q8 h (λfin s' z=>?_) λ_ _ z=>z.elim;rcases fin with(_|_|_|_)|_ <;> first|exact z|exact z.elim
end
end XE
namespace L2
open PySem PySem.Spec PyProof.Rows PySem.Calls
def XOk (e C:Addr) (d:Option Addr) (fresh:Bool) (h:Heap):Prop:=∃o vs,h.get? e=some o/\o.cls=.ref C/\o.dict=d/\o.data=.fields vs/\(fresh=true->∃t,vs=#[.ref t,.none,.none,.none,.bool false,.none])
abbrev XO (e C:Addr) (d:Option Addr) (fresh:Bool):HO:=.ext (XOk e C d fresh)
section
variable {P:Program} {w:World} {H H1 H2:Hp} {h h1 h2:Heap} {a e C L:Addr} {d:Option Addr} {b:Bool} {o u:HO} {fs Ts:E4}
theorem qx (x:XOk e C d b h):bn P w H h e (XO e C d b):=by
 obtain⟨o,vs,h1,r⟩:=id x;exact⟨x,⟨o,h1⟩,λg1 g2 ⟨o,vs,q,r⟩ k=>⟨o,vs,k o q,r⟩⟩
theorem bn.there (x:bn P w H h a o):∃u,h.get? a=some u:=by
 induction o with
 | lst xs=>obtain⟨_,_,_,_,e⟩:=x;exact⟨_,e⟩
 | tup xs=>obtain⟨_,_,_,_,e,_⟩:=x;exact⟨_,e⟩
 | dK kvs=>obtain⟨_,_,_,_,o,_,_,e,_⟩:=x;exact⟨_,e⟩
 | dT kvs=>obtain⟨_,_,_,_,o,_,_,e,_⟩:=x;exact⟨_,e⟩
 | set S n=>obtain⟨o,_,_,_,e,_⟩:=x;exact⟨_,e⟩
 | ins C dx fs=>obtain⟨_,_,_,e,_⟩:=x;exact⟨_,e⟩
 | own y=>obtain⟨_,e⟩:=x;exact⟨_,e⟩
 | xd fs=>obtain⟨_,⟨_,_,_,e,_⟩,_⟩:=x;exact⟨_,e⟩
 | rng lo hi=>obtain⟨_,_,_,e⟩:=x;exact⟨_,e⟩
 | frz ob u ih=>obtain⟨e,_⟩:=x;exact⟨_,e⟩
 | tbl ps=>exact⟨_,(show h.get? a=some _ from x)⟩
 | met f y=>exact⟨_,(show h.get? a=some _ from x)⟩
 | ext φ=>obtain⟨_,e,_⟩:=x;exact e
theorem HOk.nothere (x:HOk P w H h) (n:h.get? a=none):H a=none:=by
 cases q:H a with
 | none=>rfl
 | some u=>obtain⟨v,z⟩:=(x a u q).there;rw[n]at z;cases z
variable {ψ φ:Heap->Prop}
theorem Un.exc (x:Un fs [] H H1 h h1) (he:H1 e=some (.ext φ)) (he2:H2 e=some (.ext ψ)) (els:∀b,b≠e->H2 b=H1 b) (y:XE.XL (L::fs) e Ts h1 h2) (hL:h.get? L=none) (hT:∀T∈Ts,h.get? T=none):Un fs [] H H2 h h2:=by
 have ne:∀b ob,h.get? b=some ob->H b=none->b≠e:=λb ob q n z=>by
  have:=x.free b ob q n (by simp);rw[z,he]at this;cases this
 have nT:∀b ob,h.get? b=some ob->b∉Ts:=λb ob q z=>by rw[hT b z]at q;cases q
 have nL:∀b ob,h.get? b=some ob->b≠L:=λb ob q z=>by rw[z,hL]at q;cases q
 refine⟨λb ob q n hb _=>?_,λb ob q n hb _=>?_,λb ob q n _=>?_,λb ob q _=>?_,λb xs q=>?_,λb ob u q=>?_,λb ps q=>?_⟩
 ·exact y.keep b ob (ne b ob q n) (nT b ob q) (λz=>(QV.mp z).elim (nL b ob q) hb) (x.keep b ob q n hb (by simp))
 ·obtain⟨sl,z⟩:=x.slot b ob q n hb (by simp);obtain⟨sl2,z2⟩:=y.slot b _ (ne b ob q n) (nT b ob q) z;exact⟨sl2,z2⟩
 ·rw[els b (ne b ob q n)];exact x.free b ob q n (by simp)
 ·obtain⟨o',z⟩:=x.there b ob q (by simp);by_cases hb:b=e
  ·subst hb;obtain⟨oe,z2,_⟩:=y.at_ o' z;exact⟨oe,z2⟩
  obtain⟨sl,z2⟩:=y.slot b o' hb (nT b ob q) z;exact⟨_,z2⟩
 ·have z:=x.tups b xs q;rw[els b (jD z he (by intro k;cases k))];exact z
 ·have z:=x.frzs b ob u q;rw[els b (jD z he (by intro k;cases k))];exact z
 obtain⟨m,z⟩:=x.tbls b ps q;exact⟨m,by rw[els b (jD z he (by intro k;cases k))];exact z⟩
theorem HOk.exc (x:HOk P w H1 h1) (he:H1 e=some (.ext φ)) (he2:H2 e=some (.ext ψ)) (new:bn P w H2 h2 e (.ext ψ)) (els:∀b,b≠e->H2 b=H1 b) (y:XE.XL fs e Ts h1 h2) (hf:∀b∈fs,H1 b=none) (hT:∀T∈Ts,H1 T=none):HOk P w H2 h2:=λb u q=>by
 by_cases hb:b=e
 ·subst hb;rw[he2]at q;cases q;exact new
 rw[els b hb]at q
 have trk:∀c v ob,c≠e->H1 c=some v->h1.get? c=some ob->h2.get? c=some ob:=λc v ob hc z k =>
  y.keep c ob hc (λi=>by rw[hT c i]at z;cases z) (λi=>by rw[hf c i]at z;cases z) k
 refine(x b u q).stay (λc ob hc k=>?_) (λc z=>?_) λc xs z=>?_
 ·rcases hc with z|z
  ·subst z;exact trk c u ob hb q k
  exact trk c _ ob (jD z he (by intro k;cases k)) z k
 ·rw[els c (jD z he (by intro k;cases k))];exact z
 rw[els c (jD z he (by intro k;cases k))];exact z
theorem oX (x:XOk e C d b h1) (y:XE.XL fs e Ts h1 h2) (t:∃T,XE.Tr e T h2):XOk e C d false h2:=by
 obtain⟨o,vs,h1,c1,c2,_⟩:=x;obtain⟨oe,z,e1,e2⟩:=y.at_ o h1;obtain⟨T,⟨oe',vs',_,_,z',dd,_⟩,_⟩:=t;rw[z]at z';cases z';exact⟨oe,vs',z,e1.trans c1,e2.trans c2,dd,λk=>by cases k⟩
end
noncomputable def CX1 (P:Program) (w:World):CXT:=λouter H s E ev s'=>∃(e C T:Addr) (d:Option Addr) (H':Hp),ev=.ref e/\s'.os=s.os/\AllBare s'.gens/\Un (frs outer) [] H H' s.heap s'.heap/\HOk P w H' s'.heap /\
 H' e=some (XO e C d false)/\s.heap.get? T=none/\H' T=none/\XE.Tr e T s'.heap/\E (.ref C) (some e) H'
theorem yu {base h h':Heap}:∀{l:List Env},h.FunFrames base l->(∀b∈frs l,∀o,h.get? b=some o->∃sl,h'.get? b=some { o with slots:=sl })->h'.FunFrames base l
 | [],_,_=>trivial
 | env::r,⟨hk,⟨L,o,hf,hn,ho,hd⟩,hr⟩,k=>by
  have hL:L∈frs (env::r):=by unfold frs;rw[List.filterMap_cons,hf];exact Xi
  obtain⟨sl,e⟩:=k L hL o ho;exact⟨hk,⟨L,_,hf,hn,e,hd⟩,yu hr λb hb=>k b (by unfold frs;rw[List.filterMap_cons,hf];exact Qv _ hb)⟩
section
variable {P:Program} {w:World} {K:PySem.W.Frag} {mg:E3} {base:Heap} {N:List Str} {qual:Str} {scope:Scope} {f:Addr} {cd:Value} {A:Around} {outer:List Env} {s s1:Shared} {H H1:Hp} {E:XK} {pins:E2} {U:St} {e C:Addr} {d:Option Addr}
theorem rX (I:Inv (cxOf (CX1 P w) P w K mg base N qual scope f cd A outer s H E) pins U H1 s1) (he:H1 e=some (XO e C d true)) (hE:E (.ref C) (some e) (upd H1 e (XO e C d false))) :
  (cxOf (CX1 P w) P w K mg base N qual scope f cd A outer s H E).xe (.ref e) s1:=by
 have xo:XOk e C d true s1.heap:=(I.hok e _ he).1;obtain⟨o,vs,g1,g2,g3,g4,g5⟩:=id xo;obtain⟨t,rfl⟩:=g5 rfl;refine XE.yD (base:=base) I.ok.frames I.stack rfl g1 g4 rfl λh' T xl tr new=>?_;have hT1:H1 T=none:=I.hok.nothere new;have nTe:T≠e:=tr.ne;have hL:s.heap.get? s.heap.objs.size=none:=Heap.get?_none_of_le (Qf _);have els:∀b,b≠e->upd H1 e (XO e C d false) b=H1 b:=λb hb=>aj hb;refine⟨e,C,T,d,upd H1 e (XO e C d false),rfl,I.os,I.bare,Un.exc (L:=s.heap.objs.size) (Ts:=[]) I.base he af els xl hL (by simp),?_,af,?_,by rw[aj nTe];exact hT1,tr,hE⟩
 ·exact HOk.exc (Ts:=[]) I.hok he af (qx (oX xo xl ⟨T,tr⟩)) els xl (λb hb=>I.stkFree b hb) (by simp)
 cases q:s.heap.get? T with
 | none=>rfl
 | some ob =>
 obtain⟨o',z⟩:=I.base.there T ob q (λz=>absurd (show T∈([]:E4) from z) (by simp));rw[new]at z;cases z
end
section
variable {X:Cx} {pins:E2} {U:St} {H:Hp} {s:Shared}
abbrev Cx.marked (X:Cx) (e:Addr):Cx:={ X with A:=X.A.mark (some (.ref e)),calm:=false,xe:=λ_ _=>False }
theorem Inv.mark (I:Inv X pins U H s) (e:Addr):Inv (X.marked e) pins U H s :=
 ⟨⟨I.ok.mod,I.ok.kind,I.ok.glob,I.ok.blt,I.ok.above,I.ok.inj,I.ok.has,I.ok.cab,(λz=>by cases z),I.ok.frames,I.ok.stk,I.ok.exf,I.ok.bs,I.ok.bsz,I.ok.noex,I.ok.exfs,I.ok.funs,I.ok.frf⟩,I.os,I.bare,I.base,I.loc,I.cell,I.free,I.freeC,I.pin,I.hok,I.len⟩
theorem Inv.unmark {e:Addr} (I:Inv (X.marked e) pins U H s) (hd:X.calm=true->X.A.handled=none):Inv X pins U H s :=
 ⟨⟨I.ok.mod,I.ok.kind,I.ok.glob,I.ok.blt,I.ok.above,I.ok.inj,I.ok.has,I.ok.cab,hd,I.ok.frames,I.ok.stk,I.ok.exf,I.ok.bs,I.ok.bsz,I.ok.noex,I.ok.exfs,I.ok.funs,I.ok.frf⟩,I.os,I.bare,I.base,I.loc,I.cell,I.free,I.freeC,I.pin,I.hok,I.len⟩
theorem wV {M:Model} {A:Around} {E:E1} {i:Nat} {x:Str} {pos:Pos} {Q:Unit->Shared->Prop} (I:Inv X pins U H s) (hN:X.N.Nodup) (hi:X.N[i]?=some x) (hk:X.env.kindOf x=some .local)
  (h:∀s',Inv X pins (U.set i none) H s'->Q () s'):wpAny M A (do bindName X.env x .none;unbindBehindTheSuite X.env x pos) Q E s:=by
 obtain⟨m,hn,hl⟩:=id I.loc;have hcls:(X.env.scope.kind==.class || (X.env.scope.kind==.module&&X.env.locals != X.env.globals))=false:=by rw[I.ok.kind];rfl
 have hiσ:i<U.length:=by rw[I.len];exact(Qe.mp hi).1
 refine wpAny_nameGoes_keeps hk hn hcls λh' v hn' hs=>?_;obtain⟨oL,_,_,hoL,_⟩:=id hn;have neL:∀b o,X.s₀.heap.get? b=some o->b≠X.env.locals:=λb o e=>QB (Qz (Qn e) I.ok.above);refine h { s with heap:=h',toks:=s.toks+1 } ⟨I.ok,I.os,I.bare,⟨λb o e n hb hx=>(hs.2 b (neL b o e)).trans (I.base.keep b o e n hb hx),λb o e n hb hx=>?_,I.base.free,λb o e hx=>?_,I.base.tups,I.base.frzs,I.base.tbls⟩,⟨_,hn',λj y v' e1 e2 e3=>?_⟩,λy c e=>?_,I.free,I.freeC,λp hp=>?_,λb ob e=>?_,by simpa using I.len⟩
 ·obtain⟨sl,e1⟩:=I.base.slot b o e n hb hx;exact⟨sl,(hs.2 b (neL b o e)).trans e1⟩
 ·obtain⟨o',e1⟩:=I.base.there b o e hx;exact⟨o',(hs.2 b (neL b o e)).trans e1⟩
 ·have hj:j≠i:=λz=>by
   subst z;rw[List.getElem?_set_self hiσ]at e2;cases e2
  rw[List.getElem?_set_ne (Xh hj)]at e2;obtain⟨u',r',q⟩:=hl j y v' e1 e2 e3;refine⟨u',r',?_⟩;rcases q with⟨k,z⟩|⟨k,c,z,z2⟩
  ·have ny:y≠x:=λz=>hj (jy hN e1 (z▸hi));exact .inl ⟨k,by show (if y=x then v else m y)=some u';rw[QA ny];exact z⟩
  exact .inr ⟨k,c,z,z2.sameBut hs (I.cne y c z)⟩
 ·obtain⟨w',z⟩:=I.cell y c e;exact⟨w',z.sameBut hs (I.cne y c e)⟩
 ·obtain⟨e,n,ne,nf,dd⟩:=I.pin p hp;exact⟨(hs.2 p.1 ne).trans e,n,ne,nf,dd⟩
 refine(I.hok b ob e).stay (λc w' hc q=>(hs.2 c ?_).trans q) (λ_ q=>q) λ_ _ q=>q;intro z;subst z;rcases hc with z|z
 ·rw[<-z,I.free]at e;cases e
 rw[I.free]at z;cases z
end
def yI (C:Addr) (te:TE) (R:Addr->Option Addr->Hp->Prop):TS:=λ_ U H=>te U H λv H1=>∃e d,v=.ref e/\H1 e=some (XO e C d true)/\R e d H1
section
variable {X:Cx}
structure XMk (K:PySem.W.Frag) (C NE:Addr):Prop where
 xc:∀h:Heap,K.In h->XE.XC h C "ValueError" "ValueError.__new__" (.ref NE::XE.ku) XE.ku
 kp:PySem.W.keepIn K (.ref C)=true
 kl:XE.XKl K C NE
theorem uk {ex:Expr} {te:TE} {R:Addr->Option Addr->Hp->Prop} {pos:Pos} {C NE:Addr} (M:XMk X.K C NE) (hc:X.calm=true) (he:PE X ex te)
  (hx:∀pins U H s e d,Inv X pins U H s->H e=some (XO e C d true)->R e d H->X.xe (.ref e) s) :
  PS X (.Raise (some ex) none pos) (yI C te R):=by
 intro pins s U H D I h;rw[arm_exec_Raise];refine Qb (wpAny_standAt (XE.yA (C:=C) (B := "ValueError") (new := "ValueError.__new__") (up:=.ref NE::XE.ku) (top:=XE.ku) (by decide +kernel) (I.ok.hd hc) ?_));refine Qb (thn (he pins s U H _ I h) λv s1 z=>Qb (wpAny_standAt (Qm ?_)));obtain⟨x,H1,I1,rx,e,d,ex,eo,r⟩:=z;subst ex;cases (show v=Value.ref e from rx);have xo:XOk e C d true s1.heap:=(I1.hok e _ eo).1;obtain⟨o,vs,g1,g2,g3,g4,g5⟩:=xo;obtain⟨t,rfl⟩:=g5 rfl;exact⟨e,o,t,rfl,M.xc _ I1.kIn,g1,g2,g4,hx pins U H1 s1 e d I1 eo r⟩
end
section
variable {X:Cx}
variable {pins:E2}
theorem vD {U:St} {H H1:Hp} {s s1:Shared} {e C T T2:Addr} {d:Option Addr} {h2:Heap} {Ts:E4} (I:Inv X pins U H s) (hst:X.stack=X.env::X.outer) (hos:s1.os=s.os) (hb:AllBare s1.gens) (un:Un (frs X.stack) [] H H1 s.heap s1.heap) (hok:HOk X.prog X.w H1 s1.heap)
  (eo:H1 e=some (XO e C d false)) (hT:∀T∈Ts,s.heap.get? T=none) (hT1:∀T∈Ts,H1 T=none) (xl:XE.XL (frs X.stack) e Ts s1.heap h2) (tr:XE.Tr e T2 h2) (fr:∀b∈frs X.stack,H1 b=none) :
  Un (frs X.stack) [] H H1 s.heap h2/\HOk X.prog X.w H1 h2:=by
 have xo:XOk e C d false s1.heap:=(hok e _ eo).1;have xl':XE.XL (s.heap.objs.size::frs X.stack) e Ts s1.heap h2:=⟨λb o n t f q=>xl.keep b o n t (λz=>f (Qv _ z)) q,xl.slot,xl.at_⟩;exact⟨Un.exc (L:=s.heap.objs.size) un eo eo (λ_ _=>rfl) xl' (Heap.get?_none_of_le (Qf _)) hT,HOk.exc hok eo eo (qx (oX xo xl ⟨T2,tr⟩)) (λ_ _=>rfl) xl fr hT1⟩
theorem v0 {U:St} {H:Hp} {s:Shared} {e C dx:Addr} {fr:Bool} {fs:List (Str × V)} (I:Inv X pins U H s) (eo:H e=some (XO e C (some dx) fr)) (ed:H dx=some (.xd fs)) :
  ∃(ox od:Obj) (mA:E3),PySem.W.InstAt s.heap e ox C (some od)/\(∀n,PySem.W.lookIn n od=some (mA n))/\∀f,iR (fs.lookup f) (mA f):=by
 have xo:XOk e C (some dx) fr s.heap:=(I.hok e _ eo).1;obtain⟨ob,vs,g1,g2,g3,g4,g5⟩:=xo;obtain⟨mA,ns,r⟩:=(I.hok dx _ ed:bn X.prog X.w H s.heap dx (.xd fs));obtain⟨od,ho,hl⟩:=lq ns;refine⟨ob,od,mA,⟨g1,g2,?_,by rw[g3];exact ho⟩,hl,r⟩;obtain⟨_,_,dt,_⟩:=ob;dsimp only at g4;subst g4;rfl
def zY:V->Value
 | .ref a=>.ref a
 | .ty n=>.type n
 | _=>.none
end
end L2
namespace XE
open PySem PySem.W PySem.Calls PyProof.Rows
section
variable {P:Program} {w:World} {A:Around} {E:E1} {g:Heap} {gs:Array GenState} {dr:Drawn} {tk:Nat} {os:OsState} {C:Addr} {B new init:String} {up top:List Value}
theorem yC (F:ExcBaseFacts B new init top) (x:XC g C B new up top) {us:List Value} {Q:E1}
  (hi:Lk (model P w) g (typeLookup (.ref C) "__init__") (some (.builtin init))) (few:us.length<=sizeLine)
  (k:∀g' p,(∀b o,g.get? b=some o->g'.get? b=some o)->g'.get? (g.objs.size+1)=some (jz C p)->Q (.ref (g.objs.size+1)) ⟨g',gs,dr,tk,os⟩) :
  wpAny (model P w) A (call (.ref C) us) Q E ⟨g,gs,dr,tk,os⟩:=by
 have xx:=x;obtain⟨⟨nm,q,N,bs,hd,sn,sub,ab,col,dd,a0,a1,a2,a3,a5,eC⟩,T⟩:=x;have l1:=tc_lookup;have l2:=tc_bind (.ref C);have ty:(⟨g,gs,dr,tk,os⟩:Shared).TypeIs (.ref C) "type" := ⟨_,eC,rfl⟩;refine wpAny_call (codeAny_of_tree (?_:wpAny _ _ (callAny (.ref C) ⟨us,[]⟩) _ _ _))
 repeat (any_goals (first|assumption|wp_step))
 refine⟨rfl,codeAny_call_builtin_at (Code.quiet_builtin _ (by decide +kernel)) entry_typeCall (wpAny_check_type_call_sub eC ?_)⟩
 repeat (first|with_reducible refine wpAny_madeBy_exc eC ?_|wp_step)
 refine codeAny_call_builtin_code (Code.quiet_builtin _ F.quiet) (wpAny_check_new_subT F T eC (codeAny_exc_new_subT F T eC (?_:wpAny _ _ _ _ _ _) few));have eC':=gS (C:=C) (us:=us) eC;have eN:(made g C us).get? (g.objs.size+1)=some (jz C g.objs.size):=u9;have own:(Value.ref C::up).contains (.ref C)=true:=by simp
 unfold isInstance
 repeat (first|with_reducible refine wpAny_loadPart_at eN ?_|wp_step)
 refine wpAny_isSubtype_exc eC' ?_;rw[own]
 repeat (first|with_reducible refine wpAny_loadPart_at eN ?_|wp_step)
 refine(?_:wpAny _ _ (typeLookup (.ref C) "__init__") _ _ _);refine hi _ _ _ _ (λb o e=>gS e) (Q3 (Qb (wpAny_of_eq (F.init.bind _) ?_)));refine Qb (Aj F (xx.keeps λb o e=>gS e) eN rfl rfl few λg' kp ne=>?_)
 wp_walk
 exact k g' _ (λb o e=>kp b o (QB (Nat.lt_succ_of_lt (Qn e))) (gS e)) ne
end
section
variable {P:Program} {w:World} {A:Around} {E:E1} {s:Shared} {K:Frag} {x C NE:Addr} {ox:Obj} {od:Option Obj}
theorem kN {a g:Value} {name:Str} (hc:(clsIn K C).isSome=true) (ha:findIn K (.ref C) name=some (some a)) (hg:specialIn K a "__get__" = some (some g)) (ht:takesIn K a=some true):findObj K C od name=some (.bind g a):=by
 obtain⟨cd,hc⟩:=Option.isSome_iff_exists.mp hc;unfold findObj;rw[hc,Option.bind_some,ha,Option.bind_some];simp[hg,ht]
theorem Ag {Q:Option Value->Shared->Prop} (X:K.In s.heap) (I:InstAt s.heap x ox C od) (k:XKl K C NE) (h:Q (some (.ref C)) { s with toks:=s.toks+1 }):wpAny (model P w) A (getAttr? (.ref x) "__class__") Q E s:=by
 have hf:findObj K C od "__class__" = some (.bind (.builtin "getset_descriptor.__get__") (.builtin "object.__class__")):=kN (by obtain⟨cd,hc,_⟩:=any_some k.hd;rw[hc];rfl) k.cl k.cg k.ct;unfold getAttr? getAttrBy?;refine Qb (wpAny_mkText (Qb (wpAny_attempt (xby (s:={ s with toks:=s.toks+1 }) X I k ?_))));have L0:=I.type (M:=model P w);have L1:=looks_find (M:=model P w) X I hf;refine Qb (Qm (Qb (Qm (Qb (Looks.here (s:={ s with toks:=s.toks+1 }) L0 (Qb (Looks.here (s:={ s with toks:=s.toks+1 }) L1 ?_)))))));refine(?_:wpAny _ _ (holding [Value.builtin "object.__class__"] (call (.builtin "getset_descriptor.__get__") [.builtin "object.__class__", .ref x,.ref C]) >>= ret) _ _ _);refine Qb (Q3 (wpAny_call (class_get (s:={ s with toks:=s.toks+1 }) (ox:=ox) (od:=od) X I k.ob (Qm ?_))));exact handed_on rfl (Qm h)
theorem Af (k:XKl K C NE):KitX K (.ref x) (.ref C) (λg=>InstAt g x ox C od) where
 ty:=λ_ _ _ I=>I.type
 it:=λ_ _ X _=>by
  obtain⟨cd,hc,_⟩:=any_some k.hd;unfold clsIn at hc
  split at hc
  ·rename_i ho
   intro A' Q' E' s' kk q;unfold isType loadHead;exact Qb (wpAny_loadPart (kk _ _ (X _ _ ho)) (Qm q))
  cases hc
 ne:=λg tp dd its n sl X htp=>by
  obtain⟨cd,hc,_⟩:=any_some k.hd;refine Bool.eq_false_iff.mpr λq=>?_;cases Value.ref.inj (beq_iff_eq.mp q);unfold clsIn at hc
  split at hc
  ·rename_i ho
   cases (X _ _ ho).symm.trans htp
  cases hc
 ca:=λX I q=>Ag X I k q
end
end XE
namespace L2
open PySem PySem.Spec PyProof.Rows PySem.Calls
section
variable {X:Cx}
def qE (C:Addr) (t:TA):TE:=λU H Q=>t U H λvs H1=>vs.length<=sizeLine/\∀x,H1 x=none->Q (.ref x) (upd H1 x (XO x C none true))
theorem su {x:Str} {p pos:Pos} {e:Expr} {es:List Expr} {t:TA} {C NE:Addr} (M:XMk X.K C NE) (hin:PySem.W.findIn X.K (.ref C) "__init__" = some (some (.builtin "ValueError.__init__")))
  (hg:Gl X x) (hm:X.mg x=some (.ref C)) (ha:PA X (e::es) t)
  (hdb:(x==("__debug__" : Str))=false:=by decide) (he:starEach (e::es) X.env=(false,eval e X.env)::starEach es X.env:=by rfl) (hpl:(backTo pos (starEach es X.env)).any (·.1)=false:=by rfl) :
  PE X (.Call (.Name x p) (e::es) [] pos) (qE C t):=by
 intro pins s U H Q I h;refine XA (fU I hg hm ?_ hdb);refine PySem.W.callWith_K (h₀:=X.base) I.ok.mod.kin M.kp (thn (ha pos pins s U H _ I h) λus s1 ⟨vs,H1,I1,r,few,q⟩=>⟨I1.kIn,?_⟩) he hpl;have few':us.length<=sizeLine:=by rw[<-r.length];exact few
 have hq:=q (s1.heap.objs.size+1) (I1.hok.fresh (Nat.le_succ _));obtain⟨hh,g,dd,tk,os⟩:=s1;refine XE.yC PySem.F.excBase_ValueError (M.xc _ I1.kIn) (PySem.W.looks_findIn I1.kIn hin) few' λg' p kp ne=>?_;exact⟨.ref (hh.objs.size+1),_,I1.laid (t':=tk) kp (Nat.le_succ _) (qx ⟨_,_,ne,rfl,rfl,rfl,λ_=>⟨_,rfl⟩⟩),rfl,hq⟩
theorem tO {pins:E2} {U:St} {H:Hp} {s:Shared} {e C:Addr} {d:Option Addr} {fr:Bool} (I:Inv X pins U H s) (eo:H e=some (XO e C d fr)) (ed:∀dx,d=some dx->∃fs,H dx=some (.xd fs)) :
  ∃(ox:Obj) (od:Option Obj),PySem.W.InstAt s.heap e ox C od:=by
 cases d with
 | some dx =>
  obtain⟨fs,q⟩:=ed dx rfl;obtain⟨ox,od,_,J,_⟩:=v0 I eo q;exact⟨ox,some od,J⟩
 | none =>
 have xo:XOk e C none fr s.heap:=(I.hok e _ eo).1;obtain⟨ob,vs,g1,g2,g3,g4,g5⟩:=xo;refine⟨ob,none,g1,g2,?_,by rw[g3];trivial⟩;obtain⟨_,_,dt,_⟩:=ob;dsimp only at g4;subst g4;rfl
def xJ (K:PySem.W.Frag):List V->Hp->VK->Prop:=λxs H Q=>∃e C NE d fr c b,xs=[.ref e,c]/\((∃a,c=.ref a)\/∃n,c=.ty n)/\H e=some (XO e C d fr)/\(∀dx,d=some dx->∃fs,H dx=some (.xd fs))/\XE.XKl K C NE/\PySem.W.kitOne K (.ref C) (zY c)=some b/\Q (.bl b) H
theorem bQ:cZ X (.builtin "isinstance") (xJ X.K):=by
 intro pins s U H xs us Q I r h;obtain⟨e,C,NE,d,fr,c,b,ex,hc,eo,ed,k,kt,q⟩:=h;subst ex;obtain⟨u1,u2,eu,r1,r2⟩:=nv r;subst eu;cases (show u1=Value.ref e from r1)
 have e2:u2=zY c:=by
  rcases hc with⟨a,rfl⟩|⟨n,rfl⟩ <;> exact r2
 subst e2;obtain⟨ox,od,J⟩:=tO I eo ed;exact Xl (XE.Af k) I.kIn J kt (λz=>nomatch z) λtk=>⟨.bl b,H,I.tok tk,rfl,q⟩
end
section
variable {P:Program} {w:World} {K:PySem.W.Frag} {mg:E3} {base:Heap} {N:List Str} {qual:Str} {scope:Scope} {f:Addr} {cd:Value} {A:Around} {outer:List Env} {s:Shared} {H:Hp} {E:XK}
theorem iY:gE (CX1 P w) (cxOf (CX1 P w) P w K mg base N qual scope f cd A outer s H E) E:=by
 intro pins U H1 s1 ev s2 I z;obtain⟨e,C,T,d,H2,rfl,os2,bare2,un2,hok2,eo,nT,nT2,tr,q⟩:=z;have I2:Inv (cxOf (CX1 P w) P w K mg base N qual scope f cd A outer s H E) pins U H2 s2:=I.call' (ch:=[]) os2 un2 hok2 bare2 (λb z=>absurd z (by simp));have xo:XOk e C d false s2.heap:=(hok2 e _ eo).1;have hL:s.heap.get? s.heap.objs.size=none:=Heap.get?_none_of_le (Qf _)
 have down:∀T',s2.heap.get? T'=none->s.heap.get? T'=none:=λT' n=>by
  cases q:s.heap.get? T' with
  | none=>rfl
  | some ob =>
  obtain⟨o',z⟩:=I2.base.there T' ob q (λz=>absurd (show T'∈([]:E4) from z) (by simp));rw[n]at z;cases z
 have nTs:s.heap.get? T=none:=by
  cases q:s.heap.get? T with
  | none=>rfl
  | some ob =>
  obtain⟨o',z⟩:=I.base.there T ob q (λz=>absurd (show T∈([]:E4) from z) (by simp));rw[nT]at z;cases z
 refine XE.rW (base:=base) I2.ok.frames I2.stack rfl tr λh' T' xl tr' new=>?_;refine⟨e,C,T',d,H2,rfl,I2.os,I2.bare,Un.exc (L:=s.heap.objs.size) (Ts:=[T]) I2.base eo eo (λ_ _=>rfl) xl hL (by simpa using nTs),?_,eo,down T' new,hok2.nothere new,tr',q⟩;exact HOk.exc (Ts:=[T]) hok2 eo eo (qx (oX xo xl ⟨T',tr'⟩)) (λ_ _=>rfl) xl (λb hb=>I2.stkFree b hb) (by simpa using nT2)
end
section
variable {X:Cx}
def XP (X:Cx) (pins:E2) (U:St) (E:XK) (ev:Value) (s':Shared):Prop:=∃H1 s1,Inv X pins U H1 s1/\CX1 X.prog X.w X.stack H1 s1 E ev s'
def PX (X:Cx) (st:List Stmt) (t:XK->TS):Prop :=
 ∀(pins:E2) (s:Shared) (U:St) (H:Hp) (D:Ends) (E:XK),Inv X pins U H s->t E D U H->wpAny (model X.prog X.w) X.A (execs st X.env) (SP X pins D) (XP X pins U E) s
def tQ (sp:Sp) (t:TA):XK->TS:=λE D U H=>t U H λvs H1=>sp vs H1 (λ_ H2=>D.nx U H2) E
theorem wj {fn:Str} {a1:Expr} {args:List Expr} {np cpos epos:Pos} {f:Addr} {fd:FuncData} {ps:List Str} {k:Nat} {sp:Sp} {t:TA}
  (F:FnOk X.prog X.w X.K X.mg X.base (CX1 X.prog X.w) k f fd ps sp) (hr:Room k X.A) (hg:Gl X fn) (hm:X.mg fn=some (.ref f)) (hk:PySem.W.keepIn X.K (.ref f)=true) (hb:dW X.K fd ps []) (ha:PA X.nox (a1::args) t)
  (hdb:(fn==("__debug__" : Str))=false:=by decide) (he:starEach (a1::args) X.env=(false,eval a1 X.env)::starEach args X.env:=by rfl) (hpl:(backTo cpos (starEach args X.env)).any (·.1)=false:=by rfl)
  (hs:swapsWith (.Call (.Name fn np) (a1::args) [] cpos) none epos.line X.env=pure false:=by rfl) :
  PX X [.Expr (.Call (.Name fn np) (a1::args) [] cpos) epos] (tQ sp t):=by
 intro pins s U H D E I h;refine wpAny_execs_cons (wpAny_Expr_any ?_ I.quiet hs);refine XA (fU I hg hm ?_ hdb);refine PySem.W.callWith_K (h₀:=X.base) I.ok.mod.kin hk (Q8 (ha cpos pins s U H _ (I.wish _) h) (λus s1 z=>?_) λ_ _ z=>z.elim) he hpl;obtain⟨vs,H1,I1',r,q⟩:=z;have I1:Inv X pins U H1 s1:=I1'.unwish;refine⟨I1.kIn,?_⟩;have hlen:(us++[]).length=ps.length:=by rw[Xm,<-r.length];exact F.len _ _ _ _ q
 have hbb:=hb s1 us I1.kIn hlen;rw[Xm]at hbb;refine wpAny_call (codeAny_mono (F.run X.A X.stack s1 H1 ⟨us,[]⟩ us vs _ _ hr I1.env0 hbb r q) λrr s2 z=>?_)
 cases rr with
 | ok fl =>
  cases fl with
  | ret u =>
   obtain⟨v,H2,I2,rv,q2⟩:=I1.after z;exact wpAny_execs_nil ⟨U,H2,I2,q2⟩
  | next=>exact False.elim z
  | brk=>exact False.elim z
  | cont=>exact False.elim z
 | error ev=>exact⟨H1,s1,I1,z⟩
def xIf (tc:TT) (t u:XK->TS):XK->TS:=λE D U H=>tc U H λb H1=>if b=true then t E D U H1 else u E D U H1
variable {a b suite body:List Stmt}
theorem uf {c:Expr} {tc:TT} {pos:Pos} {t u:XK->TS} (hc:PT X.nox c tc) (ha:PX X a t) (hb:PX X b u):PX X [.If c a b pos] (xIf tc t u):=by
 intro pins s U H D E I h;refine wpAny_execs_cons (wpAny_If (Q8 (hc pins s U H _ (I.wish _) h) (λd s1 z=>?_) λ_ _ z=>z.elim));obtain⟨H1,I1',q1⟩:=z;have I1:Inv X pins U H1 s1:=I1'.unwish
 have fin:∀fl s2,SP X pins D fl s2->(match fl with|.next=>wpAny (model X.prog X.w) X.A (execs [] X.env) (SP X pins D) (XP X pins U E) s2|fl=>SP X pins D fl s2):=λfl s2 z=>by
  cases fl with
  | next=>exact wpAny_execs_nil z
  | ret u=>exact z
  | brk=>exact z
  | cont=>exact z
 cases d with
 | true=>exact thn (ha pins s1 U H1 D E I1 q1) λfl s2 z=>by first|exact fin fl s2 z|(cases fl <;> first|exact wpAny_execs_nil z|exact z)
 | false=>exact thn (hb pins s1 U H1 D E I1 q1) λfl s2 z=>by first|exact fin fl s2 z|(cases fl <;> first|exact wpAny_execs_nil z|exact z)
def xp (K:PySem.W.Frag) (NE:Addr) (i:Nat) (tb:XK->TS) (tsu:TS):TS:=λD U H =>
 tb (λcls ea H2=>∃e,ea=some e/\PySem.W.exmOne K cls (.ref NE)=some true/\tsu { nx:=λσ' H'=>D.nx (σ'.set i none) H',rt:=λ_ _=>False } (U.set i (some (.ref e))) H2)
  { nx:=D.nx,rt:=λ_ _=>False } U H
theorem wm {cn n:Str} {st:Stmt} {cp hpos pos:Pos} {NE:Addr} {i:Nat} {tb:XK->TS} {tsu:TS} (hb:PX X body tb)
  (hgc:Gl X cn) (hmc:X.mg cn=some (.ref NE)) (hN:X.N.Nodup) (hi:X.N[i]?=some n) (hl:X.env.kindOf n=some .local) (hsu:∀e,PSs (X.marked e) (st::suite) tsu) (hc:X.calm=true)
  (hst:X.stack=X.env::X.outer:=by rfl) (hfr:X.env.frame=some X.env.locals:=by rfl) (hf:X.fn n=true\/X.env.scope.names.lookup n=some .local:=by z_go)
  (hdc:(cn==("__debug__" : Str))=false:=by decide) :
  PS X (.Try body [.ExceptHandler (some (.Name cn cp)) (some n) (st::suite) hpos] [] [] pos) (xp X.K NE i tb tsu):=by
 intro pins s U H D I h;refine wpAny_Try_except (Q8 (hb pins s U H _ _ I h) (λfl s2 z=>?_) λev s2 z=>?_)
 ·cases fl with
  | next=>exact wpAny_execs_nil z
  | ret u=>obtain⟨_,_,_,_,_,q6⟩:=z;exact False.elim q6
  | brk=>obtain⟨_,_,_,q6⟩:=z;exact False.elim q6
  | cont=>obtain⟨_,_,_,q6⟩:=z;exact False.elim q6
 obtain⟨H1,s1,I1,e,C,T,d,H2,rfl,os2,bare2,un2,hok2,eo,nT,nT2,tr,e',ee,hx,q3⟩:=z;cases ee;have fr1:∀b∈frs X.stack,H1 b=none:=I1.stkFree
 have fr2:∀b∈frs X.stack,H2 b=none:=λb hb=>by
  obtain⟨_,o,ho,_⟩:=I1.stack.mem hb;exact un2.free b o ho (fr1 b hb) (by simp)
 have ff:s2.heap.FunFrames X.base (X.env::X.outer):=by
  rw[<-hst];exact yu I1.stack λb hb o ho=>un2.slot b o ho (fr1 b hb) hb (by simp)
 refine XE.xk (s:=s2) (base:=X.base) (by rw[I1.ok.frames,hst]) ff hfr tr λh3 T3 xl3 tr3 new3=>?_;have xl3':XE.XL (frs X.stack) e [T] s2.heap h3:=by rw[hst];exact xl3
 obtain⟨un3,hok3⟩:=vD (T:=T) I1 hst os2 bare2 un2 hok2 eo (by simpa using nT) (by simpa using nT2) xl3' tr3 fr2;have I3:Inv X pins U H2 { s2 with heap:=h3 }:=I1.call' (ch:=[]) os2 un3 hok3 bare2 (λb z=>absurd z (by simp))
 have nT3:s1.heap.get? T3=none:=by
  cases qq:s1.heap.get? T3 with
  | none=>rfl
  | some ob =>
  obtain⟨o',z⟩:=un2.there T3 ob qq (by simp);rw[new3]at z;cases z
 have nT3':H2 T3=none:=hok2.nothere new3
 have hce:∃oe,h3.get? e=some oe/\oe.cls=.ref C:=by
  obtain⟨o,vs',g1,g2,_⟩:=((hok3 e _ eo).1:XOk e C d false h3);exact⟨o,g1,g2⟩
 have LT:PySem.W.Looks (model X.prog X.w) h3 (typeOf (.ref e)) (.ref C):=by
  obtain⟨oe,g1,g2⟩:=hce;rw[<-g2];exact(PySem.W.Looks.ld g1).andThen .now
 refine wpAny_handleBy_cons (codeAny_handlers_test (fU (X:=X.marked e) (I3.mark e) hgc hmc ?_ hdc)) (by intro z;cases z);refine PySem.W.Looks.here (s:={ s2 with heap:=h3 }) (PySem.W.exm_one I3.kIn LT hx) (codeAny_handlers_suite_as ?_);refine XE.yF (s:={ s2 with heap:=h3 }) (fs:=frs X.stack) tr3 λh4 xl4 tr4=>?_;obtain⟨un4,hok4⟩:=vD (s1:={ s2 with heap:=h3 }) (T:=T3) I1 hst os2 bare2 un3 hok3 eo (by simpa using nT3) (by simpa using nT3') xl4 tr4 fr2;have I4:Inv X pins U H2 { s2 with heap:=h4 }:=I1.call' (ch:=[]) os2 un4 hok4 bare2 (λb z=>absurd z (by simp));refine gK (X:=X.marked e) (v:=.ref e) (I4.mark e) hN hi (.inl hl) rfl (λs5 I5=>?_) hf;refine Q8 (hsu e pins s5 _ H2 _ I5 q3) (λfl s6 z=>?_) λ_ _ z=>z.elim
 cases fl with
 | next =>
  obtain⟨σ6,H6,I6,q6⟩:=z;exact wV (I6.unmark I.ok.hd) hN hi hl λs7 I7=>⟨_,H6,I7,q6⟩
 | ret u=>obtain⟨_,_,_,_,_,q6⟩:=z;exact False.elim q6
 | brk=>obtain⟨_,_,_,q6⟩:=z;exact False.elim q6
 | cont=>obtain⟨_,_,_,q6⟩:=z;exact False.elim q6
end
end L2
namespace XE
open PySem PySem.SeqAt PySem.MeetsSeq
open AutoSeq1 (wpAny_loadPart')
section
variable {A:Around} {s:Shared}
end
end XE
namespace L2
open PySem PySem.Spec PyProof.Rows PySem.Calls
def chs (z:Str):List V:=z.cps.toList.map λc=>.str ⟨#[c]⟩
theorem oZ {z:Str} {acc:Array Value} (h:ItemsOf (SignAt z) acc z.cps.size):be (chs z) acc.toList:=by
 have key:∀(cs:List Nat) (us:List Value),cs.length=us.length->(∀(j:Nat) (u:Value),us[j]?=some u->∃c t,cs[j]?=some c/\u=.str ⟨#[c]⟩ t)->be (cs.map λc=>V.str ⟨#[c]⟩) us:=by
  intro cs
  induction cs with
  | nil =>
   intro us hl _
   cases us with
   | nil=>exact .nil
   | cons u us=>simp at hl
  | cons c cs ih =>
  intro us hl h
  cases us with
  | nil=>simp at hl
  | cons u us =>
  refine .cons ?_ (ih us (by simpa using hl) λj u' q=>?_)
  ·obtain⟨c',t,e1,e2⟩:=h 0 u rfl;have:c=c':=by simpa using e1
   subst this;exact⟨t,e2⟩
  obtain⟨c',t,e1,e2⟩:=h (j+1) u' (by simpa using q);exact⟨c',t,by simpa using e1,e2⟩
 refine key _ _ (by simp[h.1]) λj u q=>?_;obtain⟨c,t,e1,e2⟩:=h.2 j u (by simpa using q);exact⟨c,t,by simpa using e1,e2⟩
section
variable {X:Cx}
theorem w4 (z:Str):(chs z).length=z.length:=by
 unfold chs;rw[Qa];exact Qo
theorem kO (hc:X.calm=true):cZ X (.type "list") (λxs H Q=>∃z,xs=[.str z]/\z.length<=sizeLine/\∀l,H l=none->Q (.ref l) (upd H l (.lst (chs z)))):=by
 intro pins s U H xs us Q I r h;obtain⟨z,rfl,hz,q⟩:=h;obtain⟨u,rfl,t,rfl⟩:=d6 r;refine call_list_str (I.ok.hd hc) z t (λh' tk acc c' kp e it=>?_) hz;have rr:=oZ it;exact⟨.ref s.heap.objs.size,_,I.laid (t':=tk) kp (Qf _) (show bn X.prog X.w _ h' _ (.lst (chs z)) from⟨by rw[w4];exact hz,acc.toList,c',rr,by simpa using e⟩),rfl,q _ (I.hok.fresh (Qf _))⟩
end
section
variable {X:Cx}
end
def yn (sl:Array (Option Value)):Bool:=sl.toList.length==6&&sl.toList[4]?==some (some (.builtin "ValueError.__new__"))
theorem Dd {A:Type}:∀{us:List A},us.length=6->∃a0 a1 a2 a3 a4 a5,us=[a0,a1,a2,a3,a4,a5]
 | [],h=>nomatch h
 | a0::us,h=>by
  have h:us.length+1=6:=h
  cases us with
  | nil=>cases h
  | cons a1 us =>
  cases us with
  | nil=>cases h
  | cons a2 us =>
  cases us with
  | nil=>cases h
  | cons a3 us =>
  cases us with
  | nil=>cases h
  | cons a4 us =>
  cases us with
  | nil=>cases h
  | cons a5 us =>
  cases us with
  | nil=>exact⟨_,_,_,_,_,_,rfl⟩
  | cons a6 us=>cases h
def yE (K:PySem.W.Frag) (C NE:Addr):Bool:=match K.lookup C with
 | some ⟨.type "type", _,.cls cd,sl⟩=>yn sl&&cd.mro==.ref C::.ref NE::XE.ku&&!cd.hasDel
 | _=>false
def Aw:Value->Bool
 | .str _ _=>true
 | _=>false
noncomputable def lT (K:PySem.W.Frag) (NE:Addr):Bool:=match K.lookup NE with
 | some ⟨_,_,.cls cd,_⟩=>(match K.lookup cd.ns with
  | some ⟨_,_,.dict es _,_⟩=>es.toList.all (λe=>Aw e.key)&&(es.toList.find? λe=>e.key.isStr "__init__").isNone
  | _=>false)
 | _=>false
variable {NE C:Addr}
theorem v_ {K:PySem.W.Frag} {h:Heap} (X:K.In h) (q:lT K NE=true):OwnTail h XE.ku (.ref NE::XE.ku):=by
 unfold lT at q
 split at q
 ·rename_i c0 d0 cd sl ho
  split at q
  ·rename_i c1 d1 es ep s1 hn
   rw[Xo]at q;obtain⟨q1,q2⟩:=q;refine .own (X _ _ ho) ⟨_,es,ep,X _ _ hn,rfl,λe he=>?_,λ_=>rfl⟩ ?_ .base
   ·have z:=Q2.mp q1 e (Array.mem_toList_iff.mpr he)
    cases hk:e.key with
    | str a b=>exact⟨a,b,rfl⟩
    | _=>rw[hk]at z;cases z
   unfold nsFind findBy;rw[<-Array.find?_toList,Option.isNone_iff_eq_none.mp q2];rfl
  cases q
 cases q
theorem Ai {K:PySem.W.Frag} {h:Heap} (X:K.In h) (q:yE K C NE=true) (q2:lT K NE=true):XE.XC h C "ValueError" "ValueError.__new__" (.ref NE::XE.ku) XE.ku:=by
 refine⟨?_,v_ X q2⟩;unfold yE at q
 split at q
 ·rename_i dd cd sl ho
  simp only[Xo,beq_iff_eq,Bool.not_eq_true']at q;obtain⟨⟨hs,hm⟩,hdel⟩:=q;obtain⟨nm,bs,mro,ns,qn,hd,sn,sub,ab,col,del⟩:=cd;dsimp only at hm hdel;subst hm hdel;unfold yn at hs;rw[Xo,beq_iff_eq,beq_iff_eq]at hs;obtain⟨hs1,hs2⟩:=hs;obtain⟨l⟩:=sl;obtain⟨k0,k1,k2,k3,k4,k5,rfl⟩:=Dd hs1;obtain rfl:k4=some (.builtin "ValueError.__new__"):=QN hs2;exact⟨nm,qn,ns,bs,hd,sn,sub,ab,col,dd,k0,k1,k2,k3,k5,X _ _ ho⟩
 cases q
theorem yB {K:PySem.W.Frag} (q:yE K C NE=true) (q2:lT K NE=true) (kp:PySem.W.keepIn K (.ref C)=true) (kl:XE.XKl K C NE):XMk K C NE:=⟨λ_ X=>Ai X q q2,kp,kl⟩
end L2
set_option maxHeartbeats 4000000
namespace L2
open PySem PySem.Spec PyProof.Rows
structure FnMk (P:Program) (w:World) (K:PySem.W.Frag) (mg:E3) (base:Heap) (k:Nat) (f:Addr) (fd:FuncData) (ps:List Str) (sp:Sp):Prop where
 len:∀vs H Q E,sp vs H Q E->vs.length=ps.length
 run:∀(A:Around) (e:Addr) (outer:List Env) (s:Shared) (H:Hp) (args:Args) (us:List Value) (vs:List V) (Q:VK),Room k A->Env0 P w K mg base (A.mark (some (.ref e))) outer s H->BindsTo s fd args (ps.zip us)->be vs us->sp vs H Q E0 ->
  codeAny (model P w) (A.mark (some (.ref e))) (.call (.ref f) args) (CR CX0 outer P w H s Q E0) s
structure FnM (P:Program) (w:World) (K:PySem.W.Frag) (mg:E3) (base:Heap) (x:Str) (ps:List Str) (k:Nat) (sp:Sp):Prop where
 ex:∃f fd,FnMk P w K mg base k f fd ps sp/\mg x=some (.ref f)/\PySem.W.keepIn K (.ref f)=true/\dW K fd ps []
section
variable {X:Cx}
end
end L2
namespace K2
open PySem L2
abbrev IvF:=Nat->St->Hp->Prop
abbrev IvC:=Nat->Hp->List V->Prop
abbrev IvJ:=St->Hp->Prop
structure ExcB (K:PySem.W.Frag) (mg:E3) (n:Str) (C NE:Addr):Prop where
 xm:XMk K C NE
 init:PySem.W.findIn K (.ref C) "__init__" = some (some (.builtin "ValueError.__init__"))
 m:mg n=some (.ref C)
def dw (C:Addr) (H H':Hp) (e:Addr):Prop:=am H H'/\H' e=some (XO e C none false)
variable {e C NE:Addr} {H H1 H2 H':Hp}
theorem dw.pre (S:am H H1) (r:dw C H1 H2 e):dw C H H2 e:=⟨S.trans r.1,r.2⟩
variable {U:St} {t:TA}
theorem vm {Q:VK} (q:t U H λvs H1=>vs.length<=sizeLine/\∀x,H1 x=none->Q (.ref x) (upd H1 x (XO x C none true))):qE C t U H Q:=q
structure Fn1 (P:Program) (w:World) (K:PySem.W.Frag) (mg:E3) (base:Heap) (x:Str) (ps:List Str) (k:Nat) (sp:Sp):Prop where
 ex:∃f fd,FnOk P w K mg base (CX1 P w) k f fd ps sp/\mg x=some (.ref f)/\PySem.W.keepIn K (.ref f)=true/\dW K fd ps []
theorem mC {X:Cx} {x:Str} {ps:List Str} {k:Nat} {sp:Sp} {e:Expr} {es:List Expr} {E:XK} {p pos:Pos} (F:Fn1 X.prog X.w X.K X.mg X.base x ps k sp) (hr:Room k X.A) (hg:Gl X x) (hx:gE (CX1 X.prog X.w) X E) (ha:PA X (e::es) t)
  (hdb:(x==("__debug__" : Str))=false:=by decide) (he:starEach (e::es) X.env=(false,eval e X.env)::starEach es X.env:=by rfl) (hpl:(backTo pos (starEach es X.env)).any (·.1)=false:=by rfl) :
  PE X (.Call (.Name x p) (e::es) [] pos) (gJ sp [] E t):=by
 obtain⟨f,fd,G,hm,hk,hb⟩:=F.ex;exact qZ G hr hg hm hk hb .nil hx ha hdb he hpl
theorem mw {X:Cx} {x:Str} {ps:List Str} {k:Nat} {sp:Sp} {e:Expr} {es:List Expr} {p cpos epos:Pos} (F:Fn1 X.prog X.w X.K X.mg X.base x ps k sp) (hr:Room k X.A) (hg:Gl X x) (ha:PA X.nox (e::es) t)
  (hdb:(x==("__debug__" : Str))=false:=by decide) (he:starEach (e::es) X.env=(false,eval e X.env)::starEach es X.env:=by rfl) (hpl:(backTo cpos (starEach es X.env)).any (·.1)=false:=by rfl)
  (hs:swapsWith (.Call (.Name x p) (e::es) [] cpos) none epos.line X.env=pure false:=by rfl) :
  PX X [.Expr (.Call (.Name x p) (e::es) [] cpos) epos] (tQ sp t):=by
 obtain⟨f,fd,G,hm,hk,hb⟩:=F.ex;exact wj G hr hg hm hk hb ha hdb he hpl hs
theorem zS {K:PySem.W.Frag} {i:Nat} {tb:XK->TS} {tsu:TS} {D:Ends} (q:tb (λcls ea H2=>∃e,ea=some e/\PySem.W.exmOne K cls (.ref NE)=some true/\tsu { nx:=λσ' H'=>D.nx (σ'.set i none) H',rt:=λ_ _=>False } (U.set i (some (.ref e))) H2)
  { nx:=D.nx,rt:=λ_ _=>False } U H):xp K NE i tb tsu D U H:=q
theorem vn {tc:TT} {t u:XK->TS} {E:XK} {D:Ends} (q:tc U H λb H1=>if b=true then t E D U H1 else u E D U H1):xIf tc t u E D U H:=q
theorem i5 {sp:Sp} {E:XK} {D:Ends} (q:t U H λvs H1=>sp vs H1 (λ_ H2=>D.nx U H2) E):tQ sp t E D U H:=q
structure Held6 (C:Addr) (H:Hp) (e:Addr):Prop where
 ex:∃d fr,H e=some (XO e C d fr)/\∀dx,d=some dx->∃fs,H dx=some (.xd fs)
theorem Held6.same (h:Held6 C H e) (S:am H H'):Held6 C H' e:=let ⟨d,fr,a,b⟩:=h.ex;⟨d,fr,S _ _ a,λdx q=>let ⟨fs,z⟩:=b dx q;⟨fs,S _ _ z⟩⟩
theorem dw.held (r:dw C H H' e):Held6 C H' e:=⟨none,false,r.2,λdx q=>nomatch q⟩
theorem gv {K:PySem.W.Frag} {c:V} {Q:VK} {b:Bool} (h:Held6 C H e) (kl:XE.XKl K C NE) (hc:(∃a,c=.ref a)\/∃n,c=.ty n) (k:PySem.W.kitOne K (.ref C) (zY c)=some b) (q:Q (.bl b) H):xJ K [V.ref e,c] H Q:=by
 obtain⟨d,fr,h1,h2⟩:=h.ex;exact⟨e,C,NE,d,fr,c,b,rfl,hc,h1,h2,kl,k,q⟩
structure KindsM (mg:E3) (c0 c2 c3 c4 c5:Addr):Prop where
 m0:mg "NoStanding" = some (.ref c0)
 m2:mg "NoFit" = some (.ref c2)
 m3:mg "NoText" = some (.ref c3)
 m4:mg "NoName" = some (.ref c4)
 m5:mg "NoRow" = some (.ref c5)
 mV:mg "ValueError" = none
structure NmE (mg:E3) (CS NE:Addr):Prop where
 mS:mg "NoStep" = some (.ref CS)
 mE:mg "NetError" = some (.ref NE)
structure KinB (K:PySem.W.Frag) (C NE c0 c1 c2 c3 c4 c5:Addr):Prop where
 k0:PySem.W.kitOne K (.ref C) (.ref c0)=some (decide (C=c0))
 k1:PySem.W.kitOne K (.ref C) (.ref c1)=some (decide (C=c1))
 k2:PySem.W.kitOne K (.ref C) (.ref c2)=some (decide (C=c2))
 k3:PySem.W.kitOne K (.ref C) (.ref c3)=some (decide (C=c3))
 k4:PySem.W.kitOne K (.ref C) (.ref c4)=some (decide (C=c4))
 k5:PySem.W.kitOne K (.ref C) (.ref c5)=some (decide (C=c5))
 kV:PySem.W.kitOne K (.ref C) (.type "ValueError")=some true
 ex:PySem.W.exmOne K (.ref C) (.ref NE)=some true
 kl:XE.XKl K C NE
end K2
namespace L2
open PySem PySem.Spec PyProof.Rows
section
variable {X:Cx}
end
end L2
namespace K2
open PySem L2
variable {X:Cx}
theorem wP {K:PySem.W.Frag} (h:X.K=K):IxR X (n_ K):=by subst h;exact a_
variable {H H':Hp} {U:St}
theorem ie {td ty tv:TE} {D:Ends} (q:tv U H λv H1=>td U H1 λx H2=>ty U H2 λy H3=>∃a H4,x=.ref a/\hG H3 a y v H4/\D.nx U H4):xD td ty tv D U H:=q
theorem gX {td ty:TE} {Q:VK} (q:ty U H λy H1=>td U H1 λx H2=>∃a o,x=.ref a/\c8 H2 a y o/\Q (.bl (!o.isSome)) H2):qH ty td U H Q:=q
theorem Ay {t:TS} {D:Ends} {a:Addr} {u:HO} (r:Rd H a u) (f:Fz u) (q:∀o,t (xn D H a o u) U (upd H a (.frz o u))):Ap t D U H:=⟨a,u,r,f,q⟩
theorem mj {tl:TE} {R:It->Hp->Prop} (q:tl U H λx H1=>∃a o kvs,x=.ref a/\H1 a=some (.frz o (.dK kvs))/\R (Itd a o kvs) H1):vo tl U H R:=q
theorem jL {K:PySem.W.Frag} (h:X.K=K):IxR X (pD K):=by subst h;exact aI
variable {env:Env} {es a vs:List Expr} {p pos:Pos}
theorem se_tup {n:Nat}:starEach (.Tuple a n p::es) env=(false,eval (.Tuple a n p) env)::starEach es env:=by rfl
theorem se_lst:starEach (.List a p::es) env=(false,eval (.List a p) env)::starEach es env:=by rfl
theorem se_call {f:Expr} {k:List Keyword}:starEach (.Call f a k p::es) env=(false,eval (.Call f a k p) env)::starEach es env:=by rfl
theorem aL {c:Const} {n:Nat}:starEach (.Constant c n p::es) env=(false,eval (.Constant c n p) env)::starEach es env:=by rfl
theorem ag {x:Str}:starEach (.Name x p::es) env=(false,eval (.Name x p) env)::starEach es env:=by rfl
theorem se_bin {a b:Expr} {o:Operator}:starEach (.BinOp a o b p::es) env=(false,eval (.BinOp a o b p) env)::starEach es env:=by rfl
theorem se_lc {a:Expr} {g:List Comprehension} {sc:Scope}:starEach (.ListComp a g sc p::es) env=(false,eval (.ListComp a g sc p) env)::starEach es env:=by rfl
theorem se_sub {a b:Expr}:starEach (.Subscript a b p::es) env=(false,eval (.Subscript a b p) env)::starEach es env:=by rfl
theorem se_dict {ks:List (Option Expr)}:starEach (.Dict ks vs p::es) env=(false,eval (.Dict ks vs p) env)::starEach es env:=by rfl
theorem se_un {o:UnaryOp} {a:Expr}:starEach (.UnaryOp o a p::es) env=(false,eval (.UnaryOp o a p) env)::starEach es env:=by rfl
structure Txt (K:PySem.W.Frag) (mg:E3) (TT:Addr):Prop where
 n_len:mg "len" = none
 n_range:mg "range" = none
 n_max:mg "max" = none
 n_min:mg "min" = none
 n_int:mg "int" = none
 n_list:mg "list" = none
 n_str:mg "str" = none
 n_isinstance:mg "isinstance" = none
 n_all:mg "all" = none
 n_set:mg "set" = none
 n_dict:mg "dict" = none
 n_enumerate:mg "enumerate" = none
 n_sorted:mg "sorted" = none
 n_tuple:mg "tuple" = none
 n_bool:mg "bool" = none
 n_zip:mg "zip" = none
 n_reversed:mg "reversed" = none
 n_abs:mg "abs" = none
 tURNED:mg "TURNED" = some (.ref TT)
 tab:qD K TT [("0", .flat (.str "1")),("1", .flat (.str "0"))]
inductive Rl where
 | w (n:Str)|no (r:Rl)|an (a b:Rl)|orr (a b:Rl)
def Rl.ok (ns:List Str):Rl->Prop
 | .w n=>n∈ns
 | .no r=>r.ok ns
 | .an a b=>a.ok ns/\b.ok ns
 | .orr a b=>a.ok ns/\b.ok ns
def Rl.dep:Rl->Nat
 | .w _=>1
 | .no r=>r.dep+1
 | .an a b=>max a.dep b.dep+1
 | .orr a b=>max a.dep b.dep+1
def Rl.val (f:Str->Bool):Rl->Bool
 | .w n=>f n
 | .no r=>!r.val f
 | .an a b=>a.val f&&b.val f
 | .orr a b=>a.val f || b.val f
inductive RAt (H:Hp):V->Rl->Prop where
 | w {a:Addr} {n:Str}:H a=some (.tup [.str "wire", .str n])->RAt H (.ref a) (.w n)
 | no {a:Addr} {v:V} {r:Rl}:H a=some (.tup [.str "not", v])->RAt H v r->RAt H (.ref a) (.no r)
 | an {a:Addr} {v u:V} {r s:Rl}:H a=some (.tup [.str "and", v,u])->RAt H v r->RAt H u s->RAt H (.ref a) (.an r s)
 | orr {a:Addr} {v u:V} {r s:Rl}:H a=some (.tup [.str "or", v,u])->RAt H v r->RAt H u s->RAt H (.ref a) (.orr r s)
def dh (H H':Hp):Prop:=∀b xs,H b=some (.tup xs)->H' b=some (.tup xs)
theorem am.tups (S:am H H'):dh H H':=λb xs e=>S b _ e
theorem RAt.mono (hs:dh H H') {v:V} {r:Rl} (h:RAt H v r):RAt H' v r:=by
 induction h with
 | w e=>exact .w (hs _ _ e)
 | no e _ ih=>exact .no (hs _ _ e) ih
 | an e _ _ i1 i2=>exact .an (hs _ _ e) i1 i2
 | orr e _ _ i1 i2=>exact .orr (hs _ _ e) i1 i2
def GAt (H:Hp) (v:V) (g:Str × Rl):Prop:=∃b rv,v=.ref b/\H b=some (.tup [.str g.1,rv])/\RAt H rv g.2
theorem GAt.mono (hs:dh H H') {v:V} {g:Str × Rl} (h:GAt H v g):GAt H' v g:=let ⟨b,rv,e,h1,h2⟩:=h;⟨b,rv,e,hs _ _ h1,h2.mono hs⟩
abbrev E5:=List (Str × Rl)
structure NAt (H:Hp) (a li lg:Addr) (ins:List Str) (vs:List V) (gs:E5):Prop where
 ha:H a=some (.tup [.ref li,.ref lg])
 hi:H li=some (.lst (ins.map V.str))
 hg:H lg=some (.lst vs)
 gates:Paired (GAt H) vs gs
theorem jM {H:Hp}:∀{vs:List V} {gs:E5},Paired (GAt H) vs gs->∀x∈vs,∃a,x=V.ref a
 | _,_,.nil=>λx hx=>nomatch hx
 | _,_,.cons h t=>λx hx=>by
  rcases QV.mp hx with e|hx
  ·obtain⟨b,_,e',_⟩:=h;exact⟨b,e.trans e'⟩
  exact jM t x hx
theorem br {H H':Hp} (hs:dh H H'):∀{vs:List V} {gs:E5},Paired (GAt H) vs gs->Paired (GAt H') vs gs
 | _,_,.nil=>.nil
 | _,_,.cons h t=>.cons (h.mono hs) (br hs t)
theorem NAt.same {a li lg:Addr} {ins:List Str} {vs:List V} {gs:E5} (S:am H H') (h:NAt H a li lg ins vs gs):NAt H' a li lg ins vs gs:=⟨S _ _ h.ha,S _ _ h.hi,S _ _ h.hg,br (am.tups S) h.gates⟩
def ao (ins:List Str) (gs:E5):List Str:=ins++gs.map (·.1)
structure NetOk (ins:List Str) (gs:E5):Prop where
 nd:(ao ins gs).Nodup
 i4:ins.length<=4
 g1:1<=gs.length
 g7:gs.length<=7
 rules:∀g∈gs,g.2.ok (ao ins gs)/\g.2.dep<=10
structure StOk (n:Nat) (z:Str):Prop where
 len:z.cps.size=n
 signs:∀c∈z.cps.toList,c=48\/c=49
def sg (b:Bool):V:=if b then .str "1" else .str "0"
def sgn (names:List Str) (z:Str) (n:Str):Bool:=z.cps.getD (names.idxOf n) 0==49
def DFn (kvs:List (Key × V)) (names:List Str) (f:Str->Bool):Prop:=∀n∈names,bw kvs (Sum.inr n:Key)=some (sg (f n))
theorem d5 {K:PySem.W.Frag} (h:X.K=K):cZ X (.builtin "len") (λxs H Q=>∃p ys,xs=[.ref p]/\(SqL K H p ys\/SqT K H p ys)/\Q (.int ys.length) H):=by subst h;exact aJ
theorem qW {K:PySem.W.Frag} {k:Nat} {t:TGs} {n:Nat} (hK:X.K=K) (hc:X.calm=true) (h:PGs X es t)
  (hn:(assignEach es X.env).length=n:=by rfl) (hst:(assignEach es X.env).findIdx? (·.1)=none:=by rfl):PG X (.Tuple es k pos) (zU K n t):=by subst hK;exact im hc h hn hst
theorem dG {A B:TS} {D:Ends} (J:St->Hp->Prop) (h:∀(R:St->Hp->Prop),(∀U H,J U H->R U H)->A { D with nx:=R } U H) (hJ:∀U H,J U H->B D U H):wa A B D U H:=h (B D) hJ
theorem cE {α β:Type} {F G:α->β->Prop} (h:∀a b,F a b->G a b):∀{xs:List α} {ys:List β},Paired F xs ys->Paired G xs ys
 | _,_,.nil=>.nil
 | _,_,.cons a t=>.cons (h _ _ a) (cE h t)
theorem paired_get {α β:Type} {F:α->β->Prop}:∀{xs:List α} {ys:List β} {i:Nat} {x:α},Paired F xs ys->xs[i]?=some x->∃y,ys[i]?=some y/\F x y
 | _,_,_,_,.nil,e=>by simp at e
 | _,_,0,_,.cons r _,e=>by simp at e;subst e;exact⟨_,rfl,r⟩
 | _,_,i+1,x,.cons _ t,e=>by
  obtain⟨u,h1,h2⟩:=paired_get (i:=i) (x:=x) t (by simpa using e);exact⟨u,by simpa using h1,h2⟩
theorem ifT {c:Bool} {A B:Prop} (hc:c=true) (h:A):if c=true then A else B:=by rw[QJ hc];exact h
theorem ifF {c:Bool} {A B:Prop} (hc:c=false) (h:B):if c=true then A else B:=by subst hc;exact cU h
theorem ba {D:Addr} {o:HO} (S:am H H') (hD:H D=none):am H (upd H' D o):=λb u e=>by rw[aj (aE e hD)];exact S b u e
theorem aG {p:Addr} {o:HO} (h:H p=none) (e:upd H p o=H'):am H H'/\H' p=some o:=by
 subst e;exact⟨ai h,af⟩
theorem aU {α β:Type} {F:α->β->Prop}:∀{xs:List α} {ys:List β},Paired F xs ys->xs.length=ys.length
 | _,_,.nil=>rfl
 | _,_,.cons h t=>by simp[aU t]
end K2
namespace K2
open PySem L2
abbrev SqLofQ:=@SqL.of
abbrev i_cQ:=@i_c
abbrev i_consQ:=@aq
abbrev i_ixLQ:=@bB
abbrev i_nilQ:=@aM
abbrev i_opQ:=@bE
abbrev i_varQ:=@ak
abbrev iteFQ:=@cU
abbrev iteTQ:=@cT
abbrev pa_consQ:=@aa
abbrev pa_nilQ:=@ae
abbrev pe_intQ:=@ad
abbrev pe_lstQ:=@bo
abbrev pe_strQ:=@aP
abbrev pss_consQ:=@aN
abbrev pss_oneQ:=@aR
abbrev s_asgQ:=@bI
abbrev s_nameQ:=@aA
abbrev se_conQ:=@aL
abbrev se_nameQ:=@ag
local macro_rules | `(tactic| walk_at "vc") => `(tactic| first
 | ((refine' (?zz : (?zA → ?zG) → ?zA → ?zG) ?zr ?_); (case zr => with_reducible exact s_seqT); (case zz => exact fun _ q => q); intro D') | ((refine' (?zz : (?zA → ?zG) → ?zA → ?zG) ?zr ?_); (case zr => with_reducible first | exact s_asgQ | exact s_drop | exact s_ret | exact s_if | exact s_sub | exact s_next | exact i_cQ | exact i_opQ | exact i_test | exact i_tB | exact i_and | exact i_or | exact i_not | exact i_andV | exact i_orV | exact i_notV | exact i_ifE | exact i_nilQ | exact i_consQ | exact i_cb | exact i_tup | exact i_lst | exact i_bm | exact i_sl | exact i_nopart | exact i_part | exact s_for | exact s_rng1 | exact s_list | exact s_str | exact i_dget | exact i_yes | exact i_un); (case zz => exact fun _ q => q))   | (with_reducible refine s_nameQ ?_)
 | ((with_reducible refine' i_varQ ?hv ?_); (case hv => exact rfl))   | (with_reducible first | refine i_rI0 ?_ | refine i_call ?_ | refine s_strI ?_ | refine iteFQ ?_ | refine iteTQ ?_ | refine i_rU ?_)
 | ((with_reducible show ∃ i, V.int _ = V.int i ∧ _); (refine ⟨_, rfl, ?_⟩)) | ((with_reducible show ∃ k, V.bl _ = V.bl k ∧ _); (refine ⟨_, rfl, ?_⟩)) | ((with_reducible show (∃ i, [V.bl _] = [V.int i] ∧ _) ∨ _); (refine Or.inr ⟨_, rfl, ?_⟩))
 | ((with_reducible refine' i_ixLQ ?ha ?hb ?_); (case ha => exact SqLofQ (by assumption)); (case hb => exact rfl)) | ((with_reducible refine' i_ixT ?ha ?hb ?_); (case ha => assumption); (case hb => exact rfl))
 | ((with_reducible show ∃ p _, [V.ref _] = [V.ref p] ∧ (SqL _ _ _ _ ∨ SqT _ _ _ _) ∧ _); (refine' ⟨_, _, rfl, Or.inl (SqLofQ ?ha), ?_⟩); (case ha => assumption)) | ((with_reducible refine' s_setL ?ha ?hb ?_); (case ha => assumption); (case hb => exact rfl))
 | ((with_reducible refine' i_eq ?ha ?_); (case ha => exact rfl)) | ((with_reducible refine' i_ne ?ha ?_); (case ha => exact rfl))
 | ((with_reducible show ∃ z, V.str _ = V.str z ∧ _); (refine ⟨_, rfl, ?_⟩))
 | ((with_reducible refine' i_rI ?hv ?_); (case hv => first | decide | (dsimp only; omega) | exact .inl ⟨by omega, by omega⟩ | exact .inr ⟨by omega, by omega⟩ | exact ⟨by decide, by decide⟩ | exact ⟨by decide, by decide, by decide⟩ | exact ⟨by omega, by omega⟩))
 | ((with_reducible show ∃ i, [V.int _] = [V.int i] ∧ _); (refine ⟨_, rfl, ?_⟩))
 | ((with_reducible show tyV _ "list" _ _ ∧ _); (refine' ⟨i_tyL ?ha, ?_⟩); (case ha => assumption)))
local macro_rules | `(tactic| walk_at "p") => `(tactic| repeat' (with_reducible first | (refine' pss_oneQ ?_; rotate_left 1) | (refine' pss_consQ ?_ ?_; rotate_left 2) | exact pss_nil | (refine' ps_if ?_ ?_ ?_; rotate_left 3)))
local macro_rules | `(tactic| walk_at "b") => `(tactic| (refine' pss_consQ ?_ ?_; rotate_left 2; walk_at "p"))
local macro_rules | `(tactic| walk_at "f") => `(tactic| (refine' ps_for PassesOwn.never rfl ?_ ?_ ?_ (fun _ => rfl); rotate_left 3))
local macro_rules | `(tactic| walk_at "q") => `(tactic| repeat' (with_reducible first | exact pe_strQ | exact pe_intQ | exact pa_nilQ | (refine' pe_tup ?_; rotate_left 1) | (refine' pe_lstQ ?_; rotate_left 1) | (refine' pa_consQ ?_ ?_ se_conQ; rotate_left 2) | (refine' pa_consQ ?_ ?_ se_tup; rotate_left 2) | (refine' pa_consQ ?_ ?_ se_nameQ; rotate_left 2) | (refine' pa_consQ ?_ ?_ se_sub; rotate_left 2) | (refine' pa_consQ ?_ ?_ se_bin; rotate_left 2) | (refine' pa_consQ ?_ ?_ se_lst; rotate_left 2) | (refine' pa_consQ ?_ ?_ se_call; rotate_left 2) | (refine' pa_consQ ?_ ?_ se_lc; rotate_left 2) | (refine' pa_consQ ?_ ?_ se_dict; rotate_left 2) | (refine' pa_consQ ?_ ?_ se_un; rotate_left 2)))
local macro_rules | `(tactic|room) => `(tactic| (intro vs H Q E h; repeat (first | (obtain ⟨e, _⟩ := h; subst e; rfl) | (obtain ⟨_, h⟩ := h))))
local macro_rules | `(tactic|x_go) => `(tactic| ((try dsimp only [cxOf, Cx.nox, Cx.wish]); (conv in (L2.start _ _) => simp only [L2.start, QH, List.map_nil, QU, List.length_nil, List.replicate_succ, List.replicate_zero, List.cons_append, List.nil_append, Nat.reduceAdd, Nat.reduceSub]); have big : 100000 < sizeLine := by decide))
local macro_rules | `(tactic|kt_k) => `(tactic| (with_reducible first | refine s_seq ?_ | refine s_if ?_ | refine s_next ?_ | refine i_or ?_ | refine s_nameQ ?_ | refine s_ret ?_))
local macro_rules|`(tactic|lk)=>`(tactic|repeat walk_at "vc")
local macro_rules|`(tactic|fin2)=>`(tactic|exact⟨rfl,rfl,rfl,by decide +kernel,rfl,by decide +kernel,by decide +kernel⟩)
local macro_rules|`(tactic|walk_at "d")=>`(tactic|try dsimp only[cxOf,Cx.nox,Cx.wish])
def qK:Sp:=λvs H Q _=>∃a li lg ins gvs gs,vs=[.ref a]/\NAt H a li lg ins gvs gs/\NetOk ins gs/\∀l H',am H H'->H l=none->H' l=some (.lst ((ao ins gs).map V.str))->Q (.ref l) H'
def qN:Sp:=λvs H Q _=>∃a li lg ins gvs gs,vs=[.ref a]/\NAt H a li lg ins gvs gs/\NetOk ins gs/\∀l H',am H H'->H l=none->H' l=some (.lst ((gs.map (·.1)).map V.str))->Q (.ref l) H'
variable {gvs vs ys us:List V} {a li lg f T b l p q g F a' li' lg' TL:Addr} {i n j m B:Nat} {Q:VK} {H H' H1 H2 H3 H4:Hp} {U:St}
theorem tG {K:PySem.W.Frag} {c:Int} {vals:List V} (hσ:U[i]?=some (some (.ref a))) (ha:H a=some (.tup [.ref li,.ref lg])) (hg:H lg=some (.lst gvs)) (hs:gvs.length<=1000)
  (hx:∀(j:Nat) x,gvs[j]?=some x->∃b ys v,x=.ref b/\H b=some (.tup ys)/\atI ys c=some v/\vals[j]?=some v) (hl:vals.length=gvs.length)
  (q:∀D H',H D=none->am H H'->H' D=some (.lst vals)->Q (.ref D) H') :
  jc (oI K (tOp (n_ K) (cq i) (tC (V.int 1)))) (dU 0) gI (tOp (n_ K) (cq 0) (tC (V.int c))) (bR [Str.ofString "gate"] []) U H Q:=by
 refine cN (s_list (bE (ak hσ (i_c (i_ixT ha rfl ⟨lg,rfl,⟨_,SqL.of hg⟩,λD hD=>?_⟩)))));have big:1000<sizeLine:=by decide
 refine eJ (xs:=gvs) (λn H' ys=>am H H'/\H' D=some (.lst ys)/\ys=vals.take n) ⟨ai hD,af,by simp⟩ (λn H' ys p=>⟨p.2.1,SqL.of (p.1 _ _ hg)⟩) (λn x H' ys e p=>?_) (λH' ys p=>?_)
 ·obtain⟨S,hd,rfl⟩:=p;obtain⟨b,zs,v,rfl,hb,hv,hv2⟩:=hx n x e;have hn:n<gvs.length:=(Qe.mp e).1;refine aA ⟨trivial,?_⟩;refine i_yes (cT ?_);refine bE (ak rfl (i_c (i_ixT (S _ _ hb) hv (cA.mk hd hn (by rw[Qs];omega) ⟨ba S hD,af,?_⟩))));rw[Q6,hv2];rfl
 obtain⟨S,hd,rfl⟩:=p;exact q D H' hD S (by rw[hd,Qw (by omega)])
theorem dC {α β:Type} {F:α->β->Prop}:∀{xs:List α} {ys:List β},Paired F xs ys->∀(j:Nat) x,xs[j]?=some x->∃y,ys[j]?=some y/\F x y
 | _,_,.nil=>λj x e=>by simp at e
 | _,_,.cons (a:=a) (b:=b) h t=>λj x e=>by
  cases j with
  | zero=>simp at e;subst e;exact⟨_,rfl,h⟩
  | succ j=>simp at e;obtain⟨y,e',f⟩:=dC t j x e;exact⟨y,by simpa using e',f⟩
variable {gs:E5} {ins ns ms xs zs ss:List Str}
theorem qo {K:PySem.W.Frag} {Q:VK} (hσ:U[i]?=some (some (.ref a))) (NA:NAt H a li lg ins gvs gs) (ok:NetOk ins gs)
  (q:∀D H',H D=none->am H H'->H' D=some (.lst ((gs.map (·.1)).map V.str))->Q (.ref D) H') :
  jc (oI K (tOp (n_ K) (cq i) (tC (V.int 1)))) (dU 0) gI (tOp (n_ K) (cq 0) (tC (V.int 0))) (bR [Str.ofString "gate"] []) U H Q:=by
 have l:=aU NA.gates;have g7:=ok.g7;refine tG (vals:=(gs.map (·.1)).map V.str) hσ NA.ha NA.hg (by omega) (λj x e=>?_) (by simp[l]) q;obtain⟨g,e',b,rv,rfl,hb,hr⟩:=dC NA.gates j x e;exact⟨b,_,_,rfl,hb,rfl,by simp[e']⟩
theorem kT (ok:NetOk ins gs):(ins.map V.str).length+((gs.map (·.1)).map V.str).length<=sizeLine:=by
 have g7:=ok.g7;have i4:=ok.i4;have big:1000<sizeLine:=by decide
 simp only[Qa];omega
theorem kS (ins:List Str) (gs:E5):ins.map V.str++(gs.map (·.1)).map V.str=(ao ins gs).map V.str:=by unfold ao;rw[Qx]
variable {P:Program} {w:World} {K:PySem.W.Frag} {mg:E3} {base:Heap} {TT:Addr}
section
theorem nY:FnScope ["net"] ["net"] (az (top 13)):=by fin2
theorem uV {f:Addr} {fd:FuncData} (Fu:Fun K "gates_of" "gates_of" (top 13) f fd) (T:Txt K mg TT):FnOk P w K mg base CX0 1 f fd ["net"] qN:=by
 have S:=nY;refine Fu.ok S (by room) (λcdv A outer s H vs Q E hr h=>?_);obtain⟨a,li,lg,ins,gvs,gs,rfl,NA,ok,k⟩:=h;refine⟨_,(aR (aK (f9 "gate" [] (b8 (aB a_ (pv 0) ad)) (λ_ _ _ _=>(aB (wP (K:=K) rfl) (pv 0) ad))))),?_⟩;x_go;refine qo (Q:=Q) rfl NA ok λD H2 hD s2 h2=>?_;exact k D H2 s2 hD h2
theorem nQ:FnScope ["net"] ["net"] (az (top 14)):=by fin2
theorem uP {f:Addr} {fd:FuncData} (Fu:Fun K "wires_of" "wires_of" (top 14) f fd) (T:Txt K mg TT) (f_gates_of:Fn P w K mg base "gates_of" ["net"] 1 qN):FnOk P w K mg base CX0 2 f fd ["net"] qK:=by
 have S:=nQ;refine Fu.ok S (by room) (λcdv A outer s H vs Q E hr h=>?_);obtain⟨a,li,lg,ins,gvs,gs,rfl,NA,ok,k⟩:=h;obtain⟨ha,hi,hg,gts⟩:=id NA;refine⟨_,(aR (aK (ap fu (dB eY (by rfl) T.n_list PyProof.Rows.boot_list (aa (aB a_ (pv 0) ad) ae)) (aY f_gates_of hr (aa (pv 0) ae))))),?_⟩;x_go;lk;intro l hl;have s1:=ai (o:=.lst (ins.map V.str)) hl;have NA1:=NA.same s1;lk;refine⟨a,li,lg,ins,gvs,gs,rfl,NA1,ok,λD H2 s2 hD h2=>?_⟩;have hl2:H2 l=some (.lst (ins.map V.str)):=s2 _ _ af;refine iH hl2 h2 (kT ok) λp hp=>?_;have hs:am H (upd H2 p (HO.lst (ins.map V.str++(gs.map (·.1)).map V.str))):=s1.trans (s2.trans (ai hp));refine k p _ hs (am.free (s1.trans s2) hp) ?_;rw[af,kS]
end
def lY (v:V):Sp:=λvs H Q _=>∃a li lg ins gvs gs z,vs=[.ref a,.str z]/\NAt H a li lg ins gvs gs/\NetOk ins gs/\StOk (ao ins gs).length z/\∀H',am H H'->Q v H'
def stB (n:Nat) (z:Str):Bool:=decide (z.cps.size=n)&&z.cps.toList.all λc=>c==48 || c==49
variable {z y s x h:Str}
theorem lU:stB n z=true↔StOk n z:=by
 unfold stB;rw[Xo,XB,Q2];exact⟨λh=>⟨h.1,λc hc=>by simpa using h.2 c hc⟩,λh=>⟨h.len,λc hc=>by simpa using h.signs c hc⟩⟩
def ua:Sp:=λvs H Q _=>∃(z:Str) (m:Nat),vs=[.str z,.int (m:Int)]/\z.length<=1000/\∀H',am H H'->Q (.bl (stB m z)) H'
def lX:Sp:=λvs H Q _=>∃a li lg ins gvs gs z,vs=[.ref a,.str z]/\NAt H a li lg ins gvs gs/\NetOk ins gs/\z.length<=1000/\∀H',am H H'->Q (.bl (stB (ao ins gs).length z)) H'
theorem zQ (c:Nat):PyProof.Rows.KTD.inKeys (⟨#[c]⟩:Str) [(("0" : Str),PyProof.Rows.KTD.Dat.flat (PyData.str "1")),("1", .flat (.str "0"))]=(c==48 || c==49):=by
 by_cases h:c=48
 ·subst h;decide +kernel
 by_cases h2:c=49
 ·subst h2;decide +kernel
 rw[beq_false_of_ne h,beq_false_of_ne h2];have e:∀d:Nat,c≠d->decide ((⟨#[c]⟩:Str)=⟨#[d]⟩)=false:=λd n=>Xa λz=>n (by cases z;rfl);show (decide ((⟨#[c]⟩:Str)=⟨#[48]⟩) || (decide ((⟨#[c]⟩:Str)=⟨#[49]⟩) || false))=false;rw[e 48 h,e 49 h2];rfl
section
theorem k_:FnScope ["thing", "many"] ["thing", "many"] (az (top 12)):=by fin2
variable {fd:FuncData} {f:Addr}
theorem zo (Fu:Fun K "is_row" "is_row" (top 12) f fd) (T:Txt K mg TT):FnOk P w K mg base CX0 1 f fd ["thing", "many"] ua:=by
 have S:=k_;refine Fu.ok S (by room) (λcdv A outer s H vs Q E hr h=>?_);obtain⟨z,m,rfl,hz,k⟩:=h
 refine⟨_,(aN (ps_if (PW.pt (gN (gt (fm (aF fD (by rfl) T.n_isinstance Q0 (aa (pv 0) (aa (iX (v:=.ty "str") (by rfl) T.n_str PyProof.Rows.boot_str rfl) ae))))) (eP (aH iF (aF du (by rfl) T.n_len QG (aa (pv 0) ae)) (pv 1) (aO _))))) (aR (aK f_)) pss_nil)
  (aR (aK (aF (oS rfl) (by rfl) T.n_all PyProof.Rows.boot_all (aa (f9 "sign" [] (uv (pv 0)) (λ_ _ _ _=>(dq (lm T.tab) (pv 0) (dj (v:=.ref TT) (by rfl) T.tURNED rfl) rfl))) ae))))),?_⟩
 x_go;lk;refine⟨_,_,_,_,rfl,TyOf.str z,oE "str", ?_⟩;refine⟨_,rfl,cU ?_⟩;have big:1000<sizeLine:=by decide
 lk;refine⟨_,rfl,(by omega),?_⟩;lk;by_cases cz:z.length=m
 case neg =>
  refine ifT (by rw[Xa λh=>cz (by injection h with h;omega)];rfl) ?_;lk
  have e:stB m z=false:=by
   unfold stB;rw[Xa (show ¬z.cps.size=m from cz)];rfl
  have:=k H (am.refl _);rwa [e]at this
 refine ifF (by rw[cz];simp) ?_;lk;refine cN ?_;lk;intro D hD;let I1:IvC:=λn H' ys=>am H H'/\H' D=some (.lst ys)/\ys=((z.cps.toList.take n).map λc=>c==48 || c==49).map V.bl;refine vO I1 ⟨ai hD,af,rfl⟩ (λn H' ys p=>p.2.1) (λn H' ys hn p=>?_) (λH' ys p=>?_)
 ·obtain⟨Sm,hd,rfl⟩:=p;refine aA ⟨trivial,i_yes (cT ?_)⟩;refine bE (ak rfl (i_c ⟨_,rfl,rfl,?_⟩));have zl:z.cps.size=z.length:=rfl;refine cA.mk hd hn (by rw[Qa,Qa,Qs];omega) ⟨ba Sm hD,af,?_⟩
  have e:z.cps.toList[n]?=some (z.cps.getD n 0):=by
   rw[Qy,Xs hn];simp[Array.getD,hn]
  rw[Q6,e,Option.toList_some,Qx,Qx];exact congrArg (λb=>((z.cps.toList.take n).map λc=>c==48 || c==49).map V.bl++[V.bl b]) (zQ _)
 obtain⟨Sm,hd,rfl⟩:=p;refine aM ⟨_,_,rfl,SqL.of hd,?_⟩
 have e:(((z.cps.toList.take z.cps.size).map λc=>c==48 || c==49)).all id=stB m z:=by
  unfold stB;rw[Xw (show z.cps.size=m from cz),Bool.true_and,List.all_map,Qw (by rw[Qo];exact Qf _)];rfl
 rw[e];exact k H' Sm
theorem fj:FnScope ["net", "thing"] ["net", "thing"] (az (top 15)):=by fin2
theorem rc (Fu:Fun K "is_standing" "is_standing" (top 15) f fd) (T:Txt K mg TT) (f_is_row:Fn P w K mg base "is_row" ["thing", "many"] 1 ua):FnOk P w K mg base CX0 2 f fd ["net", "thing"] lX:=by
 have S:=fj;refine Fu.ok S (by room) (λcdv A outer s H vs Q E hr h=>?_);obtain⟨a,li,lg,ins,gvs,gs,z,rfl,NA,ok,st,k⟩:=h;obtain⟨ha,hi,hg,gts⟩:=id NA;refine⟨_,(aR (aK (aY f_is_row hr (aa (pv 1) (aa (ap aW (aF aJ (by rfl) T.n_len QG (aa (aB a_ (pv 0) ad) ae)) (aF aJ (by rfl) T.n_len QG (aa (aB a_ (pv 0) ad) ae))) ae))))),?_⟩;x_go
 have hz:(ao ins gs).length=ins.length+gs.length:=by
  unfold ao;rw[Qg,Qa]
 have lg:=aU NA.gates;lk;refine⟨z,(ao ins gs).length,?_,st,λH' Sm=>k H' Sm⟩;rw[Qa,lg,hz];rfl
theorem dP:FnScope ["net", "thing"] ["net", "thing"] (az (top 16)):=by fin2
theorem oo (Fu:Fun K "check_standing" "check_standing" (top 16) f fd) (T:Txt K mg TT) (f_is_standing:Fn P w K mg base "is_standing" ["net", "thing"] 2 lX):FnOk P w K mg base CX0 3 f fd ["net", "thing"] (lY .non):=by
 have S:=dP;refine Fu.ok S (by room) (λcdv A outer s H vs Q E hr h=>?_);obtain⟨a,li,lg,ins,gvs,gs,z,rfl,NA,ok,st,k⟩:=h;refine⟨_,(aR (ps_if (gt (fm (aY f_is_standing hr (aa (pv 0) (aa (pv 1) ae))))) d9 pss_nil)),?_⟩;x_go;lk;have w11:(ao ins gs).length<=11:=by unfold ao;rw[Qg,Qa];have:=ok.i4;have:=ok.g7;omega
 have zl:z.length=(ao ins gs).length:=st.len;refine⟨a,li,lg,ins,gvs,gs,z,rfl,NA,ok,by omega,λH' Sm=>⟨_,rfl,?_⟩⟩;rw[lU.mpr st];exact cU (k H' Sm)
def fM (d:Nat):Sp:=λvs H Q _=>∃v a kvs r ns g,vs=[v,.ref a]/\RAt H v r/\r.dep<=d/\r.ok ns/\H a=some (.dK kvs)/\DFn kvs ns g/\Q (.bl (r.val g)) H
theorem gy {k:Nat} {ps:List Str} {sp:Sp} (h:∀vs H Q E,sp vs H Q E->False):FnOk P w K mg base CX0 k f fd ps sp :=
 ⟨λvs H Q E q=>(h vs H Q E q).elim,λ_ _ _ _ _ _ vs Q E _ _ _ _ q=>(h _ _ _ _ q).elim⟩
theorem rG (r:Rl):1<=r.dep:=by cases r <;> simp[Rl.dep]
theorem pj (b:Bool):decide (sg b=V.str "1")=b:=by
 cases b
 ·decide +kernel
 decide +kernel
theorem kG:FnScope ["rule", "signs", "kind"] ["rule", "signs"] (az (top 17)):=by fin2
theorem om {f:Addr} {fd:FuncData} (Fu:Fun K "rule_holds" "rule_holds" (top 17) f fd) (T:Txt K mg TT) (hm:mg "rule_holds" = some (.ref f)) (hk:PySem.W.keepIn K (.ref f)=true) (hb:dW K fd ["rule", "signs"] []):∀d,FnOk P w K mg base CX0 d f fd ["rule", "signs"] (fM d)
 | 0=>gy λvs H Q E ⟨v,a,kvs,r,ns,g,_,_,h,_⟩=>by have:=rG r;omega
 | d+1=>by
  have S:=kG;have f_rule_holds:Fn P w K mg base "rule_holds" ["rule", "signs"] d (fM d):=⟨f,fd,om Fu T hm hk hb d,hm,hk,hb⟩;refine Fu.ok S (λvs H Q E h=>?_) (λcdv A outer s H vs Q E hr h=>?_)
  ·obtain⟨v,a,kvs,r,ns,g,rfl,_⟩:=h;rfl
  obtain⟨v,a,kvs,r,ns,g,rfl,ra,hd,rok,ha,hf,q⟩:=h;have hu:=dS hr
  refine⟨_,(aN (aC 2 S.nd (aB a_ (pv 0) ad))
  (aN (ps_if (aH bZ (pv 2) aP (aO _)) (aR (aK (dq bZ (cu hu (pv 1) (aB a_ (pv 0) ad)) aP (aO _)))) pss_nil)
  (aN (ps_if (aH bZ (pv 2) aP (aO _)) (aR (aK (uz (aY f_rule_holds hr (aa (aB a_ (pv 0) ad) (aa (pv 1) ae)))))) pss_nil)
  (aN (ps_if (aH bZ (pv 2) aP (aO _)) (aR (aK (mD (aY f_rule_holds hr (aa (aB a_ (pv 0) ad) (aa (pv 1) ae))) (jv (aY f_rule_holds hr (aa (aB a_ (pv 0) ad) (aa (pv 1) ae))))))) pss_nil)
  (aR (aK (xO (aY f_rule_holds hr (aa (aB a_ (pv 0) ad) (aa (pv 1) ae))) (jv (aY f_rule_holds hr (aa (aB a_ (pv 0) ad) (aa (pv 1) ae))))))))))),?_⟩
  x_go
  cases ra with
  | @w b n hb =>
   lk;refine ifT (by decide +kernel) ?_;lk;have hv:bw kvs (Sum.inr n:Key)=some (sg (g n)):=hf n rok;refine⟨a,sg (g n),rfl,by rw[<-hv];exact c8.k (k:=Sum.inr n) ha,?_⟩;lk;refine i_eq (by cases g n <;> rfl) ?_;rw[pj];exact q
  | @no b u r hb hr1 =>
   lk;refine ifF (by decide +kernel) ?_;lk;refine ifT (by decide +kernel) ?_;lk;exact⟨u,a,kvs,r,ns,g,rfl,hr1,by simp only[Rl.dep]at hd;omega,rok,ha,hf,⟨_,rfl,q⟩⟩
  | @an b u x r1 r2 hb hr1 hr2 =>
   lk;refine ifF (by decide +kernel) ?_;lk;refine ifF (by decide +kernel) ?_;lk;refine ifT (by decide +kernel) ?_;lk;simp only[Rl.dep]at hd;refine⟨u,a,kvs,r1,ns,g,rfl,hr1,by omega,rok.1,ha,hf,⟨_,rfl,?_⟩⟩;have e:Rl.val g (Rl.an r1 r2)=(r1.val g&&r2.val g):=rfl;rw[e]at q
   cases hv:r1.val g with
   | false=>rw[hv]at q;exact cU q
   | true =>
   rw[hv]at q;refine cT ?_;lk;exact⟨x,a,kvs,r2,ns,g,rfl,hr2,by omega,rok.2,ha,hf,q⟩
  | @orr b u x r1 r2 hb hr1 hr2 =>
  lk;refine ifF (by decide +kernel) ?_;lk;refine ifF (by decide +kernel) ?_;lk;refine ifF (by decide +kernel) ?_;lk;simp only[Rl.dep]at hd;refine⟨u,a,kvs,r1,ns,g,rfl,hr1,by omega,rok.1,ha,hf,⟨_,rfl,?_⟩⟩;have e:Rl.val g (Rl.orr r1 r2)=(r1.val g || r2.val g):=rfl;rw[e]at q
  cases hv:r1.val g with
  | true=>rw[hv]at q;exact cT q
  | false =>
  rw[hv]at q;refine cU ?_;lk;exact⟨x,a,kvs,r2,ns,g,rfl,hr2,by omega,rok.2,ha,hf,q⟩
def qJ (d:Nat):Sp:=λvs H Q _=>∃v a kvs r ns g,vs=[v,.ref a]/\RAt H v r/\r.dep<=d/\r.ok ns/\H a=some (.dK kvs)/\DFn kvs ns g/\Q (sg (r.val g)) H
theorem kD:FnScope ["rule", "signs"] ["rule", "signs"] (az (top 18)):=by fin2
theorem uO (Fu:Fun K "rule_worth" "rule_worth" (top 18) f fd) (T:Txt K mg TT) (f_rule_holds:Fn P w K mg base "rule_holds" ["rule", "signs"] 10 (fM 10)):FnOk P w K mg base CX0 11 f fd ["rule", "signs"] (qJ 10):=by
 have S:=kD;refine Fu.ok S (by room) (λcdv A outer s H vs Q E hr h=>?_);obtain⟨v,a,kvs,r,ns,g,rfl,ra,hd,rok,ha,hf,q⟩:=h;refine⟨_,(aR (aK (uB (fm (aY f_rule_holds hr (aa (pv 0) (aa (pv 1) ae)))) aP aP))),?_⟩;x_go;lk;refine⟨v,a,kvs,r,ns,g,rfl,ra,hd,rok,ha,hf,⟨_,rfl,?_⟩⟩
 cases hv:r.val g with
 | true=>rw[hv]at q;exact cT q
 | false=>rw[hv]at q;exact cU q
end
theorem eZ {k:Key}:∀{qs kvs:List (Key × V)},k∉qs.map (·.1)->bw (bP kvs qs) k=bw kvs k
 | [],kvs,_=>rfl
 | q::qs,kvs,h=>by
  simp only[QH,QV,not_or]at h;show bw (bP (cf kvs q.1 q.2) qs) k=_;rw[eZ h.2,nw,QA h.1]
theorem fi {k:Key} {v:V}:∀{qs kvs:List (Key × V)},(qs.map (·.1)).Nodup->(k,v)∈qs->bw (bP kvs qs) k=some v
 | [],kvs,_,h=>nomatch h
 | q::qs,kvs,nd,h=>by
  rw[QH,Xb]at nd;show bw (bP (cf kvs q.1 q.2) qs) k=_;rcases QV.mp h with e|h
  ·subst e;rw[eZ nd.1,nw,QJ rfl]
  exact fi nd.2 h
theorem ni (ns:List Str) (z:Str):(cJ ns z).map (·.1)=ns.map Sum.inr:=by
 unfold cJ;rw[QX];have e:((λx:Key × V=>x.1)∘λp:Str × Nat=>((Sum.inr p.1:Key),fg z p.2))=(λp:Str × Nat=>(Sum.inr p.1:Key)):=rfl;rw[e];have e2:(λp:Str × Nat=>(Sum.inr p.1:Key))=(Sum.inr:Str->Key)∘Prod.fst:=rfl;rw[e2,<-QX,List.zipIdx_map_fst]
theorem sS (h:ns.Nodup):(ns.map (Sum.inr:Str->Key)).Nodup:=by
 induction ns with
 | nil=>exact List.nodup_nil
 | cons a r ih =>
 rw[Xb]at h;rw[QH,Xb];refine⟨λm=>?_,ih h.2⟩;obtain⟨x,hx,e⟩:=Ql.mp m;cases e;exact h.1 hx
theorem iU (st:StOk n z) (hi:i<n):fg z i=sg (z.cps.getD i 0==49):=by
 have hl:=st.len;have e:z.cps.getD i 0=z.cps[i]'(by omega):=by simp[Array.getD,hl,hi]
 have:z.cps.getD i 0=48\/z.cps.getD i 0=49:=by
  rw[e];exact st.signs _ (by simp)
 unfold fg;rcases this with e|e
 ·rw[e];decide +kernel
 rw[e];decide +kernel
theorem rF (nd:ns.Nodup) (st:StOk ns.length z):DFn (bP [] (cJ ns z)) ns (sgn ns z):=λn hn=>by
 have hi:ns.idxOf n<ns.length:=List.idxOf_lt_length_of_mem hn;have e:ns[ns.idxOf n]?=some n:=by rw[Qd hi];exact congrArg some (List.getElem_idxOf hi)
 have hm:((Sum.inr n:Key),fg z (ns.idxOf n))∈cJ ns z:=by
  unfold cJ;refine Ql.mpr ⟨(n,ns.idxOf n),?_,rfl⟩;rw[List.mem_zipIdx_iff_getElem?];exact e
 rw[fi (by rw[ni];exact sS nd) hm,iU st hi];rfl
def k9:Sp:=λvs H Q _=>∃a li lg ins gvs gs z,vs=[.ref a,.str z]/\NAt H a li lg ins gvs gs/\NetOk ins gs/\StOk (ao ins gs).length z /\
 ∀d H' kvs,am H H'->H' d=some (.dK kvs)->DFn kvs (ao ins gs) (sgn (ao ins gs) z)->Q (.ref d) H'
section
theorem nR:FnScope ["net", "standing"] ["net", "standing"] (az (top 19)):=by fin2
theorem pH {f:Addr} {fd:FuncData} (Fu:Fun K "signs_in" "signs_in" (top 19) f fd) (T:Txt K mg TT) (f_wires_of:Fn P w K mg base "wires_of" ["net"] 2 qK):FnOk P w K mg base CX0 3 f fd ["net", "standing"] k9:=by
 have S:=nR;refine Fu.ok S (by room) (λcdv A outer s H vs Q E hr h=>?_);obtain⟨a,li,lg,ins,gvs,gs,z,rfl,NA,ok,st,k⟩:=h;refine⟨_,(aR (aK (qY rfl (by rfl) T.n_dict (by rfl) T.n_zip (aa (aY f_wires_of hr (aa (pv 0) ae)) (aa (pv 1) ae))))),?_⟩;x_go
 have wl:(ao ins gs).length<1000:=by
  have i4:=ok.i4;have g7:=ok.g7;unfold ao;rw[Qg,Qa];omega
 lk;show bq _ _ _ _ _;lk;refine⟨a,li,lg,ins,gvs,gs,rfl,NA,ok,λl H1 S1 hl h1=>?_⟩;lk;refine⟨l,ao ins gs,z,rfl,SqL.of h1,by rw[st.len];omega,wl,λd hd=>?_⟩;exact k d _ _ (S1.trans (ai hd)) af (rF ok.nd st)
end
def c_ (z:Str) (i:Nat):Str:=if (z.cps.getD i 0==49)=true then "0" else "1"
def fe (z:Str) (i:Nat):Str:=(Txt.slice z none (some (i:Int))++c_ z i)++Txt.slice z (some ((i:Int)+1)) none
def nG:Sp:=λvs H Q _=>∃(z:Str) (n i:Nat),vs=[.str z,.int (i:Int)]/\StOk n z/\i<n/\n<=11/\Q (.str (fe z i)) H
section
theorem mY {n:Nat} {z:Str} (st:StOk n z) {i:Nat} (hi:i<n):atI z.cps.toList ((i:Nat):Int)=some (z.cps.getD i 0):=by
 have hl:=st.len;refine bU ?_;simp[Array.getD,hl,hi]
theorem l8:FnScope ["standing", "place"] ["standing", "place"] (az (top 20)):=by fin2
theorem sG {f:Addr} {fd:FuncData} (Fu:Fun K "turned_at" "turned_at" (top 20) f fd) (T:Txt K mg TT):FnOk P w K mg base CX0 1 f fd ["standing", "place"] nG:=by
 have S:=l8;refine Fu.ok S (by room) (λcdv A outer s H vs Q E hr h=>?_);obtain⟨z,n,i,rfl,st,hi,hn,k⟩:=h;refine⟨_,(aR (aK (ap bt (ap bt (bx dE (pv 0) bK (bJ (pv 1))) (aB (wO T.tab) (dj (v:=.ref TT) (by rfl) T.tURNED rfl) (aB dL (pv 0) (pv 1)))) (bx dE (pv 0) (bJ (ap aW (pv 1) ad)) bK)))),?_⟩;x_go;have hz:z.length=n:=st.len;have big:1000<sizeLine:=by decide
 lk;have s1:=Txt.slice_le z none (some (i:Int));have s2:=Txt.slice_le z (some ((i:Int)+1)) none
 have fl:(c_ z i).length=1:=by
  unfold c_
  split
  ·decide +kernel
  decide +kernel
 refine fw (by omega) ?_;refine bE (i_c ?_);refine bE (ak rfl (ak rfl (fz (by omega) (mY st hi) ?_)));have e:=iU st hi;unfold fg at e;rw[e]
 have step:∀(b:Bool) (G:VK),G (.str (if b=true then "0" else "1")) H->qT TT (.ref TT) (sg b) H G:=λb G g=>by
  cases b
  ·exact⟨rfl,.inl ⟨rfl,g⟩⟩
  exact⟨rfl,.inr ⟨rfl,g⟩⟩
 refine step _ _ ?_;show ∃i_1 j,V.str _=V.str i_1/\V.str (c_ z i)=V.str j/\_;have l1:(Txt.slice z none (some (i:Int))++c_ z i).length=(Txt.slice z none (some (i:Int))).length+(c_ z i).length:=Xd;refine⟨_,_,rfl,rfl,by omega,?_⟩;lk;refine fw (by omega) ?_;exact⟨_,_,rfl,rfl,by rw[l1];omega,k⟩
end
theorem jO {xs:Array Nat}:∀(j a:Nat),a+j<=xs.size->((List.range j).map λk=>a+k).filterMap (xs[·]?)=(xs.toList.drop a).take j
 | 0,a,_=>by simp
 | j+1,a,h=>by
  rw[List.range_succ,Qx,List.filterMap_append,jO j a (by omega),Q6];have e:(xs.toList.drop a)[j]?=xs[a+j]?:=by rw[List.getElem?_drop];simp
  rw[e];have q:xs[a+j]?=some (xs[a+j]'(by omega)):=by rw[Xs]
  simp[q]
theorem ji {a b:Nat} {lo hi:Option Int} (hl:PySem.Builtin.Str.strSliceIndices lo hi 1 z.length=(List.range (b-a)).map λk=>a+k) (hb:b<=z.cps.size) (hab:a<=b):(Txt.slice z lo hi).cps.toList=(z.cps.toList.drop a).take (b-a):=by
 unfold Txt.slice;rw[hl]
 split
 ·rename_i h
  have h:b-a=z.length:=by simpa using h
  have h':z.length=z.cps.size:=rfl;have a0:a=0:=by omega
  subst a0;rw[List.drop_zero,Qw (by rw[Qo];omega)]
 exact jO (b-a) a (by omega)
theorem gL {z:Str} {j:Nat} (h:j<=z.cps.size):(Txt.slice z none (some (j:Int))).cps.toList=z.cps.toList.take j:=by
 have h':z.length=z.cps.size:=rfl;refine(ji (a:=0) (b:=j) ?_ h (QQ _)).trans (by simp);unfold PySem.Builtin.Str.strSliceIndices sliceRange
 have e:max 0 (min (if (j:Int)<0 then (j:Int)+z.length else (j:Int)) (z.length:Int))=(j:Int):=by
  rw[QA (Int.not_lt.mpr (Int.natCast_nonneg _)),Int.min_eq_left (show _<=(z.length:Int) from Int.ofNat_le.mpr h),Int.max_eq_right (Int.natCast_nonneg _)]
 simp only[show (1:Int)>0 from by decide,if_true,e]
 have c:(if (0:Int)<(j:Int) then ((j:Int)-0+1-1) / 1 else 0).toNat=j-0:=by
  rw[Int.ediv_one,Int.add_sub_cancel,Int.sub_zero,Nat.sub_zero]
  split
  ·rfl
  omega
 rw[c];refine List.map_congr_left λk _=>?_;omega
theorem gk {z:Str} {a:Nat} (h:a<=z.cps.size):(Txt.slice z (some (a:Int)) none).cps.toList=z.cps.toList.drop a:=by
 have h':z.length=z.cps.size:=rfl;refine(ji (a:=a) (b:=z.cps.size) ?_ (Qf _) h).trans (by rw[Qw (by rw[Q4,Qo];omega)]);unfold PySem.Builtin.Str.strSliceIndices sliceRange
 have e:max 0 (min (if (a:Int)<0 then (a:Int)+z.length else (a:Int)) (z.length:Int))=(a:Int):=by
  rw[QA (Int.not_lt.mpr (Int.natCast_nonneg _)),Int.min_eq_left (show _<=(z.length:Int) from Int.ofNat_le.mpr h),Int.max_eq_right (Int.natCast_nonneg _)]
 simp only[show (1:Int)>0 from by decide,if_true,e]
 have c:(if (a:Int)<(z.length:Int) then ((z.length:Int)-(a:Int)+1-1) / 1 else 0).toNat=z.cps.size-a:=by
  rw[Int.ediv_one,Int.add_sub_cancel,h']
  split
  ·rw[<-Int.ofNat_sub h];rfl
  omega
 rw[c];refine List.map_congr_left λk _=>?_;omega
theorem qz (st:StOk n z) (hi:i<n):StOk n (fe z i):=by
 have hl:=st.len;have a:=gL (z:=z) (j:=i) (by omega);have b:=gk (z:=z) (a:=i+1) (by omega);rw[show ((i+1:Nat):Int)=(i:Int)+1 from by omega]at b
 have f:(c_ z i).cps.toList=[48]\/(c_ z i).cps.toList=[49]:=by
  unfold c_
  split
  ·exact .inl (by decide +kernel)
  exact .inr (by decide +kernel)
 have e:(fe z i).cps.toList=(z.cps.toList.take i++(c_ z i).cps.toList)++z.cps.toList.drop (i+1):=by
  unfold fe;show ((_++_)++_:Array Nat).toList=_;rw[QK,QK,a,b]
 refine⟨?_,λc hc=>?_⟩
 ·rw[<-Qo,e,Qg,Qg,Qs,Q4,Qo];have:(c_ z i).cps.toList.length=1:=by rcases f with f|f <;> rw[f] <;> rfl
  omega
 rw[e]at hc;rcases Qr.mp hc with h|h
 ·rcases Qr.mp h with h|h
  ·exact st.signs c (List.mem_of_mem_take h)
  rcases f with f|f
  ·rw[f]at h;exact .inl (by simpa using h)
  rw[f]at h;exact .inr (by simpa using h)
 exact st.signs c (List.mem_of_mem_drop h)
theorem turn_list (st:StOk n z) (hi:i<n):(fe z i).cps.toList=z.cps.toList.take i++(if (z.cps.getD i 0==49)=true then 48 else 49)::z.cps.toList.drop (i+1):=by
 have hl:=st.len;have a:=gL (z:=z) (j:=i) (by omega);have b:=gk (z:=z) (a:=i+1) (by omega);rw[show ((i+1:Nat):Int)=(i:Int)+1 from by omega]at b
 have f:(c_ z i).cps.toList=[if (z.cps.getD i 0==49)=true then 48 else 49]:=by
  unfold c_
  split
  ·decide +kernel
  decide +kernel
 unfold fe;show ((_++_)++_:Array Nat).toList=_;rw[QK,QK,a,b,f];simp
def ce (f:Str->Bool) (z:Str) (p:(Str × Rl) × Nat):Option (Str × Str):=if (p.1.2.val f==(z.cps.getD p.2 0==49))=true then none else some (p.1.1,fe z p.2)
def au (ins:List Str) (gs:E5) (z:Str):List (Str × Str):=(gs.zipIdx ins.length).filterMap (ce (sgn (ao ins gs) z) z)
def ng (H:Hp) (v:V) (p:Str × Str):Prop:=∃b,v=.ref b/\H b=some (.tup [.str p.1,.str p.2])
variable {v:V}
theorem ng.mono (hs:dh H H') {p:Str × Str} (h:ng H v p):ng H' v p:=let ⟨b,e,q⟩:=h;⟨b,e,hs _ _ q⟩
theorem cr {H H':Hp} (hs:dh H H'):∀{vs:List V} {ps:List (Str × Str)},Paired (ng H) vs ps->Paired (ng H') vs ps
 | _,_,.nil=>.nil
 | _,_,.cons h t=>.cons (h.mono hs) (cr hs t)
theorem cM {α β:Type} {F:α->β->Prop}:∀{xs:List α} {ys:List β} {x:α} {y:β},Paired F xs ys->F x y->Paired F (xs++[x]) (ys++[y])
 | _,_,_,_,.nil,h=>.cons h .nil
 | _,_,_,_,.cons a t,h=>.cons a (cM t h)
def fI:Sp:=λvs H Q _=>∃a li lg ins gvs gs z,vs=[.ref a,.str z]/\NAt H a li lg ins gvs gs/\NetOk ins gs/\StOk (ao ins gs).length z /\
 ∀l vs' H',am H H'->H l=none->H' l=some (.lst vs')->Paired (ng H') vs' (au ins gs z)->Q (.ref l) H'
theorem Ax (a b:Bool):decide (sg a=sg b)=(a==b):=by
 cases a <;> cases b <;> decide +kernel
section
theorem kB:FnScope ["net", "standing", "signs", "steps", "place", "gate"] ["net", "standing"] (az (top 21)):=by fin2
theorem uQ {f:Addr} {fd:FuncData} (Fu:Fun K "steps_from" "steps_from" (top 21) f fd) (T:Txt K mg TT) (f_signs_in:Fn P w K mg base "signs_in" ["net", "standing"] 3 k9) (f_rule_worth:Fn P w K mg base "rule_worth" ["rule", "signs"] 11 (qJ 10)) (f_turned_at:Fn P w K mg base "turned_at" ["standing", "place"] 1 nG) :
  FnOk P w K mg base CX0 12 f fd ["net", "standing"] fI:=by
 have S:=kB;refine Fu.ok S (by room) (λcdv A outer s H vs Q E hr h=>?_);obtain⟨a,li,lg,ins,gvs,gs,z,rfl,NA,ok,st,k⟩:=h
 refine⟨_,(aN (aC 2 S.nd (aY f_signs_in hr (aa (pv 0) (aa (pv 1) ae))))
  (aN (aC 3 S.nd (bo ae))
  (aN (ps_for PassesOwn.never rfl (uw (by rfl) T.n_enumerate (aa (aB a_ (pv 0) ad) ae) (wq (aF aJ (by rfl) T.n_len QG (aa (aB a_ (pv 0) ad) ae)) yV)) (im rfl (bM (b9 4 S.nd) (bM (b9 5 S.nd) eR)))
  (aR (ps_if (aH iF (aY f_rule_worth hr (aa (aB a_ (pv 5) ad) (aa (pv 2) ae))) (aB dL (pv 1) (pv 4)) (aO _)) (aR (bD (dH QP QS QT bu (pv 3) (aa (pe_tup (aa (aB a_ (pv 5) ad) (aa (aY f_turned_at hr (aa (pv 1) (aa (pv 4) ae))) ae))) ae)))) pss_nil)))
  (aR (aK (pv 3)))))),?_⟩
 x_go;have i4:=ok.i4;have g7:=ok.g7;have lgn:=aU NA.gates;have wl:(ao ins gs).length=ins.length+gs.length:=by unfold ao;rw[Qg,Qa]
 have big:1000<sizeLine:=by decide
 lk;refine⟨a,li,lg,ins,gvs,gs,z,rfl,NA,ok,st,λd H1 kvs S1 hd df=>?_⟩;lk;refine⟨by simp[sizeLine],λl hl=>?_⟩;generalize hE:upd _ l _=H2;have S2:am H1 H2:=by rw[<-hE];exact ai hl
 have q2:H2 l=some (.lst []):=by rw[<-hE];exact af
 clear hE;have S12:=S1.trans S2;have hlH:H l=none:=am.free S1 hl;have NA2:=NA.same S12;have hd2:=S2 _ _ hd;have dl:d≠l:=aE hd hl;obtain⟨ha,hi,hg,gts⟩:=id NA2;lk;show bq _ _ _ _ _;lk;refine⟨lg,_,rfl,rfl,by rw[Qa];omega,⟨_,SqL.of hg⟩,?_⟩;have nlg:lg≠l:=aE NA.hg hlH;let I2:IvF:=λi U H'=>(∃x4 x5 vs',U=[some (.ref a),some (.str z),some (.ref d),some (.ref l),x4,x5]/\H' l=some (.lst vs')/\vs'.length<=i/\Paired (ng H') vs' (((gs.zipIdx ins.length).take i).filterMap (ce (sgn (ao ins gs) z) z)))/\am H H'/\H' d=some (.dK kvs)
 refine tw (xs:=gvs) I2
  ⟨⟨_,_,[],rfl,q2,by simp,by simp;exact .nil⟩,S12,hd2⟩ (λi U H' _ pv=>SqL.of (pv.2.1 _ _ NA.hg)) (λi x U H' t hx pv ht=>?_) (λU H' pv=>?_)
 ·obtain⟨⟨x4,x5,vs',rfl,hl',hlen,hp⟩,SS,hd'⟩:=pv;have hig:i<gvs.length:=(Qe.mp hx).1;obtain⟨g,hgi,b,rv,rfl,hb,hrv⟩:=dC NA.gates i x hx;have S3:=ai (o:=.tup [.int (((ins.map V.str).length:Int)+(i:Nat)),.ref b]) ht;refine⟨t,_,rfl,SqT.of af,rfl,?_⟩;refine⟨_,_,rfl,aA ⟨_,_,rfl,aA ?_⟩⟩;have hl3:=S3 _ _ hl';have hd3:=S3 _ _ hd';have SS3:=SS.trans S3;have hp3:=cr (am.tups S3) hp;generalize upd H' t (.tup [.int (((ins.map V.str).length:Int)+(i:Nat)),.ref b])=H3 at *;have hb3:=SS3 _ _ hb;have hr3:=hrv.mono (am.tups SS3);have gm:g∈gs:=Qj hgi;have ep:(((ins.map V.str).length:Int)+(i:Nat))=((ins.length+i:Nat):Int):=by rw[Qa];omega
  rw[ep];obtain⟨rok,rdep⟩:=ok.rules g gm;have hpl:ins.length+i<(ao ins gs).length:=by omega
  have hzi:(gs.zipIdx ins.length)[i]?=some (g,ins.length+i):=by rw[List.getElem?_zipIdx,hgi];rfl
  refine⟨rfl,?_⟩;lk;refine⟨rv,d,kvs,g.2,_,_,rfl,hr3,rdep,rok,hd3,df,?_⟩;generalize hv:g.2.val (sgn (ao ins gs) z)=bv;have e:=iU st hpl;unfold fg at e;have zl:z.length=(ao ins gs).length:=st.len;lk;refine fz (by omega) (mY st hpl) ?_;rw[e];refine i_ne (by cases bv <;> cases (z.cps.getD (ins.length+i) 0==49) <;> rfl) ?_;rw[Ax];refine⟨_,rfl,?_⟩
  have tk:((gs.zipIdx ins.length).take (i+1)).filterMap (ce (sgn (ao ins gs) z) z)=((gs.zipIdx ins.length).take i).filterMap (ce (sgn (ao ins gs) z) z)++(ce (sgn (ao ins gs) z) z (g,ins.length+i)).toList:=by
   rw[Q6,hzi,List.filterMap_append];cases h:ce (sgn (ao ins gs) z) z (g,ins.length+i) <;> simp[h]
  have so:ce (sgn (ao ins gs) z) z (g,ins.length+i)=if (bv==(z.cps.getD (ins.length+i) 0==49))=true then none else some (g.1,fe z (ins.length+i)):=by
   unfold ce;rw[hv]
  cases hc:(bv==(z.cps.getD (ins.length+i) 0==49)) with
  | true =>
   refine cU ?_;rw[hc]at so;refine⟨⟨_,_,vs',rfl,hl3,by omega,?_⟩,SS3,hd3⟩;rw[tk,so];simpa using hp3
  | false =>
  refine cT ?_;rw[hc]at so;lk;refine⟨z,_,ins.length+i,rfl,st,hpl,by omega,?_⟩;lk;refine⟨by simp[sizeLine],λq hq=>?_⟩;generalize hE:upd _ q _=H4;have S4:am H3 H4:=by rw[<-hE];exact ai hq
  have q4:H4 q=some (.tup [.str g.1,.str (fe z (ins.length+i))]):=by rw[<-hE];exact af
  clear hE;have hl4:=S4 _ _ hl3;have hd4:=S4 _ _ hd3;have nql:q≠l:=λe=>by rw[e,hl3]at hq;cases hq
  lk;refine fA hl4 (by omega) ?_
  have kt:dh H4 (upd H4 l (.lst (vs'++[.ref q]))):=λb xs e=>by
   have:b≠l:=λx=>by rw[x,hl4]at e;cases e
   rw[aj this];exact e
  refine⟨⟨_,_,vs'++[.ref q],rfl,af,by simp;omega,?_⟩,ba (SS3.trans S4) hlH,by rw[aj dl];exact hd4⟩;rw[tk,so];exact cM (cr kt (cr (am.tups S4) hp3)) ⟨q,rfl,kt _ _ q4⟩
 obtain⟨⟨x4,x5,vs',rfl,hl',hlen,hp⟩,SS,hd'⟩:=pv;refine s_ret (te:=cq 3) (D:={ nx:=λx H'=>Q V.non H',rt:=Q }) (ak rfl ?_);refine k l vs' H' SS hlH hl' ?_;have e:(gs.zipIdx ins.length).length=gvs.length:=by rw[List.length_zipIdx,lgn]
 rw[<-e,List.take_length]at hp;exact hp
end
def bC (H:Hp) (a:Addr) (sts:List (V × Key)):Prop:=∃vs,H a=some (.lst vs)/\Paired (λv (s:V × Key)=>∃b,v=.ref b/\H b=some (.tup [s.1,kV s.2])) vs sts
theorem bC.same {sts:List (V × Key)} (S:am H H') (h:bC H a sts):bC H' a sts:=by
 obtain⟨vs,h1,h2⟩:=h;exact⟨vs,S _ _ h1,cE (λv s ⟨b,e,q⟩=>⟨b,e,S _ _ q⟩) h2⟩
def kR (F W N:Addr) (H H':Hp):Prop:=∀b o,H b=some o->b≠F->b≠W->b≠N->H' b=some o
def fdK (xs:List Key) (as:E4):List (Key × V):=(xs.zip as).map λp=>(p.1,V.ref p.2)
def knK (xs:List Key):List (Key × V):=xs.map λx=>(x,V.bl true)
theorem mN {xs:List Key} {as:E4} (h:as.length<=xs.length):(fdK xs as).length=as.length:=by
 unfold fdK;rw[Qa,List.length_zip];omega
theorem gY (xs:List Key) (as:E4):(fdK xs as).map (·.1)=xs.take as.length:=by
 unfold fdK;rw[QX];show (xs.zip as).map (λp=>p.1)=_
 induction xs generalizing as with
 | nil=>simp
 | cons x xs ih =>
 cases as with
 | nil=>simp
 | cons a as=>simp[ih]
variable {as ls ts:E4}
theorem vB {xs:List Key} {x:Key} (h:xs[as.length]?=some x):fdK xs (as++[a])=fdK xs as++[(x,V.ref a)]:=by
 unfold fdK
 induction xs generalizing as with
 | nil=>simp at h
 | cons y xs ih =>
 cases as with
 | nil=>simp at h;subst h;simp
 | cons b as=>simp at h;simp[ih h]
theorem vC {xs ys:List Key} (h:as.length<=xs.length) (p:xs <+: ys):fdK ys as=fdK xs as:=by
 obtain⟨t,rfl⟩:=p;unfold fdK
 induction xs generalizing as with
 | nil =>
  have:as=[]:=by simpa using h
  subst this;simp
 | cons y xs ih =>
 cases as with
 | nil=>simp
 | cons b as=>simp at h;simpa using ih h
variable {kvs:List (Key × V)}
theorem dy {k:Key}:bw kvs k=none↔k∉kvs.map (·.1):=by
 refine⟨tU,λh=>?_⟩
 cases e:bw kvs k with
 | none=>rfl
 | some v=>exact absurd (v6 e) h
theorem i0 {xs:List Key} {k:Key}:bw (knK xs) k=none↔k∉xs:=by
 rw[dy];unfold knK;rw[QX];show k∉xs.map (λx=>x)↔_;rw[List.map_id']
def nxK (steps:Key->List (V × Key)) (x:Key):List Key:=(steps x).map (·.2)
def lZ (P:Program) (w:World) (K:PySem.W.Frag) (mg:E3) (base:Heap) (k:Nat):Sp:=λvs H Q _=>∃(start:Key) (f:Addr) (l:Lm) (cl:List (Str × Addr)) (c:Addr) (r:V->Hp->VK->Prop) (steps:Key->List (V × Key)) (B:Nat),
 vs=[kV start,.ref f]/\H f=some (iC f l cl c)/\Calls P w K mg base k f r/\B<=100000 /\
 (∀x H1 (Q1:VK),Bf.Reach (nxK steps) start x->am H H1->(∀a H2,am H1 H2->bC H2 a (steps x)->Q1 (.ref a) H2)->r (kV x) H1 Q1) /\
 (∀xs:List Key,xs.Nodup->(∀x∈xs,Bf.Reach (nxK steps) start x)->xs.length<=B) /\
 ∀(F:Addr) (as:E4) (n:Nat) (H':Hp),am H H'->H F=none->(Bf.bfs (nxK steps) start n).length=n->as.length=n->H' F=some (.dK (fdK (Bf.bfs (nxK steps) start n) as)) ->
  (∀(i:Nat) x a,(Bf.bfs (nxK steps) start n)[i]?=some x->as[i]?=some a->bC H' a (steps x))->Q (.ref F) H'
theorem wU {P:Program} {w:World} {K:PySem.W.Frag} {mg:E3} {base:Heap} {k:Nat} {te:TE} {c:Addr} {l:Lm} {cl:List (Str × Addr)} {r:V->Hp->VK->Prop} (hi:U[i]?=some (some (.ref f))) (C:Calls P w K mg base k f r) (hf:H f=some (iC f l cl c))
  (q:te U H λv H1=>H1 f=some (iC f l cl c)/\r v H1 Q):tY P w K mg base k i te U H Q:=⟨f,l,cl,c,r,hi,C,hf,q⟩
local macro_rules|`(tactic|ctx_has $a $b $c $d $e $f $g)=>`(tactic|(generalize hE:upd $a $b _=$c;obtain⟨$d,$e⟩:=$f $g hE;clear hE))
section
theorem kK:FnScope ["start", "steps_of", "found", "waiting", "known", "at", "here", "steps", "step"] ["start", "steps_of"] (az (top 23)):=by fin2
theorem uW {kl:Nat} {f:Addr} {fd:FuncData} (Fu:Fun K "found_from" "found_from" (top 23) f fd) (T:Txt K mg TT):FnOk P w K mg base CX0 (kl+1) f fd ["start", "steps_of"] (lZ P w K mg base kl):=by
 have S:=kK;refine Fu.ok S (by room) (λcdv A outer s H vs Q E hr h=>?_);obtain⟨start,fl,l,cl,c,r,steps,B,rfl,hfl,hC,hB,hst,hfew,k⟩:=h;have hu:=dS hr;refine'⟨?_,?bb,?_⟩
 case bb =>
  walk_at "b";exact aC 2 S.nd fq;exact aC 3 S.nd (bo (aa (pv 0) ae ag));exact aC 4 S.nd (wu (ut (pv 0) f_ wo) rfl rfl (by simp) (by decide));exact aC 5 S.nd ad;refine' fo PassesOwn.never ?_ ?_;rotate_left 2;exact(aH lh (pv 5) (aF aJ (by rfl) T.n_len QG (aa (pv 3) ae ag)) (aO _));walk_at "p";exact aC 6 S.nd (aB aI (pv 3) (pv 5));exact aC 7 S.nd (uD (k:=kl) (i:=1) (hr.mono (by omega)) xQ (pv 1) (pv 6));exact(fP hu (pv 2) (pv 6) (pv 7) rfl);walk_at "f";exact(b8 (pv 7));exact(b9 8 S.nd);walk_at "p";exact(mx (fQ hu (aB a_ (pv 8) ad) (pv 4)));exact(fP hu (pv 4) (aB a_ (pv 8) ad) f_ rfl);exact(bD (dH QP QS QT bu (pv 3) (aa (aB a_ (pv 8) ad) ae)));exact(um (i:=5) S.nd rfl (by z_go) ad vk);exact(aK (pv 2))
 x_go;refine s_seq (bI ?_);intro F hF;refine aA ?_;ctx_has H F H1 S1 q1 aG hF;lk;refine⟨by simp[sizeLine],λW hW=>?_⟩;ctx_has H1 W H2 S2 q2 aG hW;lk;refine λN hN=>?_;refine⟨_,rfl,?_⟩;refine⟨af,[(start,.bl true)],rfl,by simp,?_⟩;rw[v7];refine aA ?_;ctx_has H2 N H3 S3 q3 aG hN;lk;have S03:am H H3:=S1.trans (S2.trans S3);have FW:F≠W:=aE q1 hW;have FN:F≠N:=aE (S2 _ _ q1) hN;have WN:W≠N:=aE q2 hN
 have W0:H W=none:=by
  cases e:H W with
  | none=>rfl
  | some o=>rw[S1 _ _ e]at hW;cases hW
 have N0:H N=none:=by
  cases e:H N with
  | none=>rfl
  | some o=>rw[(S1.trans S2) _ _ e]at hN;cases hN
 have off:∀{Ha Hb:Hp},am H Ha->kR F W N Ha Hb->am H Hb:=λsa o b u e=>o b u (sa b u e) (aE e hF) (aE e W0) (aE e N0);let nx:=nxK steps;let bf:=Bf.bfs nx start;have reach:∀n x,x∈bf n->Bf.Reach nx start x:=λn x h=>Bf.cI n x h;have fewB:∀n,(bf n).length<=B:=λn=>hfew _ (Bf.b_ n) (reach n);let I3:IvF:=λm U H'=>∃(n:Nat) (as:E4) (x6 x7 x8:Option V),U=[some (kV start),some (.ref fl),some (.ref F),some (.ref W),some (.ref N),some (.int (n:Int)),x6,x7,x8]/\m=B+1-n/\n<=(bf n).length/\am H H'/\H' F=some (.dK (fdK (bf n) as))/\as.length=n/\H' W=some (.lst ((bf n).map kV))/\H' N=some (.dK (knK (bf n)))/\∀(i:Nat) x a,(bf n)[i]?=some x->as[i]?=some a->bC H' a (steps x)
 refine⟨I3,
  ⟨_,0,[],none,none,none,rfl,rfl,QQ _,S03,S3 _ _ (S2 _ _ q1),rfl,S3 _ _ q2,q3,λi x a _ e=>nomatch e⟩,?_⟩
 rintro m U H' ⟨n,as,x6,x7,x8,rfl,rfl,hn,SH,hF',las,hW',hN',hsts⟩;lk;rw[Qa];by_cases cn:n<(bf n).length
 case neg =>
  refine ifF (Xa (by omega)) ?_;lk;have e:(bf n).length=n:=by omega
  exact k F as n H' SH hF e las hF' hsts
 refine ifT (Xw (by omega)) ?_;let I4:IvJ:=λσ' H''=>∃(as:E4) (x6 x7 x8:Option V),σ'=[some (kV start),some (.ref fl),some (.ref F),some (.ref W),some (.ref N),some (.int ((n+1:Nat):Int)),x6,x7,x8]/\n+1<=(bf (n+1)).length/\am H H''/\H'' F=some (.dK (fdK (bf (n+1)) as))/\as.length=n+1/\H'' W=some (.lst ((bf (n+1)).map kV))/\H'' N=some (.dK (knK (bf (n+1))))/\∀(i:Nat) x a,(bf (n+1))[i]?=some x->as[i]?=some a->bC H'' a (steps x);refine⟨I4,λσ' H'' h=>?_,?_⟩
 ·obtain⟨as,x6,x7,x8,e1,e2,e3,e4,e5,e6,e7,e8⟩:=h;exact⟨B+1-(n+1),by have:=fewB n;omega,n+1,as,x6,x7,x8,e1,rfl,e2,e3,e4,e5,e6,e7,e8⟩
 obtain⟨x,hx⟩:∃x,(bf n)[n]?=some x:=⟨_,Qd cn⟩;have hbs:bf (n+1)=Bf.bi (bf n) (nx x):=Bf.eK hx;lk;refine bB (v:=kV x) (SqL.of hW') (bU (by rw[Qi,hx];rfl)) ?_;lk;refine wU rfl hC (SH _ _ hfl) (ak rfl ⟨SH _ _ hfl,hst x H' _ (reach n x (Qj hx)) SH λa H4 S4 st4=>?_⟩);lk;refine ie (ak rfl (ak rfl (ak rfl ?_)));refine⟨F,_,rfl,hG.k (k:=x) (S4 _ _ hF') (by rw[mN (by omega)];have:=fewB n;omega),?_⟩
 have pn:cf (fdK (bf n) as) x (V.ref a)=fdK (bf n) (as++[a]):=by
  rw[vB (by rw[las];exact hx)];refine d8 _ (dy.mpr ?_);rw[gY,las];intro hm;obtain⟨i,hi,e⟩:=Qq.mp hm;rw[Qs]at hi;rw[List.getElem_take]at e;have e2:=(Qe.mp hx).2;have:=(List.getElem_inj (Bf.b_ (nx:=nx) (s:=start) n)).mp (e.trans e2.symm);omega
 rw[pn]
 -- what the steps' list is not
 obtain⟨vs,ha,pr⟩:=id st4
 have neW:∀{Hx:Hp} {ws:List Key},Hx W=some (.lst (ws.map kV))->ws≠[]->∀{b:Addr} {sts:List (V × Key)},bC Hx b sts->b≠W:=λ{Hx ws} hw ne {b sts} ⟨us,hb,pu⟩ z=>by
  rw[z,hw]at hb;cases hb
  cases ws with
  | nil=>exact ne rfl
  | cons y ws =>
  cases pu with
  | cons h _ =>
  obtain⟨c,e,_⟩:=h;cases y <;> cases e
 have neD:∀{Hx:Hp} {D:Addr} {kvs:List (Key × V)},Hx D=some (.dK kvs)->∀{b:Addr} {sts:List (V × Key)},bC Hx b sts->b≠D:=λ{Hx D kvs} hd {b sts} ⟨us,hb,_⟩ z=>by
  rw[z,hd]at hb;cases hb
 have keepS:∀{Ha Hb:Hp} {ws:List Key} {k1 k2:List (Key × V)},Ha W=some (.lst (ws.map kV))->ws≠[]->Ha F=some (.dK k1)->Ha N=some (.dK k2)->kR F W N Ha Hb->∀{b:Addr} {sts:List (V × Key)},bC Ha b sts->bC Hb b sts:=λ{Ha Hb ws k1 k2} hw ne h1 h2 o {b sts} st=>by
  have n1:=neW hw ne st;have n2:=neD h1 st;have n3:=neD h2 st;obtain⟨us,hb,pu⟩:=st;refine⟨us,o b _ hb n2 n1 n3,cE (λv s ⟨c,e,q⟩=>⟨c,e,o c _ q (λz=>?_) (λz=>?_) λz=>?_⟩) pu⟩
  ·rw[z,h1]at q;cases q
  ·rw[z,hw]at q;cases q
  rw[z,h2]at q;cases q
 have bne:bf n≠[]:=λz=>by rw[z]at cn;simp at cn
 have hF4:=S4 _ _ hF';have hW4:=S4 _ _ hW';have hN4:=S4 _ _ hN';have off4:kR F W N H4 (upd H4 F (.dK (fdK (bf n) (as++[a])))):=λb o e h1 _ _=>by rw[aj h1];exact e
 have hF5:upd H4 F (.dK (fdK (bf n) (as++[a]))) F=some (.dK (fdK (bf n) (as++[a]))):=af;have hW5:upd H4 F (.dK (fdK (bf n) (as++[a]))) W=some (.lst ((bf n).map kV)):=by rw[aj FW.symm];exact hW4
 have hN5:upd H4 F (.dK (fdK (bf n) (as++[a]))) N=some (.dK (knK (bf n))):=by rw[aj FN.symm];exact hN4
 have st5:=keepS hW4 bne hF4 hN4 off4 st4
 have sts5:∀(i:Nat) y b,(bf n)[i]?=some y->(as++[a])[i]?=some b->bC (upd H4 F (.dK (fdK (bf n) (as++[a])))) b (steps y):=λi y b e1 e2=>by
  by_cases ci:i<as.length
  ·rw[QM ci]at e2;exact keepS hW4 bne hF4 hN4 off4 ((hsts i y b e1 e2).same S4)
  rw[QE (by omega)]at e2
  have:i=n:=by
   have:=(Qe.mp e2).1;simp at this;omega
  subst this;rw[hx]at e1;cases e1;rw[las,Nat.sub_self]at e2;cases e2;exact st5
 have SH5:am H (upd H4 F (.dK (fdK (bf n) (as++[a])))):=off (SH.trans S4) off4;generalize upd H4 F (.dK (fdK (bf n) (as++[a])))=H5 at *;obtain⟨vs5,ha5,pr5⟩:=id st5;refine s_seq (s_for (s_list (ak rfl ⟨a,rfl,⟨_,SqL.of ha5⟩,?_⟩)));let I5:IvF:=λi σ' H'=>∃x8,σ'=[some (kV start),some (.ref fl),some (.ref F),some (.ref W),some (.ref N),some (.int (n:Int)),some (kV x),some (.ref a),x8]/\kR F W N H5 H'/\H' F=some (.dK (fdK (bf n) (as++[a])))/\H' W=some (.lst ((Bf.bi (bf n) ((nx x).take i)).map kV))/\H' N=some (.dK (knK (Bf.bi (bf n) ((nx x).take i))));refine cY (xs:=vs5) I5 ⟨_,rfl,λb o e _ _ _=>e,hF5,hW5,hN5⟩ (λi σ' H' _ pv=>?_) (λi v σ' H' hv pv=>?_) (λσ' H' pv=>?_)
 ·obtain⟨_,_,o,_⟩:=pv;exact SqL.of (o a _ ha5 (neD hF5 st5) (neW hW5 bne st5) (neD hN5 st5))
 ·obtain⟨x8,rfl,o,e1,e2,e3⟩:=pv;obtain⟨⟨nm,y⟩,hy,b,rfl,hb⟩:=paired_get pr5 hv;have hb':H' b=some (.tup [nm,kV y]):=o b _ hb (λz=>by rw[z,hF5]at hb;cases hb) (λz=>by rw[z,hW5]at hb;cases hb) (λz=>by rw[z,hN5]at hb;cases hb)
  have hny:(nx x)[i]?=some y:=by
   show ((steps x).map (·.2))[i]?=_;rw[Qi,hy];rfl
  have ext:Bf.bi (bf n) ((nx x).take (i+1))=Bf.bi (Bf.bi (bf n) ((nx x).take i)) [y]:=by
   rw[Q6,hny,Bf.kQ];rfl
  have lenN:(Bf.bi (bf n) ((nx x).take i)).length<=B:=hfew _ (Bf.dv _ _ (Bf.b_ n)) λz hz=>by
   rcases(Bf.dM _ _ _).mp hz with h|h
   ·exact reach n z h
   exact .step (reach n x (Qj hx)) (List.mem_of_mem_take h)
  lk;refine gX (bE (ak rfl (i_c (i_ixT hb' rfl (ak rfl ?_)))));refine⟨N,_,rfl,c8.k (k:=y) e3,_,rfl,?_⟩;by_cases cy:y∈Bf.bi (bf n) ((nx x).take i)
  ·rw[Bf.km cy]at ext;refine ifF ?_ ?_
   ·cases e:bw (knK (Bf.bi (bf n) ((nx x).take i))) y with
    | none=>exact absurd cy (i0.mp e)
    | some v=>rfl
   lk;refine⟨_,rfl,o,e1,?_,?_⟩
   ·rw[ext];exact e2
   rw[ext];exact e3
  rw[Bf.kj cy]at ext;have nn:=i0.mpr cy;refine ifT (by rw[nn];rfl) ?_;lk;refine ie (i_c (ak rfl (bE (ak rfl (i_c (i_ixT hb' rfl ?_))))));refine⟨N,_,rfl,hG.k (k:=y) e3 (by unfold knK;rw[Qa];omega),?_⟩;have e2':upd H' N (.dK (cf (knK (Bf.bi (bf n) ((nx x).take i))) y (.bl true))) W=some (.lst ((Bf.bi (bf n) ((nx x).take i)).map kV)):=by rw[aj WN];exact e2
  have hb'':upd H' N (.dK (cf (knK (Bf.bi (bf n) ((nx x).take i))) y (.bl true))) b=some (.tup [nm,kV y]):=by rw[aj (λz=>by rw[z,e3]at hb';cases hb')];exact hb'
  refine s_drop (i_bm (ak rfl ⟨i_tyL e2',?_⟩));refine aq (bE (ak rfl (i_c (i_ixT hb'' rfl (aM (fA e2' (by rw[Qa];omega) ?_))))));refine⟨_,rfl,λc u e h1 h2 h3=>by rw[aj h2,aj h3];exact o c u e h1 h2 h3,by rw[aj FW,aj FN];exact e1,?_,?_⟩
  ·rw[af,ext,Qx];rfl
  rw[aj WN.symm,af,d8 _ nn,ext];unfold knK;rw[Qx];rfl
 obtain⟨x8,rfl,o,e1,e2,e3⟩:=pv
 have lv:vs5.length=(nx x).length:=by
  show _=((steps x).map (·.2)).length;rw[Qa];exact aU pr5
 rw[lv,Qw (Qf _),<-hbs]at e2 e3;refine⟨_,rfl,?_⟩;refine i_c ⟨_,_,rfl,rfl,?_⟩;have pre:bf n <+: bf (n+1):=Bf.kb n
 have l1:n+1<=(bf (n+1)).length:=by
  have:=pre.length_le;omega
 refine⟨as++[a],_,_,_,by rw[show ((n+1:Nat):Int)=(n:Int)+1 from rfl];rfl,l1,off SH5 o,?_,by rw[Qg,las];rfl,e2,e3,λi y b h1 h2=>?_⟩
 ·rw[vC (by rw[Qg,las];simp;omega) pre];exact e1
 have hi:i<n+1:=by
  have:=(Qe.mp h2).1;rw[Qg,las]at this;simpa using this
 exact keepS hW5 bne hF5 hN5 o (sts5 i y b (Bf.js pre (by omega) h1) h2)
end
noncomputable def d_:Lm:=match ck (top 24) with
 | .Return (some (.Call _ [_,.Lambda p b sc pos] _ _)) _::_=>⟨("steps_found" ++ ".<locals>.") ++ "<lambda>", p,b,sc,pos⟩
 | _=>⟨"", { posonlyargs:=[],args:=[],vararg:=none,kwonlyargs:=[],kw_defaults:=[],kwarg:=none,defaults:=[] },.Constant .none 0 ⟨0,0,0,0⟩,az (top 0),⟨0,0,0,0⟩⟩
theorem AI {ns:List (Str × NameKind)} (h:ns.all (λp=>!(p.2==NameKind.free) || p.1==y)=true) (e:ns.lookup z=some .free):z=y:=by
 have:=Q2.mp h _ (dJ e);simpa using this
theorem u_:LmScope "here" "net" d_.scope:=⟨rfl,rfl,rfl,rfl,rfl,by decide,by decide +kernel,λz h=>AI (by decide +kernel) h⟩
structure Tk (T:Addr) (H H':Hp):Prop where
 old:∀b o,H b=some o->b≠T->H' b=some o
 tab:fF T d_ H'
theorem yG {l:Lm} (t:fF T l H):∃ps,H T=some (.tbl ps):=by rcases t with e|⟨c,e,_⟩ <;> exact⟨_,e⟩
variable {o u:HO}
theorem f6 {l:Lm} (t:fF T l H) (h:H b=some o) (n:∀ps,o≠.tbl ps):b≠T:=λz=>by
 obtain⟨ps,e⟩:=yG t;rw[z,e]at h;exact n ps (QN h).symm
theorem eM {l:Lm} (t:fF T l H) (S:am H H'):fF T l H':=by
 rcases t with e|⟨c,e,q⟩
 ·exact .inl (S _ _ e)
 exact .inr ⟨c,S _ _ e,S _ _ q⟩
theorem Tk.lst (t:fF T d_ H) (k:Tk T H H'):∀b xs,H b=some (.lst xs)->H' b=some (.lst xs):=λb xs e=>k.old b _ e (f6 t e λ_ z=>nomatch z)
theorem Tk.tup (t:fF T d_ H) (k:Tk T H H'):∀b xs,H b=some (.tup xs)->H' b=some (.tup xs):=λb xs e=>k.old b _ e (f6 t e λ_ z=>nomatch z)
theorem Tk.of (t:fF T d_ H) (S:am H H'):Tk T H H':=⟨λb o e _=>S b o e,eM t S⟩
theorem Tk.trans (a:Tk T H H1) (b:Tk T H1 H2):Tk T H H2:=⟨λc o e n=>b.old c o (a.old c o e n) n,b.tab⟩
theorem NAt.mono (hl:∀b xs,H b=some (.lst xs)->H' b=some (.lst xs)) (ht:dh H H') (h:NAt H a li lg ins vs gs):NAt H' a li lg ins vs gs:=⟨ht _ _ h.ha,hl _ _ h.hi,hl _ _ h.hg,br ht h.gates⟩
def c9 (ps:List (Str × Str)):List (V × Key):=ps.map λp=>(V.str p.1,Sum.inr p.2)
def stN (ins:List Str) (gs:E5):Key->List (V × Key)
 | .inr z=>c9 (au ins gs z)
 | .inl _=>[]
theorem nE {ps:List (Str × Str)} (hl:H l=some (.lst vs)) (p:Paired (ng H) vs ps):bC H l (c9 ps):=by
 refine⟨vs,hl,?_⟩;unfold c9;clear hl
 induction p with
 | nil=>exact .nil
 | cons h _ ih=>exact .cons h ih
theorem nF {p:Str × Str} (h:p∈au ins gs z):∃i,ins.length<=i/\i<ins.length+gs.length/\p.2=fe z i/\(∃g,gs[i-ins.length]?=some g/\p.1=g.1):=by
 unfold au at h;obtain⟨q,hq,e⟩:=List.mem_filterMap.mp h;obtain⟨j,hj,ej⟩:=Qq.mp hq;have e2:=Qd hj;rw[ej,List.getElem?_zipIdx]at e2;unfold ce at e
 split at e
 ·cases e
 cases e;rw[List.length_zipIdx]at hj;rw[Qd hj]at e2;cases e2;exact⟨ins.length+j,by omega,by omega,rfl,gs[j],by rw[Xp];exact Qd hj,rfl⟩
theorem bO (ins:List Str) (gs:E5):(ao ins gs).length=ins.length+gs.length:=by unfold ao;rw[Qg,Qa]
theorem fk (st:StOk (ao ins gs).length z) {x:Key} (r:Bf.Reach (nxK (stN ins gs)) (Sum.inr z) x):∃y:Str,x=Sum.inr y/\StOk (ao ins gs).length y:=by
 induction r with
 | start=>exact⟨z,rfl,st⟩
 | @step a b _ hb ih =>
 obtain⟨y,rfl,sy⟩:=ih;unfold nxK stN c9 at hb;rw[QX]at hb;obtain⟨p,hp,rfl⟩:=Ql.mp hb;obtain⟨i,h1,h2,e,_⟩:=nF hp;refine⟨p.2,rfl,?_⟩;rw[e];exact qz sy (by rw[bO];exact h2)
def nc:Nat->List (List Nat)
 | 0=>[[]]
 | n+1=>(nc n).flatMap λl=>[48::l,49::l]
theorem ki:∀n,(nc n).length=2 ^ n
 | 0=>rfl
 | n+1=>by
  unfold nc;rw[List.length_flatMap];show ((nc n).map λ_=>2).sum=_;rw[List.map_const',List.sum_replicate_nat,ki n,Nat.pow_succ]
theorem kh:∀n (l:List Nat),l.length=n->(∀c∈l,c=48\/c=49)->l∈nc n
 | 0,l,h,_=>by rw[Xf h];simp[nc]
 | n+1,[],h,_=>by simp at h
 | n+1,c::l,h,hc=>by
  unfold nc;rw[List.mem_flatMap];refine⟨l,kh n l (by simpa using h) (λd hd=>hc d (Qv _ hd)),?_⟩;rcases hc c (by simp) with e|e <;> subst e <;> simp
theorem gU {xs:List Key} (n11:n<=11) (nd:xs.Nodup) (h:∀x∈xs,∃y:Str,x=Sum.inr y/\StOk n y):xs.length<=2048:=by
 have:=Bf.pigeon xs ((nc n).map λl=>(Sum.inr ⟨l.toArray⟩:Key)) nd λx hx=>by
  obtain⟨y,rfl,st⟩:=h x hx;exact Ql.mpr ⟨y.cps.toList,kh n _ (by rw[Qo];exact st.len) st.signs,by cases y;simp⟩
 rw[Qa,ki]at this;have h2:2 ^ n<=2 ^ 11:=Nat.pow_le_pow_right (by decide) n11;have h3:(2:Nat) ^ 11=2048:=by decide
 omega
def fJ (TL:Addr):Sp:=λvs H Q _=>∃a li lg ins gvs gs z,vs=[.ref a,.str z]/\NAt H a li lg ins gvs gs/\NetOk ins gs/\StOk (ao ins gs).length z/\fF TL d_ H /\
 ∀(F:Addr) (as:E4) (n:Nat) (H':Hp),Tk TL H H'->H F=none->(Bf.bfs (nxK (stN ins gs)) (Sum.inr z) n).length=n->as.length=n->H' F=some (.dK (fdK (Bf.bfs (nxK (stN ins gs)) (Sum.inr z) n) as)) ->
  (∀(i:Nat) x b,(Bf.bfs (nxK (stN ins gs)) (Sum.inr z) n)[i]?=some x->as[i]?=some b->bC H' b (stN ins gs x))->Q (.ref F) H'
section
theorem vS {f c cell:Addr} (f_steps_from:Fn P w K mg base "steps_from" ["net", "standing"] 12 fI):Calls P w K mg base 13 f (xI f d_ "net" cell c (gJ fI [] E0 (bq (cq 1) (bq (cq 0) eO)))) :=
 qr (k:=12) u_ (λpm ctv u=>rfl) λA outer s H hr=>xP f_steps_from hr (by rfl) (aa (pv 1) (aa (pv 0) ae))
theorem jk:FnScope ["net", "standing"] ["net", "standing"] (az (top 24)):=by fin2
theorem pG {TL cc:Addr} {f:Addr} {fd:FuncData} (Fu:FunC K "steps_found" "steps_found" (top 24) f fd cc) (T:Txt K mg TT) (CT:PySem.W.CodeHd base cc TL) (BM:gg base mg) (f_found_from:Fn P w K mg base "found_from" ["start", "steps_of"] 14 (lZ P w K mg base 13)) (f_steps_from:Fn P w K mg base "steps_from" ["net", "standing"] 12 fI) :
  FnOk P w K mg base CX0 15 f fd ["net", "standing"] (fJ TL):=by
 have S:=jk;refine Fu.ok S (λvs H Q E h=>?_) (λA outer s H vs Q E hr h=>?_)
 ·obtain⟨a,li,lg,ins,gvs,gs,z,rfl,_⟩:=h;rfl
 obtain⟨a,li,lg,ins,gvs,gs,z,rfl,NA,ok,st,tb,k⟩:=h;have hu:=dS hr;have HCL:PySem.closureFor d_.scope (PyProof.Rows.envOfC "steps_found" (az (top 24)) s.heap.objs.size f (.ref cc))=pure [(("net" : Str),(s.heap.objs.size+1:Addr))]:=by rfl
 refine'⟨?_,?bb,?_⟩
 case bb =>
  refine' aR ?_;rotate_left 1;walk_at "p";exact(aK (yY (i:=0) f_found_from (hr.mono (by first|decide|omega)) (by rfl) (aa (pv 1) (aa (yX (T:=TL) (cl:=[(("net" : Str),(s.heap.objs.size+1:Addr))]) rfl CT BM HCL) ae) ag) rfl rfl (Or.inr (Or.inl rfl)) rfl rfl))
 x_go;generalize hcell:s.heap.objs.size+1=cell;kt_k;show bq (cq 1) (bq (An TL d_ [("net", cell)]) eO) _ _ _;refine aq (ak rfl (aq ⟨tb,λfl c H2 md=>aM ⟨_,rfl,λo uy hd ru hc=>?_⟩⟩));have md:Made TL d_ [("net", cell)] H fl c H2:=md;obtain rfl:uy=Value.ref a:=ru;have NA2:NAt H2 a li lg ins gvs gs:=NA.mono (λb xs e=>md.old b _ e (f6 tb e λ_ z=>nomatch z)) (λb xs e=>md.old b _ e (f6 tb e λ_ z=>nomatch z));have S2c:am H2 (upd H2 cell (c6 o)):=ai hc;have hf2:upd H2 cell (c6 o) fl=some (iC fl d_ [("net", cell)] c):=S2c _ _ md.fn;have hcc2:upd H2 cell (c6 o) c=some (iK c d_.qual):=S2c _ _ md.code;have hcl2:upd H2 cell (c6 o) cell=some (c6 o):=af;have NA2c:=NA2.same S2c;have k12:∀b u,H b=some u->b≠TL->upd H2 cell (c6 o) b=some u:=λb u e n=>S2c _ _ (md.old b u e n);have tb2:fF TL d_ (upd H2 cell (c6 o)):=.inr ⟨c,S2c _ _ md.tab,hcc2⟩;have nocell:∀{b u},H2 b=some u->b≠cell:=λe z=>by rw[z,hc]at e;cases e
 have H2R:∀{b u},H b=some u->b≠TL->b≠cell:=λ{b u} e n=>nocell (md.old b u e n);have Tcell:TL≠cell:=nocell md.tab;generalize upd H2 cell (c6 o)=H2c at *;have w11:(ao ins gs).length<=11:=by rw[bO];have:=ok.i4;have:=ok.g7;omega
 refine⟨Sum.inr z,fl,d_,[("net", cell)],c,_,stN ins gs,2048,rfl,hf2,vS (c:=c) (cell:=cell) f_steps_from,by decide,λx H4 Q1 rx S4 q4=>?_,λxs nd h=>gU w11 nd λx hx=>fk st (h x hx),λF as n H3 S3 hF ln3 las hF3 sts=>?_⟩
 ·obtain⟨y,rfl,sy⟩:=fk st rx;have NA4:=NA2c.same S4;have hcl4:=S4 _ _ hcl2;refine⟨o,Value.ref a,.ref a,S4 _ _ hf2,S4 _ _ hcc2,hcl4,hd,rfl,?_⟩;have dl:∀b xs,H4 b=some (.lst xs)->de H4 cell b=some (.lst xs):=λb xs e=>by rw[bH (λz=>by rw[z,hcl4]at e;cases e)];exact e
  have dt:∀b xs,H4 b=some (.tup xs)->de H4 cell b=some (.tup xs):=λb xs e=>by rw[bH (λz=>by rw[z,hcl4]at e;cases e)];exact e
  refine i_call (aq (ak rfl (aq (ak rfl (aM ?_)))));refine⟨a,li,lg,ins,gvs,gs,y,rfl,NA4.mono dl dt,ok,sy,λl vs' H5 S5 hl0 hl5 pr5 hn5=>?_⟩;have kc:dh H5 (upd H5 cell (c6 o)):=λb xs e=>by rw[aj (λz=>by rw[z,hn5]at e;cases e)];exact e
  refine q4 l _ (λb u e=>?_) (nE (by rw[aj (λz=>by rw[z,hn5]at hl5;cases hl5)];exact hl5) (cr kc pr5));by_cases cb:b=cell
  ·subst cb;rw[af,<-hcl4];exact e
  rw[aj cb];exact S5 _ _ (by rw[bH cb];exact e)
 show Q (V.ref F) (de H3 cell);have hcl3:=S3 _ _ hcl2;have d3:∀{b u},H3 b=some u->b≠cell->de H3 cell b=some u:=λe n=>by rw[bH n];exact e
 have Fcell:F≠cell:=λz=>by rw[z,hcl2]at hF;cases hF
 have tb3:fF TL d_ (de H3 cell):=by
  rcases tb2 with e|⟨c',e,q⟩
  ·exact .inl (d3 (S3 _ _ e) Tcell)
  have c'cell:c'≠cell:=λz=>by rw[z,hcl2]at q;cases q
  exact .inr ⟨c',d3 (S3 _ _ e) Tcell,d3 (S3 _ _ q) c'cell⟩
 have F0:H F=none:=by
  cases e:H F with
  | none=>rfl
  | some u =>
  by_cases c:F=TL
  ·obtain⟨ps,e2⟩:=yG tb2;rw[c,e2]at hF;cases hF
  rw[k12 _ _ e c]at hF;cases hF
 refine k F as n _ ⟨λb u e nT=>d3 (S3 _ _ (k12 b u e nT)) (H2R e nT),tb3⟩ F0 ln3 las (d3 hF3 Fcell) λi x b e1 e2=>?_;obtain⟨vs,h1,h2⟩:=sts i x b e1 e2;exact⟨vs,d3 h1 (λz=>by rw[z,hcl3]at h1;cases h1),cE (λv st ⟨b,e,q⟩=>⟨b,e,d3 q (λz=>by rw[z,hcl3]at q;cases q)⟩) h2⟩
end
theorem mK {nm:Str}:∀{ns:List Str},inV (.str nm) (ns.map V.str)=true↔nm∈ns
 | []=>by simp[inV]
 | x::ns=>by
  have ih:=mK (nm:=nm) (ns:=ns);unfold inV at ih ⊢;rw[QH,List.any_cons,Bool.or_eq_true,ih,QV]
  have:eqV (.str x) (.str nm)=true↔nm=x:=by
   show decide (x=nm)=true↔_;rw[XB];exact⟨λh=>h.symm,λh=>h.symm⟩
  rw[this]
theorem lA (ns:List Str):(ns.map V.str).all cQ=true:=by
 rw[Q2];intro x hx;obtain⟨y,_,rfl⟩:=Ql.mp hx;rfl
section
variable (ins:List Str) (gs:E5)
end
theorem gj (ins:List Str) (gs:E5) (y:Str):(au ins gs y).length<=gs.length:=by
 unfold au;have:=List.length_filterMap_le (ce (sgn (ao ins gs) y) y) (gs.zipIdx ins.length);rwa [List.length_zipIdx]at this
theorem pb {ps:List (Str × Str)} (pv:Paired (λv (s:V × Key)=>∃b,v=.ref b/\H b=some (.tup [s.1,kV s.2])) vs (c9 ps)) (e:vs[i]?=some v):∃p b,ps[i]?=some p/\v=.ref b/\H b=some (.tup [.str p.1,.str p.2]):=by
 obtain⟨st,e1,b,e2,h⟩:=paired_get pv e;unfold c9 at e1;rw[Qi]at e1
 cases e3:ps[i]? with
 | none=>rw[e3]at e1;cases e1
 | some p=>rw[e3]at e1;cases e1;exact⟨p,b,rfl,e2,h⟩
section
end
section
variable (st:Str->List (Str × Str))
def evs (xs:List Str):List (Str × (Str × Str)):=xs.flatMap λh=>(st h).map λp=>(p.2,(p.1,h))
def g_ (es:List (Str × (Str × Str))) (x:Str):Option (Str × Str):=(es.find? λe=>e.1==x).map (·.2)
inductive Path (xs:List Str) (s:Str):Str->List Str->Prop
 | nil:Path xs s s []
 | snoc {x h nm:Str} {ns:List Str}:x≠s->g_ (evs st xs) x=some (nm,h)->Path xs s h ns->Path xs s x (ns++[nm])
end
variable {st:Str->List (Str × Str)}
theorem Path.det (a:Path st xs s x ns):Path st xs s x ms->ns=ms:=by
 induction a generalizing ms with
 | nil=>intro b;cases b with
  | nil=>rfl
  | snoc h _ _=>exact absurd rfl h
 | snoc h c _ ih=>intro b;cases b with
  | nil=>exact absurd rfl h
  | snoc h' c' p' =>
   rw[c]at c';cases c';rw[ih p']
theorem Path.start {xs:List Str} (a:Path st xs s s ns):ns=[]:=a.det .nil
structure CAt (H:Hp) (C:Addr) (kvs:List (Key × V)) (es:List (Str × (Str × Str))):Prop where
 hC:H C=some (.dK kvs)
 some:∀x r,g_ es x=some r->∃t,bw kvs (Sum.inr x)=some (.ref t)/\H t=some (.tup [.str r.1,.str r.2])
 none:∀x,g_ es x=none->bw kvs (Sum.inr x)=none
 len:kvs.length<=es.length
def aD (xs:List Str):List Key:=xs.map Sum.inr
theorem qi {k:Key} (h:(fdK (aD xs) as)[j]?=some (k,v)):∃x b,xs[j]?=some x/\as[j]?=some b/\k=Sum.inr x/\v=.ref b:=by
 unfold fdK aD at h;rw[Qi]at h
 cases q:((xs.map Sum.inr:List Key).zip as)[j]? with
 | none=>rw[q]at h;cases h
 | some p =>
 obtain⟨p1,p2⟩:=p;rw[q]at h;cases h;obtain⟨h1,h2⟩:=List.getElem?_zip_eq_some.mp q;rw[Qi]at h1
 cases e:xs[j]? with
 | none=>rw[e]at h1;cases h1
 | some x=>rw[e]at h1;cases h1;exact⟨x,p2,rfl,h2,rfl,rfl⟩
theorem dO (nd:(kvs.map (·.1)).Nodup):∀{i:Nat} {k:Key} {v:V},kvs[i]?=some (k,v)->bw kvs k=some v:=by
 induction kvs with
 | nil=>intro i k v e;simp at e
 | cons p r ih =>
 intro i k v e;rw[QH,Xb]at nd
 cases i with
 | zero =>
  simp at e;subst e;exact bV (p:=(k,v)) rfl
 | succ i =>
 simp at e;rw[bX (λz:p.1=k=>nd.1 (by rw[z];exact Ql.mpr ⟨(k,v),Qj e,rfl⟩))];exact ih nd.2 e
theorem gu (nd:xs.Nodup):((fdK (aD xs) as).map (·.1)).Nodup:=by
 rw[gY];refine(List.take_sublist _ _).nodup ?_;unfold aD;exact List.Pairwise.map _ (λa b h z=>h (Sum.inr.inj z)) nd
section
end
theorem oF:∀{ks:List Key},(∀k∈ks,∃y:Str,k=Sum.inr y)->∃xs:List Str,ks=aD xs
 | [],_=>⟨[],rfl⟩
 | k::ks,h=>by
  obtain⟨y,rfl⟩:=h k (by simp);obtain⟨xs,rfl⟩:=oF λk hk=>h k (Qv _ hk);exact⟨y::xs,rfl⟩
theorem cG {k:Key}:(aD xs)[i]?=some k↔∃x,xs[i]?=some x/\k=Sum.inr x:=by
 unfold aD;rw[Qi]
 cases xs[i]? with
 | none=>simp
 | some x=>simp[eq_comm]
theorem lr:∀{xs ys:List Str},aD xs=aD ys->xs=ys
 | [],[],_=>rfl
 | [],y::ys,h=>by cases h
 | x::xs,[],h=>by cases h
 | x::xs,y::ys,h=>by
  unfold aD at h;rw[QH,QH]at h;injection h with h1 h2;rw[Sum.inr.inj h1,lr (xs:=xs) (ys:=ys) h2]
structure Met (ins:List Str) (gs:E5) (z:Str) (xs:List Str):Prop where
 bfs:aD xs=Bf.bfs (nxK (stN ins gs)) (Sum.inr z) xs.length
 st:∀x∈xs,StOk (ao ins gs).length x
theorem u4 {k:Key}:k∈nxK (stN ins gs) (Sum.inr h)↔∃p∈au ins gs h,k=Sum.inr p.2:=by
 unfold nxK stN c9;rw[QX]
 constructor
 ·intro q;obtain⟨p,hp,e⟩:=Ql.mp q;exact⟨p,hp,e.symm⟩
 rintro⟨p,hp,rfl⟩;exact Ql.mpr ⟨p,hp,rfl⟩
variable {ins:List Str} {gs:E5} {z:Str} {xs:List Str}
section
theorem Met.len (m:Met ins gs z xs):(Bf.bfs (nxK (stN ins gs)) (Sum.inr z) xs.length).length=xs.length:=by rw[<-m.bfs];unfold aD;rw[Qa]
theorem Met.nd (m:Met ins gs z xs):xs.Nodup:=by
 have:=Bf.b_ (nx:=nxK (stN ins gs)) (s:=(Sum.inr z:Key)) xs.length;rw[<-m.bfs]at this;unfold aD at this;exact(List.pairwise_map.mp this).imp λh e=>h (by rw[e])
theorem Met.zero (m:Met ins gs z xs):xs[0]?=some z:=by
 have:=Bf.oU (nx:=nxK (stN ins gs)) (s:=(Sum.inr z:Key)) xs.length;rw[<-m.bfs]at this;obtain⟨x,h1,h2⟩:=cG.mp this;cases h2;exact h1
theorem Met.pred (m:Met ins gs z xs) {j:Nat} {x:Str} (hj:0<j) (e:xs[j]?=some x):∃i h p,i<j/\xs[i]?=some h/\p∈au ins gs h/\p.2=x:=by
 obtain⟨i,k,h1,_,h3,h4⟩:=Bf.j_ (nx:=nxK (stN ins gs)) (s:=(Sum.inr z:Key)) xs.length j (Sum.inr x) hj (by rw[<-m.bfs];exact cG.mpr ⟨x,e,rfl⟩);rw[<-m.bfs]at h3;obtain⟨h,e1,rfl⟩:=cG.mp h3;obtain⟨p,hp,e2⟩:=u4.mp h4;exact⟨i,h,p,h1,e1,hp,(Sum.inr.inj e2).symm⟩
theorem Met.closed (m:Met ins gs z xs) {h:Str} (hh:h∈xs) {p:Str × Str} (hp:p∈au ins gs h):p.2∈xs:=by
 obtain⟨i,hi,e⟩:=Qq.mp hh;have:=Bf.ke (nx:=nxK (stN ins gs)) (s:=(Sum.inr z:Key)) (n:=xs.length) (i:=i) hi (by rw[<-m.bfs];exact cG.mpr ⟨h,by rw[Qd hi,e],rfl⟩) (Sum.inr p.2) (u4.mpr ⟨p,hp,rfl⟩);rw[<-m.bfs]at this;unfold aD at this;obtain⟨y,hy,e⟩:=Ql.mp this;cases e;exact hy
theorem Met.one {ys:List Str} (m:Met ins gs z xs) (m':Met ins gs z ys):xs=ys:=by
 have e:=Bf.w6 m.len m'.len;have h:=m.bfs;rw[e,<-m'.bfs]at h;exact lr h
theorem jW {st:Str->List (Str × Str)}:∀{xs:List Str} {i:Nat} {h:Str} {p:Str × Str},xs[i]?=some h->p∈st h->∃i' h' nm,i'<=i/\xs[i']?=some h'/\g_ (evs st xs) p.2=some (nm,h')
 | [],_,_,_,e,_=>by simp at e
 | x0::xs,i,h,p,e,hp=>by
  have split:evs st (x0::xs)=((st x0).map λp=>(p.2,(p.1,x0)))++evs st xs:=rfl
  cases q:((st x0).map λp=>(p.2,(p.1,x0))).find? λe=>e.1==p.2 with
  | some r =>
   have hm:=List.mem_of_find?_eq_some q;obtain⟨p',_,rfl⟩:=Ql.mp hm;refine⟨0,x0,p'.1,QQ _,rfl,?_⟩;unfold g_;rw[split,List.find?_append,q];rfl
  | none =>
  cases i with
  | zero =>
   simp at e;subst e;have:=List.find?_eq_none.mp q (p.2,(p.1,x0)) (Ql.mpr ⟨p,hp,rfl⟩);simp at this
  | succ i =>
  obtain⟨i',h',nm,a,b,c⟩:=jW (xs:=xs) (i:=i) (by simpa using e) hp;refine⟨i'+1,h',nm,by omega,by simpa using b,?_⟩;unfold g_ at c ⊢;rw[split,List.find?_append,q,Option.none_or];exact c
theorem Met.path (m:Met ins gs z xs):∀(j:Nat) (x:Str),xs[j]?=some x->∃ns,Path (au ins gs) xs z x ns/\ns.length<=j:=by
 intro j
 induction j using Nat.strongRecOn with
 | _ j ih =>
 intro x e;by_cases hj:j=0
 ·subst hj;rw[m.zero]at e;cases e;exact⟨[],.nil,Qf _⟩
 obtain⟨i,h,p,h1,h2,h3,rfl⟩:=m.pred (by omega) e;obtain⟨i',h',nm,a,b,c⟩:=jW h2 h3;obtain⟨ns,pn,ln⟩:=ih i' (by omega) h' b;refine⟨ns++[nm],.snoc (λq=>?_) c pn,by rw[Qg];simp;omega⟩;rw[q]at e;have e0:=m.zero;have hl:=(Qe.mp e).1;have:=(List.getElem?_inj (i:=0) (j:=j) (by omega) m.nd).mp (by rw[e0,e]);omega
end
section
end
structure DOk (ns:List Int):Prop where
 lo:200<=ns.length
 hi:ns.length<=400
 each:∀n∈ns,0<=n/\n<10007
def qO (K:PySem.W.Frag):Sp:=λvs H Q _=>∃(s:Addr) (cs:List Int),vs=[.ref s,.int 200]/\SqL K H s (cs.map V.int)/\cs.length<=63/\∀l ns H',am H H'->H l=none->H' l=some (.lst (ns.map V.int))->DOk ns->Q (.ref l) H'
theorem wZ {xs:List V} {lo hi:Option Int}:(∀x∈fB xs lo hi,x∈xs)/\(fB xs lo hi).length<=xs.length :=
 ⟨λx hx=>List.mem_of_mem_drop (List.mem_of_mem_take hx),iI xs lo hi⟩
theorem rq:∀(xs:List V),(∀x∈xs,∃i:Int,x=.int i)->∃ds:List Int,xs=ds.map V.int
 | [],_=>⟨[],rfl⟩
 | x::xs,h=>by
  obtain⟨i,e⟩:=h x (by simp);obtain⟨ds,e2⟩:=rq xs λy hy=>h y (Qv _ hy);exact⟨i::ds,by rw[e,e2];rfl⟩
theorem vM (cs:List Int) (h:cs.length<=63) {lo hi:Option Int}:∃ds:List Int,fB (cs.map V.int) lo hi=ds.map V.int/\ds.length<=63:=by
 obtain⟨m,l⟩:=wZ (xs:=cs.map V.int) (lo:=lo) (hi:=hi)
 obtain⟨ds,e⟩:=rq (fB (cs.map V.int) lo hi) λx hx=>by
  obtain⟨i,_,e⟩:=Ql.mp (m x hx);exact⟨i,e.symm⟩
 refine⟨ds,e,?_⟩;rw[e,Qa,Qa]at l;omega
theorem qg {ns:List Int} {n:Int} (h:H p=some (.lst (ns.map V.int))) (hz:ns.length<=500) (hns:∀m∈ns,0<=m/\m<10007) (hb:0<=n/\n<10007)
  (q:∀(H':Hp) (ns':List Int),H' p=some (.lst (ns'.map V.int))->ns'.length=ns.length+1->(∀m∈ns',0<=m/\m<10007)->(∀b,b≠p->H' b=H b)->Q .non H'):mt (.ref p) [.int n] H Q:=by
 have big:1000<sizeLine:=by decide
 refine fA h (by rw[Qa];omega) (q _ (ns++[n]) (by rw[af];simp) (by simp) (λm hm=>?_) λb hb=>aj hb);rcases Qr.mp hm with h|h
 ·exact hns m h
 rw[QI]at h;rw[h];exact hb
theorem pR (a:Int):0<=a % 10007/\a % 10007<10007:=⟨Int.emod_nonneg _ (by decide),Int.emod_lt_of_pos _ (by decide)⟩
theorem jm (S:am H H3) (hp:H p=none) (h:∀b,b≠p->H4 b=H3 b):am H H4:=λb u e=>by rw[h b (aE e hp)];exact S b u e
section
theorem mf:FnScope ["script", "many", "drawn", "base", "k", "cell", "number", "one"] ["script", "many"] (az (top 42)):=by fin2
theorem uX {f:Addr} {fd:FuncData} (Fu:Fun K "_law_draws" "_law_draws" (top 42) f fd) (T:Txt K mg TT):FnOk P w K mg base CX0 1 f fd ["script", "many"] (qO K):=by
 have S:=mf;refine Fu.ok S (by room) (λcdv A outer s H vs Q E hr h=>?_);obtain⟨a,cs,rfl,hS,hlen,k⟩:=h
 refine⟨_,(aN (aC 2 S.nd (bo ae))
  (aN (pE (i:=3) S.nd rfl (by z_go) ad)
  (aN (ps_for PassesOwn.never rfl (qV (by rfl) T.n_enumerate (aa (bx fO (pv 0) bK (bJ ad)) ae)) (im rfl (bM (b9 4 S.nd) (bM (b9 5 S.nd) eR)))
  (aN (aC 6 S.nd (aF vU (by rfl) T.n_abs PyProof.Rows.boot_abs (aa (pv 5) ae)))
  (aN (aC 3 S.nd (ap aV (ap aW (ap dI (pv 3) ad) (pv 6)) ad))
  (aR (ps_if (aH AG (pv 6) (ap uF ad ad) (aO _)) (aR (fo PassesOwn.never (PW.pt (gr (aH xR (pv 6) ad (aO _)) (eQ (aH lh (aF aJ (by rfl) T.n_len QG (aa (pv 2) ae)) (pv 1) (aO _)))))
  (aN (bD (dH QP QS QT bu (pv 2) (aa (ap aV (pv 6) ad) ae)))
  (aR (aC 6 S.nd (ap cw (pv 6) ad)))))) (aN (aC 7 S.nd (ap aV (ap dI (ap aW (ap aW (ap aV (pv 6) ad) (pv 4)) ad) ad) ad))
  (aN (aC 7 S.nd (ap aV (ap dI (pv 7) (pv 7)) ad))
  (aN (bD (dH QP QS QT bu (pv 2) (aa (ap aV (ap cw (pv 7) ad) ad) ae)))
  (aN (aC 7 S.nd (ap aV (ap aW (ap aW (ap dI (pv 7) ad) (ap dI ad (pv 4))) ad) ad))
  (aN (aC 7 S.nd (ap aV (ap dI (pv 7) (pv 7)) ad))
  (aR (bD (dH QP QS QT bu (pv 2) (aa (ap aV (ap cw (pv 7) ad) ad) ae))))))))))))))
  (aN (ps_for PassesOwn.never rfl (bY (by rfl) T.n_range (aa (ap iq (pv 1) (aF aJ (by rfl) T.n_len QG (aa (pv 2) ae))) ae)) (b9 4 S.nd)
  (aN (aC 7 S.nd (ap aV (ap aW (ap aW (pv 3) (ap dI ad (pv 4))) ad) ad))
  (aN (aC 7 S.nd (ap aV (ap dI (pv 7) (pv 7)) ad))
  (aN (aC 7 S.nd (ap aV (ap aW (ap dI (pv 7) ad) (pv 4)) ad))
  (aR (bD (dH QP QS QT bu (pv 2) (aa (ap aV (ap cw (ap aV (ap dI (pv 7) (pv 7)) ad) ad) ad) ae))))))))
  (aR (aK (pv 2))))))),?_⟩
 x_go;lk;refine⟨by decide,λp hp=>?_⟩;generalize hE:upd _ p _=H1;have S1:am H H1:=by rw[<-hE];exact ai hp
 have q1:H1 p=some (.lst (([]:List Int).map V.int)):=by rw[<-hE];exact af
 clear hE;lk;show bq _ _ _ _ _;lk;refine lx (S1.seq hS) λsl hsl=>?_;obtain⟨ds,hds,dl⟩:∃ds:List Int,fB (cs.map V.int) none (some 63)=ds.map V.int/\ds.length<=63:=vM cs hlen;rw[hds];generalize hE:upd _ sl _=H2;have S2:am H1 H2:=by rw[<-hE];exact ai hsl
 have q2:H2 sl=some (.lst (ds.map V.int)):=by rw[<-hE];exact af
 clear hE;have nps:p≠sl:=aE q1 hsl;refine aM ⟨sl,rfl,⟨_,SqL.of q2⟩,?_⟩;let I6:IvF:=λi U H'=>(∃(bs:Int) (ns:List Int),∃x4 x5 x6 x7,U=[some (.ref a),some (.int 200),some (.ref p),some (.int bs),x4,x5,x6,x7]/\0<=bs/\bs<2147483629/\H' p=some (.lst (ns.map V.int))/\ns.length<=200+2*i/\∀n∈ns,0<=n/\n<10007)/\am H H'/\H' sl=some (.lst (ds.map V.int))
 refine oJ (xs:=ds.map V.int) I6
  ⟨⟨7,[],_,_,_,_,rfl,by decide,by decide,S2 _ _ q1,by simp,λn h=>nomatch h⟩,S1.trans S2,q2⟩ (λi U H' _ pv=>SqL.of pv.2.2) (λi x U H' t hx pv ht=>?_) (λU H' pv=>?_)
 ·obtain⟨⟨bs,ns,x4,x5,x6,x7,rfl,b0,b1,hp',hln,hns⟩,SS,hsl'⟩:=pv;rw[Qi]at hx
  cases hc:ds[i]? with
  | none=>rw[hc]at hx;cases hx
  | some c =>
  rw[hc]at hx;cases hx;have hi:i<ds.length:=(Qe.mp hc).1;have S3:=ai (o:=.tup [.int (i:Nat),.int c]) ht;refine⟨t,_,rfl,SqT.of af,rfl,?_⟩;refine⟨_,_,rfl,aA ⟨_,_,rfl,aA ?_⟩⟩;have hp3:=S3 _ _ hp';have hsl3:=S3 _ _ hsl';have SS3:=SS.trans S3;generalize upd H' t (.tup [.int (i:Nat),.int c])=H3 at *;refine⟨rfl,?_⟩;have n0:0<=(if c<0 then -c else c):=by split <;> omega
  lk;generalize (if c<0 then -c else c)=nu at *;have bb0:0<=(bs*31+nu) % 2147483629:=Int.emod_nonneg _ (by decide);have bb1:(bs*31+nu) % 2147483629<2147483629:=Int.emod_lt_of_pos _ (by decide);generalize (bs*31+nu) % 2147483629=b2 at *;refine dZ (λ_=>?_) (λ_=>?_)
  ·let I7:IvF:=λm U H'=>∃(nu:Int) (ns:List Int),∃x7,m=200-ns.length/\U=[some (.ref a),some (.int 200),some (.ref p),some (.int b2),some (.int (i:Nat)),some (.int c),some (.int nu),x7]/\H' p=some (.lst (ns.map V.int))/\ns.length<=200+2*(i+1)/\(∀n∈ns,0<=n/\n<10007)/\am H H'/\H' sl=some (.lst (ds.map V.int))
   refine⟨I7,
    ⟨_,nu,ns,_,rfl,rfl,hp3,by omega,hns,SS3,hsl3⟩,?_⟩
   rintro m U H4 ⟨nu,ns,x7,rfl,rfl,hp4,hl4,hn4,SS4,hs4⟩
   have done:((∃(bs:Int) (ns:List Int),∃x4 x5 x6 x7',[some (.ref a),some (.int 200),some (.ref p),some (.int b2),some (.int (i:Nat)),some (.int c),some (.int nu),x7]=[some (V.ref a),some (V.int 200),some (V.ref p),some (V.int bs),x4,x5,x6,x7']/\0<=bs/\bs<2147483629/\H4 p=some (.lst (ns.map V.int))/\ns.length<=200+2*(i+1)/\∀n∈ns,0<=n/\n<10007)/\am H H4/\H4 sl=some (.lst (ds.map V.int))) :=
    ⟨⟨b2,ns,_,_,_,_,rfl,bb0,bb1,hp4,hl4,hn4⟩,SS4,hs4⟩
   lk;refine dZ (λ_=>?_) (λ_=>cU done);lk;refine dZ (λhlt=>?_) (λ_=>done)
   have hlt':ns.length<200:=by
    have:=of_decide_eq_true hlt;rw[Qa]at this;omega
   let I8:IvJ:=λU H'=>∃(nu:Int) (ns':List Int),∃x7,ns'.length=ns.length+1/\U=[some (.ref a),some (.int 200),some (.ref p),some (.int b2),some (.int (i:Nat)),some (.int c),some (.int nu),x7]/\H' p=some (.lst (ns'.map V.int))/\ns'.length<=200+2*(i+1)/\(∀n∈ns',0<=n/\n<10007)/\am H H'/\H' sl=some (.lst (ds.map V.int));refine⟨I8,λσ' H' w=>by obtain⟨nu,ns',x7,e,r⟩:=w;exact⟨200-ns'.length,by rw[e];exact Nat.sub_lt_sub_left hlt' (Nat.lt_succ_self _),nu,ns',x7,rfl,r⟩,?_⟩;lk;refine fA hp4 (by rw[Qa];omega) ?_;lk;refine⟨_,ns++[nu % 10007],_,by simp,rfl,by rw[af];simp,by simp;omega,λn hn=>?_,ba SS4 hp,by rw[aj nps.symm];exact hs4⟩;rcases Qr.mp hn with h|h
   ·exact hn4 n h
   rw[QI]at h;rw[h];exact⟨Int.emod_nonneg _ (by decide),Int.emod_lt_of_pos _ (by decide)⟩
  lk;refine qg hp3 (by omega) hns (pR _) λH4 ns4 hp4 l4 hn4 o4=>?_;lk;refine qg hp4 (by omega) hn4 (pR _) λH5 ns5 hp5 l5 hn5 o5=>?_;exact⟨⟨b2,ns5,_,_,_,_,rfl,bb0,bb1,hp5,by omega,hn5⟩,jm (jm SS3 hp o4) hp o5,by rw[o5 _ nps.symm,o4 _ nps.symm];exact hsl3⟩
 obtain⟨⟨bs,ns,x4,x5,x6,x7,rfl,b0,b1,hp',hln,hns⟩,SS,hsl'⟩:=pv;rw[Qa]at hln;lk;refine⟨by rw[Qa];omega,by rw[Qa];omega,?_⟩;rw[Qa];let I9:IvF:=λi U H'=>(∃(ns':List Int),∃x4 x5 x6 x7,U=[some (.ref a),some (.int 200),some (.ref p),some (.int bs),x4,x5,x6,x7]/\H' p=some (.lst (ns'.map V.int))/\ns'.length=ns.length+i/\∀n∈ns',0<=n/\n<10007)/\am H H';refine cH I9 ⟨⟨ns,_,_,_,_,rfl,hp',rfl,hns⟩,SS⟩ (λi U H' hi pv=>?_) (λU H' pv=>?_)
 ·obtain⟨⟨ns',x4,x5,x6,x7,rfl,hp6,hl6,hn6⟩,SS6⟩:=pv;have hi':i<200:=by omega
  refine aA ?_;lk;refine qg hp6 (by omega) hn6 (pR _) λH7 ns7 hp7 l7 hn7 o7=>?_;exact⟨⟨ns7,_,_,_,_,rfl,hp7,by omega,hn7⟩,jm SS6 hp o7⟩
 obtain⟨⟨ns',x4,x5,x6,x7,rfl,hp6,hl6,hn6⟩,SS6⟩:=pv;refine s_ret (te:=cq 2) (D:={ nx:=λx H'=>Q V.non H',rt:=Q }) (ak rfl ?_);exact k p ns' H' SS6 hp hp6 ⟨by omega,by omega,hn6⟩
end
theorem eU {T:List Nat}:∀(zs:List Str),(∀z∈zs,∃c∈T,z=⟨#[c]⟩)->((zs.map (·.cps.toList)).flatten).length=zs.length/\(∀c∈(zs.map (·.cps.toList)).flatten,c∈T)/\(zs.map (·.length)).sum=zs.length
 | [],_=>⟨rfl,λc h=>(List.not_mem_nil h).elim,rfl⟩
 | z::zs,h=>by
  obtain⟨c,hc,rfl⟩:=h z (by simp);obtain⟨e1,e2,e3⟩:=eU zs λz hz=>h z (Qv _ hz);refine⟨?_,λd hd=>?_,?_⟩
  ·simp only[QH,List.flatten_cons,Qg,e1,QU];show (#[c]:Array Nat).toList.length+zs.length=_;simp;omega
  ·simp only[QH,List.flatten_cons,Qr]at hd;rcases hd with hd|hd
   ·have:d=c:=by simpa using hd
    rw[this];exact hc
   exact e2 d hd
  simp only[QH,List.sum_cons,QU,e3];show (#[c]:Array Nat).size+zs.length=_;simp;omega
theorem s0 {T:List Nat} (h:∀z∈zs,∃c∈T,z=⟨#[c]⟩):(Txt.join Str.empty zs).cps.size=zs.length/\∀c∈(Txt.join Str.empty zs).cps.toList,c∈T:=by
 obtain⟨e1,e2,_⟩:=eU zs h;rw[<-Qo,ly];exact⟨e1,e2⟩
theorem xf {t:Str} {r:Int} (h0:0<=r) (h1:r<t.cps.size):∃c,atI t.cps.toList r=some c/\c∈t.cps.toList:=by
 have hr:r.toNat<t.cps.toList.length:=by rw[Qo];omega
 refine⟨t.cps.toList[r.toNat],?_,Xr hr⟩;have e:r=((r.toNat:Nat):Int):=by omega
 have q:=bU (xs:=t.cps.toList) (j:=r.toNat) (v:=t.cps.toList[r.toNat]) (Qd hr);rw[<-e]at q;exact q
def Lt:Str := "abcdefghijklmnopqrstuvwxyz"
def Xn (t:Nat):Str:=Txt.mul ⟨#[Lt.cps.getD t 0]⟩ 8
theorem Ad:∀i,i<26->∀j,j<26->Xn i=Xn j->i=j:=by decide +kernel
theorem Ac:∀t,t<26->(Xn t).length=8:=by decide +kernel
theorem Dc (c:Nat):MulOk ⟨#[c]⟩ 8:=by
 refine⟨by decide,λ_ _=>?_,λ_ _=>?_⟩
 ·show ¬((1:Int)>(2 ^ 63-1) / 8)
  decide
 rfl
theorem pigeon:∀(xs ys:List Str),xs.Nodup->(∀x∈xs,x∈ys)->xs.length<=ys.length
 | [],ys,_,_=>QQ _
 | x::xs,ys,nd,h=>by
  rw[Xb]at nd;have hx:=h x (by simp);have:=pigeon xs (ys.erase x) nd.2 λy hy=>(List.mem_erase_of_ne (λz:y=x=>nd.1 (by rw[<-z];exact hy))).mpr (h y (Qv _ hy));rw[List.length_erase_of_mem hx]at this;have:0<ys.length:=List.length_pos_of_mem hx;rw[QU];omega
theorem oW:∀t,t<=26->((List.range t).map Xn).Nodup
 | 0,_=>by simp
 | t+1,h=>by
  rw[List.range_succ,Qx,List.nodup_append];refine⟨oW t (by omega),by simp,λa ha b hb e=>?_⟩;obtain⟨i,hi,rfl⟩:=Ql.mp ha;rw[List.mem_range]at hi;have:b=Xn t:=by simpa using hb
  subst this;have:=Ad i (by omega) t (by omega) e;omega
theorem Dr {t:Nat} (ht:t<=26) (h:∀j,j<t->Xn j∈ns):t<=ns.length:=by
 have:=pigeon ((List.range t).map Xn) ns (oW t ht) λx hx=>by
  obtain⟨j,hj,rfl⟩:=Ql.mp hx;exact h j (List.mem_range.mp hj)
 simpa using this
structure NmOk (b:Nat) (z:Str):Prop where
 pos:1<=z.length
 lt:z.length<b
def Bd (k:Nat):Nat:=9*2 ^ k
theorem rV (k:Nat):Bd (k+1)=2*Bd k:=by unfold Bd;rw[Nat.pow_succ];omega
theorem yy:∀k,9<=Bd k
 | 0=>by decide
 | k+1=>by rw[rV];have:=yy k;omega
theorem DJ:∀k,k<=11->Bd k<=20000:=by decide
theorem xa (h:ns≠[]):∃n∈ns,atI (ns.map V.str) (-1)=some (.str n):=by
 have hl:0<ns.length:=List.length_pos_iff.mpr h;refine⟨ns[ns.length-1],Xr _,?_⟩
 have e:ixN (ns.map V.str).length (-1)=some (ns.length-1):=by
  unfold ixN;rw[Qa,QA (by decide),QJ (by omega)];congr 1;omega
 unfold atI;rw[e];show (ns.map V.str)[ns.length-1]?=_;rw[Qi,Qd (by omega)];rfl
theorem rP {ws:List Str} {r:Int} (h0:0<=r) (h1:r<ws.length):∃n∈ws,atI (ws.map V.str) r=some (.str n):=by
 have hr:r.toNat<ws.length:=by omega
 refine⟨ws[r.toNat],Xr hr,?_⟩;have e:r=((r.toNat:Nat):Int):=by omega
 have q:=bU (xs:=ws.map V.str) (j:=r.toNat) (v:=.str ws[r.toNat]) (by rw[Qi,Qd hr];rfl);rw[<-e]at q;exact q
theorem sf {z:Str} {j:Int} (hz:1<=z.length) (hj:1<=j) (hn:j<=z.length):1<=(Txt.slice z none (some j)).length:=by
 have h':z.length=z.cps.size:=rfl;have e:j=((j.toNat:Nat):Int):=by omega
 have q:=congrArg List.length (gL (z:=z) (j:=j.toNat) (by omega));rw[<-e,Qo,Qs,Qo]at q;show 1<=(Txt.slice z none (some j)).cps.size;omega
def nI:Sp:=λvs H Q _=>∃(d:Addr) (ns:List Int) (spot:Int),vs=[.ref d,.int spot]/\H d=some (.lst (ns.map V.int))/\DOk ns/\0<=spot/\spot<=1000 /\
 ∀l (nm:List Str) H',am H H'->H l=none->nm.length=11->nm.Nodup->H' l=some (.lst (nm.map V.str))->Q (.ref l) H'
theorem mZ {ns:List Int} (h:DOk ns) (i:Int):∃n,0<=n/\n<10007/\atI (ns.map V.int) (i % ((ns.map V.int).length:Int))=some (.int n):=by
 have lo:=h.lo;rw[Qa];have h1:0<=i % (ns.length:Int):=Int.emod_nonneg _ (by omega);have h2:i % (ns.length:Int)<ns.length:=Int.emod_lt_of_pos _ (by omega);have h3:(i % (ns.length:Int)).toNat<ns.length:=by omega
 have e:i % (ns.length:Int)=(((i % (ns.length:Int)).toNat:Nat):Int):=by omega
 obtain⟨e1,e2⟩:=h.each _ (Xr h3);refine⟨ns[(i % (ns.length:Int)).toNat],e1,e2,?_⟩;have q:=bU (xs:=ns.map V.int) (j:=(i % (ns.length:Int)).toNat) (v:=.int ns[(i % (ns.length:Int)).toNat]) (by rw[Qi,Qd h3];rfl);rw[<-e]at q;exact q
theorem fY {ns:List Int} (h:DOk ns) {i:Int} (h0:0<=i) (h1:i<200):∃n,0<=n/\n<10007/\atI (ns.map V.int) i=some (.int n):=by
 have lo:=h.lo;have h3:i.toNat<ns.length:=by omega
 obtain⟨e1,e2⟩:=h.each _ (Xr h3);refine⟨ns[i.toNat],e1,e2,?_⟩;have e:i=((i.toNat:Nat):Int):=by omega
 have q:=bU (xs:=ns.map V.int) (j:=i.toNat) (v:=.int ns[i.toNat]) (by rw[Qi,Qd h3];rfl);rw[<-e]at q;exact q
theorem jw:∀(zs:List Str),(∀z∈zs,z.length=2)->((zs.map (·.cps.toList)).flatten).length=2*zs.length/\(zs.map (·.length)).sum=2*zs.length
 | [],_=>⟨rfl,rfl⟩
 | z::zs,h=>by
  have h0:z.cps.size=2:=h z (by simp);have h0':z.length=2:=h0;obtain⟨e1,e3⟩:=jw zs λz hz=>h z (Qv _ hz);refine⟨?_,?_⟩
  ·simp only[QH,List.flatten_cons,Qg,e1,QU,Qo,h0];omega
  simp only[QH,List.sum_cons,QU,e3,h0'];omega
theorem lap (a b:Str):(a++b).length=a.length+b.length:=by show (a.cps++b.cps).size=_;rw[Xd];rfl
theorem lM (i:Int):∃c,atI Lt.cps.toList (i % 26)=some c:=by
 have z26:((Lt.cps.size:Nat):Int)=26:=by decide +kernel
 obtain⟨c,e,_⟩:=xf (t:=Lt) (r:=i % 26) (Int.emod_nonneg _ (by decide)) (by rw[z26];exact Int.emod_lt_of_pos _ (by decide));exact⟨c,e⟩
def NJd (d l so:Addr) (spot:Int) (H:Hp) (wd:Str) (i:Nat) (ns:List Str):St->Hp->Prop:=λU H'=>∃(way x:Int) (nm:Str) (x10 x11:Option V),U=[some (.ref d),some (.int spot),some (.str Lt),some (.ref l),some (.int (0+i)),some (.ref so),some (.str wd),some (.int way),some (.int x),some (.str nm),x10,x11]/\0<=x/\NmOk (Bd (i+1)) nm/\H' l=some (.lst (ns.map V.str))/\am H H'
section
theorem l9:FnScope ["d", "spot", "letters", "found", "k", "some", "word", "way", "x", "name", "at", "turn"] ["d", "spot"] (az (top 43)):=by fin2
theorem sJ {f:Addr} {fd:FuncData} (Fu:Fun K "_law_names" "_law_names" (top 43) f fd) (T:Txt K mg TT):FnOk P w K mg base CX0 1 f fd ["d", "spot"] nI:=by
 have S:=l9;refine Fu.ok S (by room) (λcdv A outer s H vs Q E hr h=>?_);obtain⟨d,ds,spot,rfl,hd,dok,sp0,sp1,k⟩:=h;refine'⟨?_,?bb,?_⟩
 case bb =>
  walk_at "b";exact aC 2 S.nd aP;exact aC 3 S.nd (bo ae);walk_at "f";exact(bY (by rfl) T.n_range (aa ad ae aL));exact(b9 4 S.nd);walk_at "p";exact(xK (j:=5) S.nd rfl (by z_go) (tgs:=["j"]) (cap:=[("d", 0),("spot", 1),("k", 4)]) rfl ⟨rfl,rfl,rfl,rfl,rfl,rfl⟩ (bY (by rfl) T.n_range (aa ad ae aL)) (λ_ _ _ _=>(di (i:=0) (show List.Nodup [("j" : Str),("d" : Str),("spot" : Str),("k" : Str)] by decide +kernel) rfl (by z_go))) (λ_ _ _ _=>gO) (λ_ _ _ _=>(aB (jL (K:=K) rfl) (pv 1) (ap aV (ap aW (ap aW (ap aW ad (pv 2)) (ap dI ad (pv 3))) (pv 0)) (aF (d5 (K:=K) rfl) (by rfl) T.n_len QG (aa (pv 1) ae ag))))));exact aC 6 S.nd (dH PySem.F.plainAttrs_str PySem.F.slot_str_join PySem.F.type_str_join rf aP (aa (f9 "one" [("letters", 2)] (b8 (bx fO (pv 5) bK (bJ ad))) (λ_ _ _ _=>(ap bt (aB dL (pv 1) (ap aV (pv 0) ad)) (aB dL (pv 1) (ap aV (ap cw (pv 0) ad) ad))))) ae));exact aC 7 S.nd (ap aV (aB aI (pv 5) ad) ad);exact aC 8 S.nd (ap cw (aB aI (pv 5) ad) ad);exact aC 9 S.nd (bx dE (pv 6) bK (bJ (ap aW ad (ap aV (pv 8) ad))));exact(aH bZ (pv 7) ad (aO _));exact aC 9 S.nd (ap bt (bx dE (aB aI (ap fu (pv 3) (bo (aa (pv 6) ae ag))) ad) bK (bJ (ap aV (pv 8) ad))) (aB dL (pv 6) ad));exact(PW.pt (gr (aH bZ (pv 7) ad (aO _)) (eQ (aH (uG hr.units) (pv 3) (bo ae) (aO _)))));exact aC 10 S.nd (ap aV (pv 8) (aF du (by rfl) T.n_len QG (aa (aB aI (pv 3) (oj ja ad)) ae)));exact aC 9 S.nd (ap bt (ap bt (bx dE (aB aI (pv 3) (oj ja ad)) bK (bJ (pv 10))) (aB dL (pv 6) ad)) (bx dE (aB aI (pv 3) (oj ja ad)) (bJ (ap aW (pv 10) ad)) bK));exact(aH bZ (pv 7) ad (aO _));exact aC 9 S.nd (aB aI (bo (aa aP (aa aP (aa aP (aa aP (aa aP (aa aP (aa aP (aa aP (aa aP (aa aP ae aL) aL) aL) aL) aL) aL) aL) aL) aL) aL)) (ap aV (pv 8) ad));exact aC 11 S.nd ad;refine' fo PassesOwn.never ?_ ?_;rotate_left 2;exact(aH sw (pv 9) (pv 3) rfl);walk_at "p";exact aC 9 S.nd (ap jx (aB dL (pv 2) (pv 11)) ad);exact aC 11 S.nd (ap aW (pv 11) ad);exact(bD (dH QP QS QT bu (pv 3) (aa (pv 9) ae ag)));exact(aK (pv 3))
 x_go;lk;refine⟨by decide,λl hl=>?_⟩;generalize hE:upd _ l _=H1;have S1:am H H1:=by rw[<-hE];exact ai hl
 have q1:H1 l=some (.lst (([]:List Str).map V.str)):=by rw[<-hE];exact af
 clear hE;lk;refine⟨by decide,by decide,?_⟩;let I10:IvF:=λi U H'=>∃x4 x5 x6 x7 x8 x9 x10 x11,∃ns:List Str,U=[some (.ref d),some (.int spot),some (.str Lt),some (.ref l),x4,x5,x6,x7,x8,x9,x10,x11]/\i<=11/\ns.length=i/\ns.Nodup/\(∀n∈ns,NmOk (Bd i) n)/\H' l=some (.lst (ns.map V.str))/\am H H'
 refine cH (n:=11) I10
  ⟨_,_,_,_,_,_,_,_,[],rfl,QQ _,rfl,List.nodup_nil,(λn h=>nomatch h),q1,S1⟩ (λi U H' hi pv=>?_) (λU H' pv=>?_)
 ·obtain⟨x4,x5,x6,x7,x8,x9,x10,x11,ns,rfl,_,hn,nd,good,hl',SS⟩:=pv;have bge:=yy i;have ble:=DJ i (by omega);have bsu:=rV i;refine aA ?_;lk;refine cN ?_;lk;refine⟨by decide,by decide,λso hso=>?_⟩;have hdH:=SS _ _ hd;let I11:IvC:=λn H2 ys=>am H' H2/\H2 so=some (.lst ys)/\∃zs:List Int,ys=zs.map V.int/\zs.length=n/\∀z∈zs,0<=z/\z<10007;refine eX I11 ⟨ai hso,af,[],rfl,rfl,λz h=>nomatch h⟩ (λn H2 ys p=>p.2.1) (λn H2 ys hn5 p=>?_) (λH2 ys p=>?_)
  ·obtain⟨S2,h2,zs,rfl,hz,hc⟩:=p;refine aA ⟨⟨rfl,rfl,rfl,trivial⟩,i_yes (cT ?_)⟩;show tOp _ _ _ [some (.int (0+n)),some (.ref d),some (.int spot),some (.int (0+i))] _ _;have hd2:=S2 _ _ hdH;have lo:=dok.lo;lk;refine i_rI (by rw[Qa];omega) ?_;obtain⟨m,m0,m1,em⟩:=mZ dok (140+spot+5*(0+(i:Int))+(0+(n:Int)));refine bB (SqL.of hd2) em ?_;refine cA.mk h2 hn5 (by rw[Qa];omega) ⟨ba S2 hso,af,zs++[m],by simp,by simp[hz],λz hz'=>?_⟩;rcases Qr.mp hz' with h|h
   ·exact hc z h
   rw[QI]at h;rw[h];exact⟨m0,m1⟩
  obtain⟨S2,h2,zs,rfl,hz,hc⟩:=p
  obtain⟨z0,z1,z2,z3,z4,rfl⟩:∃z0 z1 z2 z3 z4,zs=[z0,z1,z2,z3,z4]:=by
   match zs,hz with
   | [z0,z1,z2,z3,z4],_=>exact⟨z0,z1,z2,z3,z4,rfl⟩
  have SS2:=SS.trans S2;have hl2:=S2 _ _ hl';have c4:=hc z4 (by simp);lk;refine⟨rfl,?_⟩;lk;refine cN ?_;lk;refine lx (SqL.of h2) λsl hsl=>?_;rw[show fB (([z0,z1,z2,z3,z4]:List Int).map V.int) none (some 4)=([z0,z1,z2,z3]:List Int).map V.int from rfl];generalize hE:upd _ sl _=H3;have S3:am H2 H3:=by rw[<-hE];exact ai hsl
  have q3:H3 sl=some (.lst (([z0,z1,z2,z3]:List Int).map V.int)):=by rw[<-hE];exact af
  clear hE;refine⟨sl,rfl,⟨_,SqL.of q3⟩,λwl hwl=>?_⟩;let I12:IvC:=λn H4 ys=>am H3 H4/\H4 wl=some (.lst ys)/\∃ws:List Str,ys=ws.map V.str/\ws.length=n/\∀w∈ws,w.length=2;refine eJ (xs:=([z0,z1,z2,z3]:List Int).map V.int) I12 ⟨ai hwl,af,[],rfl,rfl,λz h=>nomatch h⟩ (λn H4 ys p=>⟨p.2.1,SqL.of (p.1 _ _ q3)⟩) (λn y H4 ys e p=>?_) (λH4 ys p=>?_)
  ·obtain⟨S4,h4,ws,rfl,hw,hc4⟩:=p;have hn4:n<4:=(Qe.mp e).1;rw[Qi]at e
   cases ez:([z0,z1,z2,z3]:List Int)[n]? with
   | none=>rw[ez]at e;cases e
   | some o =>
   rw[ez]at e;cases e;refine aA ⟨⟨rfl,trivial⟩,i_yes (cT ?_)⟩;show tOp _ _ _ [some (.int o),some (.str Lt)] _ _;obtain⟨c1,e1⟩:=lM o;obtain⟨c2,e2⟩:=lM (o / 26);lk;refine fz (by decide +kernel) e1 ?_;lk;refine fz (by decide +kernel) e2 ?_;refine⟨_,_,rfl,rfl,(by show 1+1<=sizeLine;decide),?_⟩;refine cA.mk h4 hn4 (by rw[Qa];omega) ⟨ba S4 hwl,af,ws++[⟨#[c1]⟩++⟨#[c2]⟩],by simp,by simp[hw],λz hz'=>?_⟩;rcases Qr.mp hz' with h|h
   ·exact hc4 z h
   rw[QI]at h;rw[h];rfl
  obtain⟨S4,h4,ws,rfl,hw,hc4⟩:=p;have hw:ws.length=4:=hw;obtain⟨f1,f2⟩:=jw ws hc4;have e0:("" : Str)=Str.empty:=by decide +kernel
  have e00:("" : Str).length=0:=by decide +kernel
  have SS4:=SS2.trans (S3.trans S4);have hl4:=(S3.trans S4) _ _ hl2;have h24:=(S3.trans S4) _ _ h2;refine aM ⟨"", wl,ws,rfl,rfl,SqL.of h4,by rw[f2,e00];omega,?_⟩;rw[e0]
  have wdl:(Txt.join Str.empty ws).length=8:=by
   show (Txt.join Str.empty ws).cps.size=8;rw[<-Qo,ly,f1,hw]
  generalize Txt.join Str.empty ws=wd at *;have wd':wd.cps.size=8:=wdl;clear S2 S3 S4 h2 q3 h4 f1 f2 hw hc4 hso hsl hwl hl2 SS2;lk;have x0:0<=z4 / 4:=by omega
  generalize z4 / 4=xx at *;generalize z4 % 4=way at *;have sp:=sf (z:=wd) (j:=1+xx % 8) (by omega) (by omega) (by omega);have sle:=Txt.slice_le wd none (some (1+xx % 8));refine fw (by omega) ?_;have hnm:NmOk (Bd (i+1)) (Txt.slice wd none (some (1+xx % 8))):=⟨sp,by omega⟩;generalize Txt.slice wd none (some (1+xx % 8))=nm at *;refine aA ?_;have aw:atI wd.cps.toList 0=some (wd.cps.getD 0 0):=bU (j:=0) (by simp[Array.getD,wd']);have l1:∀c,(⟨#[c]⟩:Str).length=1:=λ_=>rfl;with_reducible refine dG (NJd d l so spot H wd i ns) (λR hR=>?_) (λσ6 H6 j6=>?_)
  ·lk;refine dZ (λ_=>?_) (λ_=>hR _ _ ⟨way,xx,nm,x10,x11,rfl,x0,hnm,hl4,SS4⟩);lk;refine⟨by show 1<=sizeLine;decide,λp hp=>?_⟩;generalize hE:upd _ p _=H5;have S5:am H4 H5:=by rw[<-hE];exact ai hp
   have q5:H5 p=some (.lst [.str wd]):=by rw[<-hE];exact af
   clear hE;have hl5:=S5 _ _ hl4;refine iH hl5 q5 (by rw[Qa];simp;omega) λp2 hp2=>?_;rw[show ns.map V.str++[V.str wd]=(ns++[wd]).map V.str from by simp];generalize hE:upd _ p2 _=H6;have S6:am H5 H6:=by rw[<-hE];exact ai hp2
   have q6:H6 p2=some (.lst ((ns++[wd]).map V.str)):=by rw[<-hE];exact af
   clear hE
   obtain⟨a0,ha0,ea0,la0⟩:∃a0,a0∈ns++[wd]/\atI ((ns++[wd]).map V.str) 0=some (.str a0)/\a0.length<Bd i:=by
    cases ens:ns with
    | nil=>exact⟨wd,by simp,rfl,by omega⟩
    | cons a r=>exact⟨a,by simp,bU (j:=0) (by simp),(good a (by rw[ens];simp)).lt⟩
   lk;refine bB (SqL.of q6) ea0 ?_;lk;refine fw (by omega) ?_;lk;refine fz (by omega) aw ?_;have sl:=Txt.slice_le a0 none (some (xx % 8));refine⟨_,_,rfl,rfl,by rw[l1];omega,?_⟩;refine aA (hR _ _ ⟨way,xx,_,x10,x11,rfl,x0,?_,(S5.trans S6) _ _ hl4,SS4.trans (S5.trans S6)⟩);exact⟨by rw[lap,l1];omega,by rw[lap,l1];omega⟩
  clear hnm SS4 hl4 h24 x0;with_reducible refine dG (NJd d l so spot H wd i ns) (λR hR=>?_) (λσ7 H7 j7=>?_)
  ·obtain⟨way,xx,nm,x10,x11,rfl,x0,hnm,hl6,SS6⟩:=j6;have out:∀H',am H6 H'->R [some (.ref d),some (.int spot),some (.str Lt),some (.ref l),some (.int (0+i)),some (.ref so),some (.str wd),some (.int way),some (.int xx),some (.str nm),x10,x11] H':=λH' kq=>hR _ _ ⟨way,xx,nm,x10,x11,rfl,x0,hnm,kq _ _ hl6,SS6.trans kq⟩;lk;refine dZ (λ_=>?_) (λ_=>?_)
   ·lk;refine⟨by decide,λp hp=>?_⟩;have S7:=ai (o:=.lst []) hp;have hl7:=S7 _ _ hl6;refine⟨l,p,_,[],λ_=>true,rfl,rfl,SqL.of hl7,SqL.of af,(λj x y _ h=>by simp at h),⟨_,rfl,?_⟩⟩;refine dZ (λhne=>?_) (λ_=>out _ S7);have nne:ns≠[]:=λz=>by subst z;simp at hne
    obtain⟨la,hla,ela⟩:=xa nne;have gla:=good la hla;have gp:=gla.pos;have gl:=gla.lt;have SS8:=SS6.trans S7;generalize upd H6 p (.lst [])=H8 at *;lk;refine bB (SqL.of hl7) ela ?_;lk;refine⟨_,rfl,by omega,?_⟩;refine i_rI (by omega) ?_;lk;refine bB (SqL.of hl7) ela ?_;lk;refine fw (by omega) ?_;lk;refine fz (by omega) aw ?_;generalize xx % (la.length:Int)=at1 at *;have sl1:=Txt.slice_le la none (some at1);have sl2:=Txt.slice_le la (some (at1+1)) none;refine⟨_,_,rfl,rfl,by rw[l1];omega,?_⟩;lk;refine bB (SqL.of hl7) ela ?_;lk;refine fw (by omega) ?_;refine⟨_,_,rfl,rfl,by rw[lap,l1];omega,?_⟩;refine aA (hR _ _ ⟨way,xx,_,_,x11,rfl,x0,?_,hl7,SS8⟩);exact⟨by rw[lap,lap,l1];omega,by rw[lap,lap,l1];omega⟩
   first|exact out _ (am.refl _)|exact cU (out _ (am.refl _))
  with_reducible refine dG (NJd d l so spot H wd i ns) (λR hR=>?_) (λσ8 H8 j8=>?_)
  ·obtain⟨way,xx,nm,x10,x11,rfl,x0,hnm,hl6,SS6⟩:=j7;lk;refine dZ (λ_=>?_) (λ_=>hR _ _ ⟨way,xx,nm,x10,x11,rfl,x0,hnm,hl6,SS6⟩);lk;refine⟨by decide +kernel,λp hp=>?_⟩;have S7:=ai (o:=.lst ((["a", "wire", "not", "and", "or", "zzzzzzzz", "in", "start", "none", "end"]:List Str).map V.str)) hp;have hl7:=S7 _ _ hl6;have hp7:upd H7 p (.lst ((["a", "wire", "not", "and", "or", "zzzzzzzz", "in", "start", "none", "end"]:List Str).map V.str)) p=some (.lst ((["a", "wire", "not", "and", "or", "zzzzzzzz", "in", "start", "none", "end"]:List Str).map V.str)):=af;show tOp _ _ _ _ (upd H7 p (.lst ((["a", "wire", "not", "and", "or", "zzzzzzzz", "in", "start", "none", "end"]:List Str).map V.str))) _;have SS8:=SS6.trans S7;generalize upd H7 p (.lst ((["a", "wire", "not", "and", "or", "zzzzzzzz", "in", "start", "none", "end"]:List Str).map V.str))=H8 at *;obtain⟨pw,hw,ew⟩:=rP (ws:=["a", "wire", "not", "and", "or", "zzzzzzzz", "in", "start", "none", "end"]) (r:=xx % 10) (by omega) (by show xx % 10<10;omega);lk;refine bB (SqL.of hp7) ew ?_;refine aA (hR _ _ ⟨way,xx,pw,x10,x11,rfl,x0,?_,hl7,SS8⟩);have hh:∀wd∈(["a", "wire", "not", "and", "or", "zzzzzzzz", "in", "start", "none", "end"]:List Str),1<=wd.length/\wd.length<=8:=by decide +kernel
   obtain⟨q1,q2⟩:=hh pw hw;exact⟨q1,by omega⟩
  obtain⟨way,xx,nm,x10,x11,e,x0,hnm,hl6,SS6⟩:=j8;subst e;with_reducible refine s_seq (bI (i_c (aA ?_)))
  let I13:IvJ:=λU H'=>∃(t:Int) (nm:Str),U=[some (.ref d),some (.int spot),some (.str Lt),some (.ref l),some (.int (0+i)),some (.ref so),some (.str wd),some (.int way),some (.int xx),some (.str nm),x10,some (.int t)]/\NmOk (Bd (i+1)) nm/\nm∉ns/\H'=H8;with_reducible refine dG I13 (λR hR=>?_) (λσ9 H9 j9=>?_)
  ·let I14:IvF:=λn U H'=>∃(t:Nat) (nm:Str),n=26-t/\t<=11/\U=[some (.ref d),some (.int spot),some (.str Lt),some (.ref l),some (.int (0+i)),some (.ref so),some (.str wd),some (.int way),some (.int xx),some (.str nm),x10,some (.int t)]/\NmOk (Bd (i+1)) nm/\H'=H8/\(∀j,j+1<t->Xn j∈ns)/\(1<=t->nm=Xn (t-1));refine⟨I14,⟨26,0,nm,rfl,by omega,rfl,hnm,rfl,(λj h=>by omega),(λh=>by omega)⟩,?_⟩;rintro n U H' ⟨t,nm,rfl,t11,rfl,hnm,rfl,q1,q2⟩;have z26:((Lt.cps.size:Nat):Int)=26:=by decide +kernel
   lk;refine ED (SqL.of hl6) rfl (lA ns) ?_;refine⟨_,rfl,?_⟩;refine dZ (λhin=>?_) (λhin=>?_)
   ·have hmem:=mK.mp hin
    have hall:∀j,j<t->Xn j∈ns:=λj hj=>by
     by_cases z:j+1<t
     ·exact q1 j z
     have:j=t-1:=by omega
     rw[this,<-q2 (by omega)];exact hmem
    have ht:=Dr (by omega) hall;refine⟨_,λσ' H' w=>⟨26-(t+1),Nat.sub_lt_sub_left (Xz t11 (by decide)) (Nat.lt_succ_self _),w⟩,?_⟩;lk
    have et:atI Lt.cps.toList ((t:Nat):Int)=some (Lt.cps.getD t 0):=by
     refine bU ?_;have:t<Lt.cps.size:=by omega
     simp[Array.getD,this]
    refine fz (by decide +kernel) et ?_;lk;refine⟨_,_,rfl,rfl,Dc _,?_⟩;lk;refine⟨t+1,Xn t,rfl,by omega,rfl,?_,rfl,(λj hj=>hall j (by omega)),(λ_=>rfl)⟩;have:=Ac t (by omega);exact⟨by omega,by omega⟩
   exact hR _ _ ⟨t,nm,rfl,hnm,λz=>hin (mK.mpr z),rfl⟩
  obtain⟨t,nm,e,hnm,hnot,e9⟩:=j9;subst e e9;lk;refine fA hl6 (by rw[Qa];omega) ?_;refine⟨_,_,_,_,_,_,_,_,ns++[nm],rfl,by omega,by simp[hn],?_,λn hn'=>?_,by rw[af];simp,ba SS6 hl⟩
  ·rw[List.nodup_append]
   exact⟨nd,by simp,λa ha b hb e=>hnot (by
    have hb':b=nm:=by simpa using hb
    rw[<-hb',<-e];exact ha)⟩
  rcases Qr.mp hn' with h|h
  ·have g:=good n h;have g1:=g.pos;have g2:=g.lt;exact⟨g1,by omega⟩
  have:n=nm:=by simpa using h
  rw[this];exact hnm
 obtain⟨x4,x5,x6,x7,x8,x9,x10,x11,ns,rfl,_,hn,nd,good,hl',SS⟩:=pv;refine s_ret (te:=cq 3) (D:={ nx:=λx H'=>Q V.non H',rt:=Q }) (ak rfl ?_);exact k l ns H' SS hl hn nd hl'
end
structure KpP (q:Addr) (H H':Hp):Prop where
 old:∀b o,H b=some o->b≠q->H' b=some o
 at':∃n:Int,H' q=some (.lst [.int n])
theorem KpP.trans (a:KpP q H H1) (b:KpP q H1 H2):KpP q H H2:=⟨λc o e n=>b.old c o (a.old c o e n) n,b.at'⟩
theorem KpP.of (h:∃n:Int,H q=some (.lst [.int n])) (S:am H H'):KpP q H H':=⟨λb o e _=>S b o e,let ⟨n,e⟩:=h;⟨n,S _ _ e⟩⟩
theorem KpP.new (k:KpP q H H') (hp:H' p=none):KpP q H (upd H' p o):=k.trans (KpP.of k.at' (ai hp))
theorem KpP.tups (h:∃n:Int,H q=some (.lst [.int n])) (k:KpP q H H'):dh H H':=λb xs e=>k.old b _ e λz=>by obtain⟨n,h⟩:=h;rw[z,h]at e;cases e
theorem KpP.strs (h:∃n:Int,H q=some (.lst [.int n])) (k:KpP q H H') (e:H l=some (.lst (ns.map V.str))):H' l=some (.lst (ns.map V.str)):=k.old l _ e λz=>by
 obtain⟨n,h⟩:=h;rw[z,h]at e;have e:=QN e;injection e with e
 cases ns with
 | nil=>cases e
 | cons a r=>simp at e
theorem KpP.ints {ns:List Int} (h:∃n:Int,H q=some (.lst [.int n])) (k:KpP q H H') (ok:DOk ns) (e:H l=some (.lst (ns.map V.int))):H' l=some (.lst (ns.map V.int)):=k.old l _ e λz=>by
 obtain⟨n,h⟩:=h;rw[z,h]at e;have e:=QN e;injection e with e;have lo:=ok.lo;have:=congrArg List.length e;simp at this;omega
def iT (d:Nat):Sp:=λvs H Q _=>∃(da qa l:Addr) (ds:List Int) (ns:List Str) (m:Nat),vs=[.ref da,.ref qa,.ref l,.int m]/\H da=some (.lst (ds.map V.int))/\DOk ds/\(∃n:Int,H qa=some (.lst [.int n]))/\H l=some (.lst (ns.map V.str))/\ns≠[]/\ns.length<=1000/\1<=m/\m<=d /\
 ∀v r H',RAt H' v r->r.ok ns->r.dep<=m->KpP qa H H'->Q v H'
def ph:Sp:=λvs H Q _=>∃v1 v2 v3 r1 r2 r3,vs=[v1,v2,v3]/\RAt H v1 r1/\RAt H v2 r2/\RAt H v3 r3/\∀v H',am H H'->RAt H' v (.orr (.an r1 r2) (.an r3 (.orr r1 r2)))->Q v H'
theorem rQ (ne:ns≠[]) (i:Int):∃n∈ns,atI (ns.map V.str) (i % ((ns.map V.str).length:Int))=some (.str n):=by
 have hl:0<ns.length:=List.length_pos_iff.mpr ne;rw[Qa];have h1:0<=i % (ns.length:Int):=Int.emod_nonneg _ (by omega);have h2:i % (ns.length:Int)<ns.length:=Int.emod_lt_of_pos _ (by omega);exact rP h1 h2
section
theorem nV:FnScope ["d", "pos", "names", "deep", "x", "way", "one"] ["d", "pos", "names", "deep"] (az (top 44)):=by fin2
theorem ol {f:Addr} {fd:FuncData} (Fu:Fun K "_law_rule" "_law_rule" (top 44) f fd) (T:Txt K mg TT) (hm:mg "_law_rule" = some (.ref f)) (hk:PySem.W.keepIn K (.ref f)=true) (hb:dW K fd ["d", "pos", "names", "deep"] []):∀d,FnOk P w K mg base CX0 (d+1) f fd ["d", "pos", "names", "deep"] (iT d)
 | 0=>gy λvs H Q E ⟨_,_,_,_,_,m,_,_,_,_,_,_,_,h1,h2,_⟩=>by omega
 | d+1=>by
  have S:=nV;have f_law_rule:Fn P w K mg base "_law_rule" ["d", "pos", "names", "deep"] (d+1) (iT d):=⟨f,fd,ol Fu T hm hk hb d,hm,hk,hb⟩;refine Fu.ok S (λvs H Q E h=>?_) (λcdv A outer s H vs Q E hr h=>?_)
  ·obtain⟨da,qa,l,ds,ns,m,rfl,_⟩:=h;rfl
  obtain⟨da,qa,l,ds,ns,m,rfl,hd,dok,⟨n0,hq⟩,hl,ne,few,m1,m2,k⟩:=h;refine'⟨?_,?bb,?_⟩
  case bb =>
   walk_at "b";exact aC 4 S.nd (aB aI (pv 0) (ap aV (aB aI (pv 1) ad) (aF aJ (by rfl) T.n_len QG (aa (pv 0) ae ag))));exact(uo (ap aW (aB aI (pv 1) ad) ad) (ux (pv 1) ad nP));exact aC 5 S.nd (ap aV (pv 4) ad);exact(PW.pt (gN (aH lh (pv 3) ad (aO _)) (eP (aH lh (pv 5) ad (aO _)))));exact(aK (pe_tup (aa aP (aa (aB aI (pv 2) (ap aV (ap cw (pv 4) ad) (aF aJ (by rfl) T.n_len QG (aa (pv 2) ae ag)))) ae) aL)));exact(aH lh (pv 5) ad (aO _));exact(aK (pe_tup (aa aP (aa (aY f_law_rule hr (aa (pv 0) (aa (pv 1) (aa (pv 2) (aa (ap iq (pv 3) ad) ae) ag) ag) ag)) ae se_call) aL)));exact aC 6 S.nd (aY f_law_rule hr (aa (pv 0) (aa (pv 1) (aa (pv 2) (aa (ap iq (pv 3) ad) ae) ag) ag) ag));refine' aK ?e
   case e =>
    walk_at "q";exact(aB aI (bo (aa aP (aa aP ae aL) aL)) (ap aV (ap cw (pv 4) ad) ad));exact(pv 6);exact(aY f_law_rule hr (aa (pv 0) (aa (pv 1) (aa (pv 2) (aa (ap iq (pv 3) ad) ae se_bin) ag) ag) ag))
  x_go;have lo:=dok.lo;have nl:1<=ns.length:=List.length_pos_iff.mpr ne;lk;refine i_rI (by rw[Qa];omega) ?_;obtain⟨x,x0,x1,ex⟩:=mZ dok n0;refine bB (SqL.of hd) ex ?_;lk;generalize hE:upd H qa _=H1;have kp1:KpP qa H H1:=⟨λb o e nb=>by rw[<-hE,aj nb];exact e,n0+1,by rw[<-hE];exact af⟩;clear hE;have hq0:∃n:Int,H qa=some (.lst [.int n]):=⟨n0,hq⟩;have hl1:=kp1.strs hq0 hl;have hd1:=kp1.ints hq0 dok hd
  have leaf:nB (bq (tC (V.str "wire")) (bq (tOp (pD K) (cq 2) (tOp (rI (λx j=>0<j) λi j=>V.int (i % j)) (tOp (rI DI λi j=>V.int (i / j)) (cq 4) (tC (V.int 7))) (tCB (λxs H Q=>∃p ys,xs=[V.ref p]/\(SqL K H p ys\/SqT K H p ys)/\Q (V.int ↑ys.length) H) (bq (cq 2) eO)))) eO))
    [some (.ref da),some (.ref qa),some (.ref l),some (.int m),some (.int x),some (.int (x % 7)),none] H1 Q:=by
   lk;refine i_rI (by rw[Qa];omega) ?_;obtain⟨nm,hnm,enm⟩:=rQ ne (x / 7);refine bB (SqL.of hl1) enm ?_;lk;refine⟨by simp[sizeLine],λp hp=>?_⟩;exact k _ (.w nm) _ (.w af) hnm (by simp[Rl.dep];omega) (kp1.new hp)
  refine dZ (λh1=>?_) (λh1=>?_)
  ·exact cT leaf
  have m3:2<=m:=by
   by_cases z:m=1
   ·exact absurd (by rw[z];decide) h1
   omega
  lk;refine dZ (λh2=>?_) (λh2=>?_)
  ·exact leaf
  have em:(m:Int)-1=((m-1:Nat):Int):=by omega
  lk;refine dZ (λh3=>?_) (λh3=>?_)
  ·lk;refine⟨da,qa,l,ds,ns,m-1,by rw[<-em],hd1,dok,kp1.at',hl1,ne,few,by omega,by omega,λv r H2 hv rok rd kp2=>?_⟩;lk;refine⟨by simp[sizeLine],λp hp=>?_⟩;exact k _ (.no r) _ (.no af (hv.mono (am.tups (ai hp)))) rok (by simp only[Rl.dep];omega) ((kp1.trans kp2).new hp)
  lk;refine⟨da,qa,l,ds,ns,m-1,by rw[<-em],hd1,dok,kp1.at',hl1,ne,few,by omega,by omega,λv r H2 hv rok rd kp2=>?_⟩;have hl2:=kp2.strs kp1.at' hl1;have hd2:=kp2.ints kp1.at' dok hd1;have kp12:=kp1.trans kp2;lk;refine⟨by simp[sizeLine],λp hp=>?_⟩;have hpp:upd H2 p (HO.lst [V.str "and", V.str "or"]) p=some (.lst ((["and", "or"]:List Str).map V.str)):=af;have S3:=ai (o:=HO.lst [V.str "and", V.str "or"]) hp;have kp3:=KpP.of kp2.at' S3;generalize upd H2 p (HO.lst [V.str "and", V.str "or"])=H3 at *;have hv3:=hv.mono (am.tups S3);have hl3:=S3 _ _ hl2;have hd3:=S3 _ _ hd2;lk
  have last:∀(wd:Str) (mk:Rl->Rl->Rl),(∀{H:Hp} {a:Addr} {v u:V} {r s:Rl},H a=some (.tup [.str wd,v,u])->RAt H v r->RAt H u s->RAt H (.ref a) (mk r s))->(∀r s,(mk r s).dep=max r.dep s.dep+1)->(∀r s,r.ok ns->s.ok ns->(mk r s).ok ns) ->
    bq (cq 6) (bq (gJ (iT d) [] E0 (bq (cq 0) (bq (cq 1) (bq (cq 2) (bq (tOp (rI0 λi j=>V.int (i-j)) (cq 3) (tC (V.int 1))) eO))))) eO) [some (.ref da),some (.ref qa),some (.ref l),some (.int m),some (.int x),some (.int (x % 7)),some v] H3
     λxs H5=>(V.str wd::xs).length<=sizeLine/\∀p,H5 p=none->Q (.ref p) (upd H5 p (.tup (V.str wd::xs))):=by
   intro wd mk c1 c2 c3;lk;refine⟨da,qa,l,ds,ns,m-1,by rw[<-em],hd3,dok,kp3.at',hl3,ne,few,by omega,by omega,λv2 s2 H5 hv2 rok2 rd2 kp5=>?_⟩;lk;refine⟨by simp[sizeLine],λp hp=>?_⟩;have S6:=ai (o:=HO.tup [V.str wd,v,v2]) hp;exact k _ (mk r s2) _ (c1 af ((hv3.mono (kp5.tups kp3.at')).mono (am.tups S6)) (hv2.mono (am.tups S6))) (c3 _ _ rok rok2) (by rw[c2];omega) ((kp12.trans (kp3.trans kp5)).new hp)
  have hr2:x / 7 % 2=0\/x / 7 % 2=1:=by omega
  rcases hr2 with z|z
  ·rw[z];refine bB (SqL.of hpp) (v:=.str "and") rfl ?_;exact last "and" .an (λa b c=>.an a b c) (λ_ _=>rfl) (λ_ _ a b=>⟨a,b⟩)
  rw[z];refine bB (SqL.of hpp) (v:=.str "or") rfl ?_;exact last "or" .orr (λa b c=>.orr a b c) (λ_ _=>rfl) (λ_ _ a b=>⟨a,b⟩)
theorem nW:FnScope ["one", "other", "own"] ["one", "other", "own"] (az (top 45)):=by fin2
theorem wG {f:Addr} {fd:FuncData} (Fu:Fun K "_law_held" "_law_held" (top 45) f fd) (T:Txt K mg TT):FnOk P w K mg base CX0 1 f fd ["one", "other", "own"] ph:=by
 have S:=nW;refine Fu.ok S (by room) (λcdv A outer s H vs Q E hr h=>?_);obtain⟨v1,v2,v3,r1,r2,r3,rfl,h1,h2,h3,k⟩:=h;refine⟨_,(aR (aK (pe_tup (aa aP (aa (pe_tup (aa aP (aa (pv 0) (aa (pv 1) ae ag) ag) aL)) (aa (pe_tup (aa aP (aa (pv 2) (aa (pe_tup (aa aP (aa (pv 0) (aa (pv 1) ae ag) ag) aL)) ae se_tup) ag) aL)) ae se_tup) se_tup) aL)))),?_⟩;x_go;lk;refine⟨by simp[sizeLine],λp1 hp1=>?_⟩;have S1:=ai (o:=.tup [.str "and", v1,v2]) hp1;have q1:upd H p1 (.tup [.str "and", v1,v2]) p1=some (.tup [.str "and", v1,v2]):=af;generalize upd H p1 (.tup [.str "and", v1,v2])=H1 at *;lk;refine⟨by simp[sizeLine],λp2 hp2=>?_⟩;have S2:=ai (o:=.tup [.str "or", v1,v2]) hp2;have q2:upd H1 p2 (.tup [.str "or", v1,v2]) p2=some (.tup [.str "or", v1,v2]):=af;generalize upd H1 p2 (.tup [.str "or", v1,v2])=H2 at *;lk;refine⟨by simp[sizeLine],λp3 hp3=>?_⟩;have S3:=ai (o:=.tup [.str "and", v3,.ref p2]) hp3;have q3:upd H2 p3 (.tup [.str "and", v3,.ref p2]) p3=some (.tup [.str "and", v3,.ref p2]):=af;generalize upd H2 p3 (.tup [.str "and", v3,.ref p2])=H3 at *;lk;refine⟨by simp[sizeLine],λp4 hp4=>?_⟩;have S4:=ai (o:=.tup [.str "or", .ref p1,.ref p3]) hp4;have S14:=S1.trans (S2.trans (S3.trans S4));have m1:=h1.mono (am.tups S14);have m2:=h2.mono (am.tups S14);have m3:=h3.mono (am.tups S14);exact k _ _ S14 (.orr af (.an ((S2.trans (S3.trans S4)) _ _ q1) m1 m2) (.an (S4 _ _ q3) m3 (.orr ((S3.trans S4) _ _ q2) m1 m2)))
end
def jg:Sp:=λvs H Q _=>∃(da qa l:Addr) (ds:List Int) (ns:List Str) (v:V) (r:Rl),vs=[.ref da,.ref qa,.ref l,v]/\H da=some (.lst (ds.map V.int))/\DOk ds/\(∃n:Int,H qa=some (.lst [.int n]))/\H l=some (.lst (ns.map V.str))/\ns≠[]/\ns.length<=1000/\RAt H v r/\r.ok ns/\r.dep<=6 /\
 ∀v' r' H',RAt H' v' r'->r'.ok ns->r'.dep<=10->KpP qa H H'->Q v' H'
section
theorem kJ:FnScope ["d", "pos", "names", "rule", "many", "k", "x", "one"] ["d", "pos", "names", "rule"] (az (top 47)):=by fin2
theorem sN {f:Addr} {fd:FuncData} (Fu:Fun K "_law_deeper" "_law_deeper" (top 47) f fd) (T:Txt K mg TT):FnOk P w K mg base CX0 1 f fd ["d", "pos", "names", "rule"] jg:=by
 have S:=kJ;refine Fu.ok S (by room) (λcdv A outer s H vs Q E hr h=>?_);obtain⟨da,qa,l,ds,ns,v,r,rfl,hd,dok,⟨n0,hq⟩,hl,ne,few,hv,rok,rd,k⟩:=h;refine'⟨?_,?bb,?_⟩
 case bb =>
  walk_at "b";exact aC 4 S.nd (ap aV (aB aI (pv 0) (ap aV (aB aI (pv 1) ad) (aF aJ (by rfl) T.n_len QG (aa (pv 0) ae ag)))) ad);walk_at "f";exact(bY (by rfl) T.n_range (aa (pv 4) ae ag));exact(b9 5 S.nd);walk_at "p";exact(uo (ap aW (aB aI (pv 1) ad) ad) (ux (pv 1) ad nP));exact aC 6 S.nd (aB aI (pv 0) (ap aV (aB aI (pv 1) ad) (aF aJ (by rfl) T.n_len QG (aa (pv 0) ae ag))));exact aC 7 S.nd (pe_tup (aa aP (aa (aB aI (pv 2) (ap aV (pv 6) (aF aJ (by rfl) T.n_len QG (aa (pv 2) ae ag)))) ae) aL));exact aC 3 S.nd (aB aI (bo (aa (pe_tup (aa aP (aa (pv 3) ae ag) aL)) (aa (pe_tup (aa aP (aa (pv 7) (aa (pv 3) ae ag) ag) aL)) (aa (pe_tup (aa aP (aa (pv 3) (aa (pv 7) ae ag) ag) aL)) (aa (pe_tup (aa aP (aa (pv 7) (aa (pv 3) ae ag) ag) aL)) ae se_tup) se_tup) se_tup) se_tup)) (ap aV (ap cw (pv 6) ad) ad));exact(aK (pv 3))
 x_go;have lo:=dok.lo;have nl:1<=ns.length:=List.length_pos_iff.mpr ne;lk;refine i_rI (by rw[Qa];omega) ?_;obtain⟨x,x0,x1,ex⟩:=mZ dok n0;refine bB (SqL.of hd) ex ?_;lk;refine⟨by omega,by omega,?_⟩;have h4:(x % 5).toNat<=4:=by omega
 have hq0:∃n:Int,H qa=some (.lst [.int n]):=⟨n0,hq⟩;let I15:IvF:=λi U H'=>∃v' r' x4 x5 x6 x7,U=[some (.ref da),some (.ref qa),some (.ref l),some v',x4,x5,x6,x7]/\RAt H' v' r'/\r'.ok ns/\r'.dep<=6+i/\KpP qa H H';refine cH I15 ⟨v,r,_,_,_,_,rfl,hv,rok,rd,KpP.of hq0 (am.refl _)⟩ (λi U H' hi pv=>?_) (λU H' pv=>?_)
 ·obtain⟨v',r',x4,x5,x6,x7,rfl,hv',rok',rd',kp⟩:=pv;obtain⟨n1,hq1⟩:=kp.at';have hd1:=kp.ints hq0 dok hd;have hl1:=kp.strs hq0 hl;refine aA ?_;lk;generalize hE:upd H' qa _=H1;have kp1:KpP qa H' H1:=⟨λb o e nb=>by rw[<-hE,aj nb];exact e,n1+1,by rw[<-hE];exact af⟩;have hq2:H1 qa=some (.lst [.int (n1+1)]):=by rw[<-hE];exact af
  clear hE;have hqe:∃n:Int,H' qa=some (.lst [.int n]):=⟨n1,hq1⟩;have hd2:=kp1.ints hqe dok hd1;have hl2:=kp1.strs hqe hl1;have hv2:=hv'.mono (kp1.tups hqe);lk;refine i_rI (by rw[Qa];omega) ?_;obtain⟨y,y0,y1,ey⟩:=mZ dok (n1+1);refine bB (SqL.of hd2) ey ?_;lk;refine i_rI (by rw[Qa];omega) ?_;obtain⟨nm,hnm,enm⟩:=rQ ne y;refine bB (SqL.of hl2) enm ?_;lk;refine⟨by simp[sizeLine],λp0 hp0=>?_⟩;generalize hE:upd H1 p0 _=H2;have S2:am H1 H2:=by rw[<-hE];exact ai hp0
  have o2:RAt H2 (.ref p0) (.w nm):=by rw[<-hE];exact .w af
  clear hE;have hv3:=hv2.mono (am.tups S2);lk;refine⟨by simp[sizeLine],λp1 hp1=>?_⟩;generalize hE:upd H2 p1 _=H3;have S3:am H2 H3:=by rw[<-hE];exact ai hp1
  have a1:RAt H3 (.ref p1) (.no r'):=by rw[<-hE];exact .no af (hv3.mono (am.tups (ai hp1)))
  clear hE;have hv4:=hv3.mono (am.tups S3);have o3:=o2.mono (am.tups S3);lk;refine⟨by simp[sizeLine],λp2 hp2=>?_⟩;generalize hE:upd H3 p2 _=H4;have S4:am H3 H4:=by rw[<-hE];exact ai hp2
  have a2:RAt H4 (.ref p2) (.an (.w nm) r'):=by rw[<-hE];exact .an af (o3.mono (am.tups (ai hp2))) (hv4.mono (am.tups (ai hp2)))
  clear hE;have hv5:=hv4.mono (am.tups S4);have o4:=o3.mono (am.tups S4);lk;refine⟨by simp[sizeLine],λp3 hp3=>?_⟩;generalize hE:upd H4 p3 _=H5;have S5:am H4 H5:=by rw[<-hE];exact ai hp3
  have a3:RAt H5 (.ref p3) (.orr r' (.w nm)):=by rw[<-hE];exact .orr af (hv5.mono (am.tups (ai hp3))) (o4.mono (am.tups (ai hp3)))
  clear hE;have hv6:=hv5.mono (am.tups S5);have o5:=o4.mono (am.tups S5);lk;refine⟨by simp[sizeLine],λp4 hp4=>?_⟩;generalize hE:upd H5 p4 _=H6;have S6:am H5 H6:=by rw[<-hE];exact ai hp4
  have a4:RAt H6 (.ref p4) (.orr (.w nm) r'):=by rw[<-hE];exact .orr af (o5.mono (am.tups (ai hp4))) (hv6.mono (am.tups (ai hp4)))
  clear hE;lk;refine⟨by simp[sizeLine],λp5 hp5=>?_⟩;generalize hE:upd H6 p5 _=H7;have S7:am H6 H7:=by rw[<-hE];exact ai hp5
  have q7:H7 p5=some (.lst [.ref p1,.ref p2,.ref p3,.ref p4]):=by rw[<-hE];exact af
  clear hE;lk;have kp7:KpP qa H H7:=kp.trans (kp1.trans (KpP.of kp1.at' (S2.trans (S3.trans (S4.trans (S5.trans (S6.trans S7)))))));have hr2:y / 11 % 4=0\/y / 11 % 4=1\/y / 11 % 4=2\/y / 11 % 4=3:=by omega
  rcases hr2 with z|z|z|z
  ·rw[z];refine bB (SqL.of q7) (v:=.ref p1) rfl ?_;exact aA ⟨_,_,_,_,_,_,rfl,a1.mono (am.tups (S4.trans (S5.trans (S6.trans S7)))),rok',by simp only[Rl.dep];omega,kp7⟩
  ·rw[z];refine bB (SqL.of q7) (v:=.ref p2) rfl ?_;exact aA ⟨_,_,_,_,_,_,rfl,a2.mono (am.tups (S5.trans (S6.trans S7))),⟨hnm,rok'⟩,by simp only[Rl.dep];omega,kp7⟩
  ·rw[z];refine bB (SqL.of q7) (v:=.ref p3) rfl ?_;exact aA ⟨_,_,_,_,_,_,rfl,a3.mono (am.tups (S6.trans S7)),⟨rok',hnm⟩,by simp only[Rl.dep];omega,kp7⟩
  rw[z];refine bB (SqL.of q7) (v:=.ref p4) rfl ?_;exact aA ⟨_,_,_,_,_,_,rfl,a4.mono (am.tups S7),⟨hnm,rok'⟩,by simp only[Rl.dep];omega,kp7⟩
 obtain⟨v',r',x4,x5,x6,x7,rfl,hv',rok',rd',kp⟩:=pv;refine s_ret (te:=cq 3) (D:={ nx:=λx H'=>Q V.non H',rt:=Q }) (ak rfl ?_);exact k v' r' H' hv' rok' (by omega) kp
end
def nth (ns:List Str) (k:Nat):Str:=ns.getD k Str.empty
theorem zu (hl:ns.length=11) {j:Int} {k:Nat} (e:j=(k:Int)) (hk:k<11):atI (ns.map V.str) j=some (.str (nth ns k)):=by
 subst e;refine bU ?_;unfold nth;rw[Qi,QR,Qd (by omega)];rfl
theorem wJ (nd:ns.Nodup) (hl:ns.length=11) {a b:Nat} (ha:a<11) (hb:b<11) (e:nth ns a=nth ns b):a=b:=by
 unfold nth at e;rw[QR,QR,Qd (by omega),Qd (by omega)]at e;have e1:=List.Nodup.idxOf_getElem nd a (by omega);have e2:=List.Nodup.idxOf_getElem nd b (by omega);simp only[Option.getD_some]at e;rw[e,e2]at e1;exact e1.symm
theorem u6 {ns:List Str} (nd:ns.Nodup) (hl:ns.length=11):∀{L:List Nat},L.Nodup->(∀k∈L,k<11)->(L.map (nth ns)).Nodup
 | [],_,_=>List.nodup_nil
 | a::L,h,hb=>by
  rw[Xb]at h;rw[QH,Xb];refine⟨λz=>?_,u6 nd hl h.2 λk hk=>hb k (Qv _ hk)⟩;obtain⟨b,hb',e⟩:=Ql.mp z;have:=wJ nd hl (hb b (Qv _ hb')) (hb a (by simp)) e;exact h.1 (this▸hb')
theorem jC (nd:ns.Nodup) (hl:ns.length=11) {I G:List Nat} {R:Nat->Rl} (hn:(I++G).Nodup) (hb:∀k∈I++G,k<11) (i4:I.length<=4) (g1:1<=G.length) (g7:G.length<=7)
  (hr:∀g∈G,(R g).ok ((I++G).map (nth ns))/\(R g).dep<=10):NetOk (I.map (nth ns)) (G.map λg=>(nth ns g,R g)):=by
 have ew:ao (I.map (nth ns)) (G.map λg=>(nth ns g,R g))=(I++G).map (nth ns):=by
  unfold ao;rw[Qx,QX];rfl
 refine⟨by rw[ew];exact u6 nd hl hn hb,by rw[Qa];exact i4,by rw[Qa];exact g1,by rw[Qa];exact g7,λg hg=>?_⟩;obtain⟨k,hk,rfl⟩:=Ql.mp hg;rw[ew];exact hr k hk
def wN (ns:List Str) (k:Nat):Rl:=.w (nth ns k)
def R5 (ns:List Str) (k:Nat):Rl:=.orr (.an (wN ns (k-1)) (.no (wN ns (k+1)))) (.an (wN ns k) (.orr (wN ns (k-1)) (.no (wN ns (k+1)))))
def R6 (ns:List Str) (m k:Nat):Rl:=.no (wN ns ((k+1) % m))
def R7 (ns:List Str) (k:Nat):Rl:=if k=2 then .no (.orr (wN ns 0) (wN ns 3)) else if k=3 then .no (.orr (wN ns 1) (wN ns 2)) else .an (wN ns (k-2)) (wN ns (k-1))
def nK:Sp:=λvs H Q _=>∃(way:Int) (m:Nat) (l:Addr) (ns:List Str),vs=[.int way,.int m,.ref l]/\1<=m/\m<=7/\H l=some (.lst (ns.map V.str))/\ns.length=11/\ns.Nodup /\
 ∀a li lg ins gvs gs H',am H H'->NAt H' a li lg ins gvs gs->NetOk ins gs->Q (.ref a) H'
theorem iL {L:List Nat} {k:Nat} (h:k∈L):(wN ns k).ok (L.map (nth ns)):=List.mem_map_of_mem h
theorem EB (nd:ns.Nodup) (hl:ns.length=11) (m1:1<=m) (m7:m<=7):NetOk ([0,m+1].map (nth ns)) (((List.range m).map (·+1)).map λg=>(nth ns g,R5 ns g)):=by
 have h1:∀m,m<=7->1<=m->([0,m+1]++(List.range m).map (·+1)).Nodup/\(∀k∈[0,m+1]++(List.range m).map (·+1),k<11)/\∀g∈(List.range m).map (·+1),g-1∈[0,m+1]++(List.range m).map (·+1)/\g∈[0,m+1]++(List.range m).map (·+1)/\g+1∈[0,m+1]++(List.range m).map (·+1):=by decide
 obtain⟨a,b,c⟩:=h1 m m7 m1;refine jC nd hl a b (by show 2<=4;decide) (by simp;omega) (by simp;omega) λg hg=>?_;obtain⟨c1,c2,c3⟩:=c g hg;exact⟨⟨⟨iL c1,iL c3⟩,⟨iL c2,⟨iL c1,iL c3⟩⟩⟩,by simp[R5,wN,Rl.dep]⟩
theorem EA (nd:ns.Nodup) (hl:ns.length=11) (m1:1<=m) (m7:m<=7):NetOk (([]:List Nat).map (nth ns)) ((List.range m).map λg=>(nth ns g,R6 ns m g)):=by
 refine jC nd hl (by simpa using List.nodup_range) (λk hk=>by simp at hk;omega) (by decide) (by simp;omega) (by simp;omega) λg hg=>?_;refine⟨iL ?_,by simp[R6,wN,Rl.dep]⟩;simp;exact Nat.mod_lt _ (by omega)
theorem Ez (nd:ns.Nodup) (hl:ns.length=11) (j3:j<=3):NetOk ([0,1].map (nth ns)) (([2,3]++(List.range j).map (4+·)).map λg=>(nth ns g,R7 ns g)):=by
 have h1:∀j,j<=3->([0,1]++([2,3]++(List.range j).map (4+·))).Nodup/\(∀k∈[0,1]++([2,3]++(List.range j).map (4+·)),k<11)/\∀g∈[2,3]++(List.range j).map (4+·),g-1∈[0,1]++([2,3]++(List.range j).map (4+·))/\g-2∈[0,1]++([2,3]++(List.range j).map (4+·)):=by decide
 obtain⟨a,b,c⟩:=h1 j j3;refine jC nd hl a b (by decide) (by simp) (by simp;omega) λg hg=>?_;obtain⟨c1,c2⟩:=c g hg;unfold R7
 split
 ·exact⟨⟨iL (by simp),iL (by simp)⟩,by simp[wN,Rl.dep]⟩
 split
 ·exact⟨⟨iL (by simp),iL (by simp)⟩,by simp[wN,Rl.dep]⟩
 exact⟨⟨iL c2,iL c1⟩,by simp[wN,Rl.dep]⟩
theorem wW {n:Str} {r:Rl} (h:H b=some (.tup [.str n,v])) (hr:RAt H v r):GAt H (.ref b) (n,r):=⟨b,v,rfl,h,hr⟩
def Mkx (H0:Hp) (U:St) (te:TE) (R:Hp->V->Prop):Prop:=∀(H:Hp) (Q:VK),am H0 H->(∀v H',am H H'->R H' v->Q v H')->te U H Q
section
variable {K:PySem.W.Frag} {H0:Hp} {U:St} {t t1 t2 t3:TE} {r r1 r2 r3:Rl} {x:Str}
theorem gb {i k:Nat} {l:Addr} {ns:List Str} {ti:TE} {j:Int} (hσ:U[i]?=some (some (.ref l))) (hl:H0 l=some (.lst (ns.map V.str))) (ln:ns.length=11) (hk:k<11) (hi:∀(H:Hp) (Q:VK),Q (.int j) H->ti U H Q) (ej:j=(k:Int)) :
  Mkx H0 U (tOp (pD K) (cq i) ti) λ_ v=>v=.str (nth ns k):=λH Q S q=>bE (ak hσ (hi H _ (bB (SqL.of (S _ _ hl)) (zu ln ej hk) (q _ _ (am.refl _) rfl))))
variable {R1 R R':Hp->V->Prop}
theorem mF {R2:Hp->V->Prop} (k1:∀{H H':Hp} {v},am H H'->R1 H v->R1 H' v) (k2:∀{H H':Hp} {v},am H H'->R2 H v->R2 H' v) (h1:Mkx H0 U t1 R1) (h2:Mkx H0 U t2 R2) :
  Mkx H0 U (nB (bq t1 (bq t2 eO))) λH v=>∃b u w,v=.ref b/\H b=some (.tup [u,w])/\R1 H u/\R2 H w:=λH Q S q=>i_tup (aq (h1 H _ S λu H1 S1 a1=>aq (h2 H1 _ (S.trans S1) λw H2 S2 a2=>aM ⟨by simp[sizeLine],λp hp=>by
 have S3:=ai (o:=.tup [u,w]) hp
 exact q _ _ (S1.trans (S2.trans S3)) ⟨p,u,w,rfl,af,k1 (S2.trans S3) a1,k2 S3 a2⟩⟩)))
theorem u7 {c:V}:Mkx H0 U (tC c) λ_ v=>v=c:=λH Q S q=>i_c (q _ _ (am.refl _) rfl)
theorem pP (h:Mkx H0 U t R) (f:∀{H v},R H v->R' H v):Mkx H0 U t R':=λH Q S q=>h H Q S λv H' S' a=>q v H' S' (f a)
theorem kL (h:Mkx H0 U t λ_ v=>v=.str x):Mkx H0 U (nB (bq (tC (.str "wire")) (bq t eO))) λH v=>RAt H v (.w x) :=
 pP (mF (λ_ e=>e) (λ_ e=>e) u7 h) λ⟨b,u,w,e,hb,e1,e2⟩=>by subst e e1 e2;exact .w hb
theorem re (h:Mkx H0 U t λH v=>RAt H v r):Mkx H0 U (nB (bq (tC (.str "not")) (bq t eO))) λH v=>RAt H v (.no r) :=
 pP (mF (λ_ e=>e) (λS e=>e.mono (am.tups S)) u7 h) λ⟨b,u,w,e,hb,e1,e2⟩=>by subst e e1;exact .no hb e2
theorem ow (h1:Mkx H0 U t1 λ_ v=>v=.str x) (h:Mkx H0 U t λH v=>RAt H v r):Mkx H0 U (nB (bq t1 (bq t eO))) λH v=>GAt H v (x,r) :=
 pP (mF (λ_ e=>e) (λS e=>e.mono (am.tups S)) h1 h) λ⟨b,u,w,e,hb,e1,e2⟩=>by subst e e1;exact wW hb e2
theorem pO {c:Str} (h1:Mkx H0 U t1 λH v=>RAt H v r1) (h2:Mkx H0 U t2 λH v=>RAt H v r2) (f:∀{H:Hp} {b:Addr} {u w:V},H b=some (.tup [.str c,u,w])->RAt H u r1->RAt H w r2->RAt H (.ref b) r) :
  Mkx H0 U (nB (bq (tC (.str c)) (bq t1 (bq t2 eO)))) λH v=>RAt H v r:=λH Q S q=>i_tup (aq (i_c (aq (h1 H _ S λu H1 S1 a1=>aq (h2 H1 _ (S.trans S1) λw H2 S2 a2=>aM ⟨by simp[sizeLine],λp hp=>by
 have S3:=ai (o:=.tup [.str c,u,w]) hp
 exact q _ _ (S1.trans (S2.trans S3)) (f af (a1.mono (am.tups (S2.trans S3))) (a2.mono (am.tups S3)))⟩)))))
theorem wK (h1:Mkx H0 U t1 λH v=>RAt H v r1) (h2:Mkx H0 U t2 λH v=>RAt H v r2) (h3:Mkx H0 U t3 λH v=>RAt H v r3):Mkx H0 U (gJ ph [] E0 (bq t1 (bq t2 (bq t3 eO)))) λH v=>RAt H v (.orr (.an r1 r2) (.an r3 (.orr r1 r2))):=λH Q S q =>
 i_call (aq (h1 H _ S λu H1 S1 a1=>aq (h2 H1 _ (S.trans S1) λw H2 S2 a2=>aq (h3 H2 _ (S.trans (S1.trans S2)) λy H3 S3 a3=>aM ⟨_,_,_,_,_,_,rfl,a1.mono (am.tups (S2.trans S3)),a2.mono (am.tups S3),a3,λv H4 S4 a4=>q _ _ (S1.trans (S2.trans (S3.trans S4))) a4⟩))))
theorem zw {i:Nat} {v:V} (hσ:U[i]?=some (some v)) (h:∀{H},am H0 H->R H v):Mkx H0 U (cq i) R:=λH Q S q=>ak hσ (q _ _ (am.refl _) (h S))
end
theorem mL {x:Str × Rl} (hg:H g=some (.lst gvs)) (hp:Paired (GAt H) gvs gs) (hv:GAt H v x):Paired (GAt (upd H g (.lst (gvs++[v])))) (gvs++[v]) (gs++[x]):=by
 have kt:dh H (upd H g (.lst (gvs++[v]))):=λb xs e=>by rw[aj λz=>by rw[z,hg]at e;cases e];exact e
 exact cM (br kt hp) (hv.mono kt)
section
theorem l_:FnScope ["way", "many", "names", "gates", "k", "after", "one", "other", "more"] ["way", "many", "names"] (az (top 46)):=by fin2
theorem sL {f:Addr} {fd:FuncData} (Fu:Fun K "_law_known" "_law_known" (top 46) f fd) (T:Txt K mg TT) (f_law_held:Fn P w K mg base "_law_held" ["one", "other", "own"] 1 ph):FnOk P w K mg base CX0 2 f fd ["way", "many", "names"] nK:=by
 have S:=l_;refine Fu.ok S (by room) (λcdv A outer s H vs Q E hr h=>?_);obtain⟨way,m,l,ns,rfl,m1,m7,hl,ln,nd,k⟩:=h;refine'⟨?_,?bb,?_⟩
 case bb =>
  walk_at "b";exact(aH bZ (pv 0) ad (aO _));exact aC 3 S.nd (bo ae);walk_at "f";exact(sq (by rfl) T.n_range (aa ad (aa (ap aW (pv 1) ad) ae) aL));exact(b9 4 S.nd);walk_at "p";refine' aC 5 S.nd ?e
  case e =>
   walk_at "q";exact(aB aI (pv 2) (ap aW (pv 4) ad))
  refine' bD (dH QP QS QT bu (pv 3) ?a)
  case a =>
   walk_at "q";exact(aB aI (pv 2) (pv 4));exact(aY f_law_held hr (aa (pe_tup (aa aP (aa (aB aI (pv 2) (ap iq (pv 4) ad)) ae se_sub) aL)) (aa (pv 5) (aa (pe_tup (aa aP (aa (aB aI (pv 2) (pv 4)) ae se_sub) aL)) ae se_tup) ag) se_tup))
  refine' aK ?e
  case e =>
   walk_at "q";exact(aB aI (pv 2) ad);exact(aB aI (pv 2) (ap aW (pv 1) ad));exact(pv 3)
  exact(aH bZ (pv 0) ad (aO _));refine' aK ?e
  case e =>
   walk_at "q";exact(f9 "k" [("names", 2),("many", 1)] (bY (by rfl) T.n_range (aa (pv 1) ae ag)) (λ_ _ _ _=>(pe_tup (aa (aB (jL (K:=K) rfl) (pv 1) (pv 0)) (aa (pe_tup (aa aP (aa (pe_tup (aa aP (aa (aB (jL (K:=K) rfl) (pv 1) (ap aV (ap aW (pv 0) ad) (pv 2))) ae) aL)) ae se_tup) aL)) ae se_tup)))))
  refine' aC 6 S.nd ?e
  case e =>
   walk_at "q";exact(aB aI (pv 2) ad);exact(aB aI (pv 2) ad);exact(aB aI (pv 2) ad)
  refine' aC 7 S.nd ?e
  case e =>
   walk_at "q";exact(aB aI (pv 2) ad);exact(aB aI (pv 2) ad);exact(aB aI (pv 2) ad)
  exact aC 8 S.nd (bo ae);walk_at "f";exact(bY (by rfl) T.n_range (aa (aF (lH rfl) (by rfl) T.n_min PyProof.Rows.boot_min (aa (ap iq (pv 1) ad) (aa ad ae aL))) ae se_call));exact(b9 4 S.nd);walk_at "p";refine' bD (dH QP QS QT bu (pv 8) ?a)
  case a =>
   walk_at "q";exact(aB aI (pv 2) (ap aW ad (pv 4)));exact(aB aI (pv 2) (ap aW ad (pv 4)));exact(aB aI (pv 2) (ap aW ad (pv 4)))
  refine' aK ?e
  case e =>
   walk_at "q";exact(bx fO (pv 2) bK (bJ ad));exact(ap fu (bo (aa (pv 6) (aa (pv 7) ae ag) ag)) (pv 8))
 x_go;have ic:∀{U:St} {c:Int} (H:Hp) (Q:VK),Q (.int c) H->tC (.int c) U H Q:=λ_ _ q=>i_c q;lk;refine dZ (λ_=>?_) (λ_=>?_)
 ·kt_k;refine bI (i_lst (aM ⟨by decide,λg hg=>aA ?_⟩));ctx_has H g H1 S1 q1 aG hg;kt_k;refine s_for (aq (i_c (aq (bE (ak rfl (i_c (i_rI0 (aM ⟨1,(m:Int)+1,rfl,⟨by omega,by omega,by omega,by omega⟩,?_⟩))))))));rw[show ((m:Int)+1-1).toNat=m from by omega];let I16:IvF:=λi U H'=>(∃x4 x5 gvs,U=[some (.int way),some (.int m),some (.ref l),some (.ref g),x4,x5,none,none,none]/\H' g=some (.lst gvs)/\Paired (GAt H') gvs (((List.range i).map (·+1)).map λk=>(nth ns k,R5 ns k)))/\am H H';refine cH (n:=m) I16 ⟨⟨_,_,[],rfl,q1,.nil⟩,S1⟩ (λi U H' hi pv=>?_) (λU H' pv=>?_)
  ·obtain⟨⟨x4,x5,gvs,rfl,hg',hp'⟩,SS⟩:=pv;have hl':=SS _ _ hl;have gl:=aU hp';rw[Qa,Qa,List.length_range]at gl;have iv:∀{U:St} (H:Hp) (Q:VK),U[4]?=some (some (.int (1+(i:Int))))->Q (.int (1+(i:Int))) H->cq 4 U H Q:=λ_ _ e q=>ak e q;refine aA ?_;kt_k;refine bI (re (kL (gb (k:=i+2) rfl hl' ln (by omega) (λH Q q=>bE (ak rfl (i_c (i_rI0 q)))) (by omega))) H' _ (am.refl _) λav H2 S2 a2=>aA ?_);have hl2:=S2 _ _ hl';have hg2:=S2 _ _ hg';refine s_drop (i_bm (ak rfl ⟨i_tyL hg2,aq (ow (gb (k:=i+1) rfl hl2 ln (by omega) (λH Q q=>ak rfl q) (by omega)) (wK (kL (gb (k:=i) rfl hl2 ln (by omega) (λH Q q=>bE (ak rfl (i_c (i_rI0 q)))) (by omega))) (zw rfl λS=>a2.mono (am.tups S)) (kL (gb (k:=i+1) rfl hl2 ln (by omega) (λH Q q=>ak rfl q) (by omega)))) H2 _ (am.refl _) λv H3 S3 ga=>aM (fA (S3 _ _ hg2) (by omega) ?_))⟩));refine⟨⟨_,_,gvs++[v],rfl,af,?_⟩,ba (SS.trans (S2.trans S3)) hg⟩;rw[List.range_succ,Qx,Qx];exact mL (S3 _ _ hg2) (br (am.tups (S2.trans S3)) hp') ga
  obtain⟨⟨x4,x5,gvs,rfl,hg',hp'⟩,SS⟩:=pv;have hl':=SS _ _ hl;refine s_ret (i_tup (aq (i_lst (aq (gb (k:=0) rfl hl' ln (by omega) ic rfl H' _ (am.refl _) λv H2 S2 e2=>aq (gb (k:=m+1) rfl (S2 _ _ hl') ln (by omega) (λH Q q=>bE (ak rfl (i_c (i_rI0 q)))) (by omega) H2 _ (am.refl _) λv3 H3 S3 e3=>aM ⟨by simp[sizeLine],λp1 hp1=>?_⟩))))));subst e2 e3;ctx_has H3 p1 H4 S4 q4 aG hp1;refine aq (ak rfl (aM ⟨by simp[sizeLine],λp2 hp2=>?_⟩));have S5:=ai (o:=.tup [.ref p1,.ref g]) hp2;have S25:=S2.trans (S3.trans (S4.trans S5));exact k p2 p1 g ([0,m+1].map (nth ns)) gvs _ _ (SS.trans S25) ⟨af,S5 _ _ q4,S25 _ _ hg',br (am.tups S25) hp'⟩ (EB nd ln m1 m7)
 lk;refine dZ (λ_=>?_) (λ_=>?_)
 ·refine s_ret (i_tup (aq (i_lst (aM ⟨by decide,λp0 hp0=>aq (cN (s_rng1 (aq (ak rfl (aM ⟨_,rfl,by omega,by omega,λD hD=>?_⟩)))))⟩))));rw[Int.toNat_natCast];generalize hE:upd H p0 _=H1 at *;obtain⟨S1,q1⟩:=aG hp0 hE;clear hE;have hl1:=S1 _ _ hl;let I17:IvC:=λn H2 ys=>am H1 H2/\H2 D=some (.lst ys)/\Paired (GAt H2) ys ((List.range n).map λk=>(nth ns k,R6 ns m k));refine eX (n:=m) I17 ⟨ai hD,af,.nil⟩ (λn H2 ys p=>p.2.1) (λn H2 ys hn p=>?_) (λH2 ys p=>?_)
  ·obtain⟨S2,h2,hp2⟩:=p;have gl:=aU hp2;rw[Qa,List.length_range]at gl;have hmod:(n+1) % m<m:=Nat.mod_lt _ (by omega);refine aA ⟨⟨rfl,rfl,trivial⟩,i_yes (cT ?_)⟩;have hl2:=S2 _ _ hl1;refine ow (gb (k:=n) rfl hl2 ln (by omega) (λH Q q=>ak rfl q) (by omega)) (re (kL (gb (k:=(n+1) % m) rfl hl2 ln (by omega) (λH Q q=>bE (bE (ak rfl (i_c (i_rI0 (ak rfl (i_rI (by show (0:Int)<(m:Int);omega) q))))))) (by rw[show (0:Int)+(n:Int)+1=((n+1:Nat):Int) from by omega];exact(Int.natCast_emod _ _).symm)))) H2 _ (am.refl _) λv H3 S3 ga=>?_;refine cA.mk (S3 _ _ h2) hn (by omega) ⟨ba (S2.trans S3) hD,af,?_⟩;rw[List.range_succ,Qx];exact mL (S3 _ _ h2) (br (am.tups S3) hp2) ga
  obtain⟨S2,h2,hp2⟩:=p;refine aM ⟨by simp[sizeLine],λp3 hp3=>?_⟩;have S3:=ai (o:=.tup [.ref p0,.ref D]) hp3;exact k p3 p0 D (([]:List Nat).map (nth ns)) _ _ _ (S1.trans (S2.trans S3)) ⟨af,(S2.trans S3) _ _ q1,S3 _ _ h2,br (am.tups S3) hp2⟩ (EA nd ln m1 m7)
 have nmK:∀{U:St} {H1:Hp} (k:Nat),U[2]?=some (some (.ref l))->am H H1->k<11->Mkx H1 U (tOp (pD K) (cq 2) (tC (.int (k:Int)))) λ_ v=>v=.str (nth ns k):=λk e S hk=>gb e (S _ _ hl) ln hk ic rfl;kt_k;kt_k;refine bI (ow (nmK 2 rfl (am.refl _) (by decide)) (re (pO (r:=.orr (wN ns 0) (wN ns 3)) (kL (nmK 0 rfl (am.refl _) (by decide))) (kL (nmK 3 rfl (am.refl _) (by decide))) .orr)) H _ (am.refl _) λv1 J1 U1 g1=>aA ?_);kt_k;refine bI (ow (nmK 3 rfl U1 (by decide)) (re (pO (r:=.orr (wN ns 1) (wN ns 2)) (kL (nmK 1 rfl U1 (by decide))) (kL (nmK 2 rfl U1 (by decide))) .orr)) J1 _ (am.refl _) λv2 J2 U2 g2=>aA ?_);kt_k;refine bI (i_lst (aM ⟨by simp[sizeLine],λb10 hb10=>aA ?_⟩));have V2:=U1.trans U2;have mH:H b10=none:=am.free V2 hb10;ctx_has J2 b10 J3 U3 u3 aG hb10;have V3:=V2.trans U3
 obtain⟨j,ej,j3⟩:∃j:Nat,(if (3:Int)<(m:Int)-1 then (3:Int) else (m:Int)-1)=(j:Int)/\j<=3:=by
  by_cases h:(3:Int)<(m:Int)-1
  ·rw[QJ h];exact⟨3,rfl,by omega⟩
  rw[QA h];exact⟨m-1,by omega,by omega⟩
 kt_k;refine s_for (s_rng1 (aq (i_cb (aq (bE (ak rfl (i_c (i_rI0 (aq (i_c (aM ⟨_,_,rfl,aM ⟨j,by rw[<-ej],by omega,by omega,?_⟩⟩)))))))))));rw[Int.toNat_natCast];have kt3:dh J3 J3:=λb xs e=>e;let I18:IvF:=λi U H'=>(∃x4 gvs,U=[some (.int way),some (.int m),some (.ref l),none,x4,none,some v1,some v2,some (.ref b10)]/\H' b10=some (.lst gvs)/\Paired (GAt H') gvs (((List.range i).map (4+·)).map λk=>(nth ns k,R7 ns k)))/\am H H'/\dh J3 H';refine cH (n:=j) I18 ⟨⟨_,[],rfl,u3,.nil⟩,V3,kt3⟩ (λi U H' hi pv=>?_) (λU H' pv=>?_)
 ·obtain⟨⟨x4,gvs,rfl,hg',hp'⟩,SS,kt0⟩:=pv;have hl':=SS _ _ hl;have gl:=aU hp';rw[Qa,Qa,List.length_range]at gl;refine aA ?_;have nmI:∀{U:St} (c:Nat),U[2]?=some (some (.ref l))->U[4]?=some (some (.int (0+(i:Int))))->c+i<11->Mkx H' U (tOp (pD K) (cq 2) (tOp (rI0 λa b=>.int (a+b)) (tC (.int (c:Int))) (cq 4))) λ_ v=>v=.str (nth ns (c+i)):=λc e1 e2 hk=>gb e1 hl' ln hk (λH Q q=>bE (i_c (ak e2 (i_rI0 q)))) (by omega)
  have e7:R7 ns (4+i)=.an (wN ns (2+i)) (wN ns (3+i)):=by
   unfold R7;rw[QA (by omega),QA (by omega),show 4+i-2=2+i from by omega,show 4+i-1=3+i from by omega]
  refine s_drop (i_bm (ak rfl ⟨i_tyL hg',aq (ow (nmI 4 rfl rfl (by omega)) (pO (r:=.an (wN ns (2+i)) (wN ns (3+i))) (kL (nmI 2 rfl rfl (by omega))) (kL (nmI 3 rfl rfl (by omega))) .an) H' _ (am.refl _) λv H3 S3 ga=>aM (fA (S3 _ _ hg') (by omega) ?_))⟩));have hg3:=S3 _ _ hg';refine⟨⟨_,gvs++[v],rfl,af,?_⟩,ba (SS.trans S3) mH,λb xs e=>by rw[aj λz=>by have:=S3 _ _ (kt0 b xs e);rw[z,hg3]at this;cases this];exact S3 _ _ (kt0 b xs e)⟩;rw[List.range_succ,Qx,Qx];refine mL hg3 (br (am.tups S3) hp') ?_;show GAt _ _ (nth ns (4+i),R7 ns (4+i));rw[e7];exact ga
 obtain⟨⟨x4,gvs,rfl,hg',hp'⟩,SS,kt0⟩:=pv;have hl':=SS _ _ hl;have gl:=aU hp';rw[Qa,Qa,List.length_range]at gl
 try dsimp only
 refine s_ret (i_tup (aq (i_sl (ak rfl (i_nopart (i_part (i_c ⟨_,rfl,lx (SqL.of hl') λp1 hp1=>?_⟩)))))))
 have ec:fB (ns.map V.str) none (some 2)=([0,1].map (nth ns)).map V.str:=by
  have l2:2<=(ns.map V.str).length:=by rw[Qa,ln];decide
  unfold fB;rw[show (some (2:Int))=some ((2:Nat):Int) from rfl,HT.ml,HT.jo,Nat.min_eq_left l2,List.drop_zero,Nat.sub_zero];clear l2
  cases ns with
  | nil=>cases ln
  | cons a r =>
  cases r with
  | nil=>cases ln
  | cons b r=>rfl
 rw[ec];ctx_has H' p1 H2 S2 q2 aG hp1;refine aq (bE (i_lst (aq (ak rfl (aq (ak rfl (aM ⟨by simp[sizeLine],λp2 hp2=>?_⟩)))))));ctx_has H2 p2 H3 S3 q3 aG hp2;refine ak rfl (iH q3 ((S2.trans S3) _ _ hg') (by simp;omega) λp3 hp3=>aM ⟨by simp[sizeLine],λp4 hp4=>?_⟩);generalize hE:upd H3 p3 _=H4 at *;obtain⟨S4,q4⟩:=aG hp3 hE;clear hE;have S5:=ai (o:=.tup [.ref p1,.ref p3]) hp4;have S25:=S2.trans (S3.trans (S4.trans S5));have kt5:dh J2 (upd H4 p4 (.tup [.ref p1,.ref p3])):=λb xs e=>am.tups S25 b xs (kt0 b xs (U3 _ _ e));refine k p4 p1 p3 ([0,1].map (nth ns)) _ _ _ (SS.trans S25) ⟨af,(S3.trans (S4.trans S5)) _ _ q2,S5 _ _ q4,?_⟩ (Ez nd ln j3);exact .cons ((g1.mono (am.tups U2)).mono kt5) (.cons (g2.mono kt5) (br (am.tups S25) hp'))
end
theorem vN {xs:List V} {a:Nat} (h:a<=xs.length):fB xs (some (a:Int)) none=xs.drop a:=by
 unfold fB;rw[HT.ml,HT.jo,Nat.min_eq_left h,Qw (by rw[Q4];omega)]
theorem vL {xs:List V} {a:Nat} (h:a<=xs.length):fB xs none (some (a:Int))=xs.take a:=by
 unfold fB;rw[HT.ml,HT.jo,Nat.min_eq_left h];simp
def ub:Sp:=λvs H Q _=>∃(d:Addr) (ds:List Int) (spot:Int),vs=[.ref d,.int spot]/\H d=some (.lst (ds.map V.int))/\DOk ds/\0<=spot/\spot<=100 /\
 ∀a li lg ins gvs gs H',am H H'->NAt H' a li lg ins gvs gs->NetOk ins gs->Q (.ref a) H'
theorem qU (h:∀n,n<vs.length->∃m:Nat,1<=m/\m<=B/\vs[n]?=some (.int (m:Int))) {i:Int} (h0:0<=i) (h1:i<vs.length):∃m:Nat,1<=m/\m<=B/\atI vs i=some (.int (m:Int)):=by
 obtain⟨n,rfl⟩:=Int.eq_ofNat_of_zero_le h0;obtain⟨m,a,b,e⟩:=h n (Int.ofNat_lt.mp h1);exact⟨m,a,b,bU e⟩
theorem xN {ms:List Nat} (h:∀m∈ms,1<=m/\m<=B) (n:Nat) (hn:n<(ms.map λm:Nat=>V.int (m:Int)).length):∃m:Nat,1<=m/\m<=B/\(ms.map λm:Nat=>V.int (m:Int))[n]?=some (.int (m:Int)):=by
 rw[Qa]at hn;obtain⟨a,b⟩:=h _ (Xr hn);exact⟨ms[n],a,b,by rw[Qi,Qd hn];rfl⟩
theorem AE {i:Int} (h0:0<=i) (h1:i<9):∃m:Nat,1<=m/\m<=7/\atI [V.int 1,V.int 2,V.int 2,V.int 3,V.int 3,V.int 4,V.int 5,V.int 6,V.int 7] i=some (.int (m:Int)) :=
 qU (xN (ms:=[1,2,2,3,3,4,5,6,7]) (by decide)) h0 h1
theorem AF {i:Int} (h0:0<=i) (h1:i<5):∃m:Nat,1<=m/\m<=6/\atI [V.int 2,V.int 3,V.int 3,V.int 3,V.int 6] i=some (.int (m:Int)) :=
 qU (xN (ms:=[2,3,3,3,6]) (by decide)) h0 h1
theorem cB (hp:H2 p=none) (e:upd H2 p o=H3):am H2 H3/\H3 p=some o:=by subst e;exact⟨ai hp,af⟩
section
theorem pB:FnScope ["d", "spot", "names", "way", "many", "inputs", "deep", "pos", "some", "gates", "name", "rule"] ["d", "spot"] (az (top 48)):=by fin2
theorem wD {f:Addr} {fd:FuncData} (Fu:Fun K "_law_net" "_law_net" (top 48) f fd) (T:Txt K mg TT) (f_law_names:Fn P w K mg base "_law_names" ["d", "spot"] 1 nI) (f_law_known:Fn P w K mg base "_law_known" ["way", "many", "names"] 2 nK)
  (f_law_rule:Fn P w K mg base "_law_rule" ["d", "pos", "names", "deep"] 11 (iT 10)) (f_law_deeper:Fn P w K mg base "_law_deeper" ["d", "pos", "names", "rule"] 1 jg):FnOk P w K mg base CX0 12 f fd ["d", "spot"] ub:=by
 have S:=pB;refine Fu.ok S (by room) (λcdv A outer s H vs Q E hr h=>?_);obtain⟨d,ds,spot,rfl,hd,dok,sp0,sp1,k⟩:=h;refine'⟨?_,?bb,?_⟩
 case bb =>
  walk_at "b";exact aC 2 S.nd (aY f_law_names hr (aa (pv 0) (aa (pv 1) ae ag) ag));exact aC 3 S.nd (ap aV (aB aI (pv 0) (ap aW (pv 1) ad)) ad);exact aC 4 S.nd (aB aI (bo (aa ad (aa ad (aa ad (aa ad (aa ad (aa ad (aa ad (aa ad (aa ad ae aL) aL) aL) aL) aL) aL) aL) aL) aL)) (ap aV (aB aI (pv 0) (ap aW (pv 1) ad)) ad));exact(aH xR (pv 3) ad (aO _));exact(aK (aY f_law_known hr (aa (pv 3) (aa (pv 4) (aa (pv 2) ae ag) ag) ag)));exact(aH bZ (pv 3) ad (aO _));exact aC 4 S.nd (aF (lH rfl) (by rfl) T.n_min PyProof.Rows.boot_min (aa (pv 4) (aa ad ae aL) ag));exact aC 5 S.nd (ap aV (aB aI (pv 0) (ap aW (pv 1) ad)) ad);exact aC 6 S.nd (aB aI (bo (aa ad (aa ad (aa ad (aa ad (aa ad ae aL) aL) aL) aL) aL)) (pv 3));exact aC 7 S.nd (bo (aa (ap aW (pv 1) ad) ae));exact aC 8 S.nd (bx fO (pv 2) bK (bJ (ap aW (pv 5) (pv 4))));exact aC 9 S.nd (bo ae);walk_at "f";exact(b8 (bx fO (pv 8) (bJ (pv 5)) bK));exact(b9 10 S.nd);walk_at "p";exact aC 11 S.nd (aY f_law_rule hr (aa (pv 0) (aa (pv 7) (aa (pv 8) (aa (pv 6) ae ag) ag) ag) ag));exact(PW.pt (gr (aH bZ (pv 3) ad (aO _)) (eQ (aH bZ (aF aJ (by rfl) T.n_len QG (aa (pv 9) ae ag)) (ap aV (ap cw (aB aI (pv 0) (ap aW (pv 1) ad)) ad) (pv 4)) (aO _)))));exact aC 11 S.nd (aY f_law_rule hr (aa (pv 0) (aa (pv 7) (aa (pv 8) (aa ad ae aL) ag) ag) ag));exact(PW.pt (gN (aH bZ (pv 3) ad (aO _)) (eP (PW.pt (gr (aH bZ (pv 3) ad (aO _)) (eQ (aH bZ (aF aJ (by rfl) T.n_len QG (aa (pv 9) ae ag)) (ap aV (ap cw (aB aI (pv 0) (ap aW (pv 1) ad)) ad) (pv 4)) (aO _))))))));exact aC 11 S.nd (aY f_law_deeper hr (aa (pv 0) (aa (pv 7) (aa (pv 8) (aa (pv 11) ae ag) ag) ag) ag));refine' bD (dH QP QS QT bu (pv 9) ?a)
  case a =>
   walk_at "q";exact(pv 10);exact(pv 11)
  exact(aK (pe_tup (aa (bx fO (pv 2) bK (bJ (pv 5))) (aa (pv 9) ae ag))))
 x_go;lk;refine⟨d,ds,spot,rfl,hd,dok,by omega,by omega,λl ns H1 S1 nl ln nd hl=>?_⟩;have hd1:=S1 _ _ hd;lk;obtain⟨w0,_,_,ew⟩:=fY dok (i:=spot+2) (by omega) (by omega);refine bB (SqL.of hd1) ew ?_;lk;refine⟨by simp[sizeLine],λp0 hp0=>?_⟩;ctx_has H1 p0 H2 S2 q2 cB hp0;have hd2:=S2 _ _ hd1;lk;obtain⟨y0,_,_,ey⟩:=fY dok (i:=spot+3) (by omega) (by omega);refine bB (SqL.of hd2) ey ?_;lk;obtain⟨m,m1,m7,em⟩:=AE (i:=y0 % 9) (by omega) (by omega);refine bB (SqL.of q2) em ?_;have hl2:=S2 _ _ hl;have wb0:0<=w0 % 8:=by omega
 have wb1:w0 % 8<8:=by omega
 generalize w0 % 8=way at *;lk;refine dZ (λ_=>?_) (λhw4=>?_)
 ·lk;exact⟨way,m,l,ns,rfl,m1,m7,hl2,ln,nd,λa li lg ins gvs gs H' S' NA ok=>k a li lg ins gvs gs H' (S1.trans (S2.trans S')) NA ok⟩
 have hw5:way<=4:=by simpa using hw4
 kt_k;let I19:IvJ:=λU H'=>∃m:Nat,1<=m/\m<=7/\U=[some (.ref d),some (.int spot),some (.ref l),some (.int way),some (.int (m:Int)),none,none,none,none,none,none,none]/\H'=H2;with_reducible refine dG I19 (λR hR=>?_) (λσ6 H6 j6=>?_)
 ·lk;refine dZ (λ_=>?_) (λ_=>hR _ _ ⟨m,m1,m7,rfl,rfl⟩);lk;refine⟨_,_,rfl,?_⟩;by_cases h3:(3:Int)<(m:Int)
  ·rw[QJ h3];exact aA (hR _ _ ⟨3,by omega,by omega,rfl,rfl⟩)
  rw[QA h3];exact aA (hR _ _ ⟨m,m1,m7,rfl,rfl⟩)
 clear em m1 m7 m;obtain⟨m,m1,m7,rfl,e6⟩:=j6;have e6':=e6.symm;subst e6';clear e6;lk;obtain⟨z0,zb0,_,ez⟩:=fY dok (i:=spot+4) (by omega) (by omega);refine bB (SqL.of hd2) ez ?_;lk;obtain⟨I,eI,I4⟩:∃I:Nat,z0 % 5=(I:Int)/\I<=4:=⟨(z0 % 5).toNat,by omega,by omega⟩;rw[eI];refine⟨by simp[sizeLine],λp1 hp1=>?_⟩;ctx_has H2 p1 H3 S3 q3 cB hp1;lk;obtain⟨dp,dp1,dp6,edp⟩:=AF (i:=way) (by omega) (by omega);refine bB (SqL.of q3) edp ?_;lk;refine⟨by show 1<=sizeLine;decide,λqa hqa=>?_⟩;ctx_has H3 qa H4 S4 q4 cB hqa;have S24:=S3.trans S4;have hl4:=S24 _ _ hl2;have hd4:=S24 _ _ hd2;lk;have lns:(ns.map V.str).length=11:=by rw[Qa];exact ln
 rw[show (I:Int)+(m:Int)=((I+m:Nat):Int) from by omega];refine lx (SqL.of hl4) λso hso=>?_;rw[vL (by rw[lns];omega),<-List.map_take];ctx_has H4 so H5 S5 q5 cB hso;have lts:(ns.take (I+m)).length=I+m:=by rw[Qs];omega
 have nds:(ns.take (I+m)).Nodup:=nd.sublist (List.take_sublist _ _);generalize eTS:ns.take (I+m)=ts at *;have tne:ts≠[]:=λz=>by rw[z]at lts;simp at lts;omega
 lk;refine⟨by decide,λg hg=>?_⟩;ctx_has H5 g H6 S6 q6 cB hg;lk;have lts':(ts.map V.str).length=I+m:=by rw[Qa];exact lts
 refine lx (SqL.of (S6 _ _ q5)) λq hq=>?_;rw[vN (by rw[lts'];omega),<-List.map_drop];ctx_has H6 q H7 S7 q7 cB hq;have S47:=S5.trans (S6.trans S7);have SS7:am H H7:=S1.trans (S2.trans (S24.trans S47));have gH:H g=none:=am.free (S1.trans (S2.trans (S24.trans S5))) hg;have qaH:H qa=none:=am.free (S1.trans (S2.trans S3)) hqa;have nqg:g≠qa:=λz=>by rw[z]at hg;rw[(S5 _ _ q4)]at hg;cases hg
 refine⟨q,rfl,⟨_,SqL.of q7⟩,?_⟩;let I20:IvF:=λj U H'=>∃x10 x11 gvs gs,U=[some (.ref d),some (.int spot),some (.ref l),some (.int way),some (.int (m:Int)),some (.int (I:Int)),some (.int (dp:Int)),some (.ref qa),some (.ref so),some (.ref g),x10,x11]/\gs.map (·.1)=(ts.drop I).take j/\gs.length=j/\H' g=some (.lst gvs)/\Paired (GAt H') gvs gs/\(∀g∈gs,g.2.ok ts/\g.2.dep<=10)/\H' l=some (.lst (ns.map V.str))/\H' so=some (.lst (ts.map V.str))/\H' q=some (.lst ((ts.drop I).map V.str))/\H' d=some (.lst (ds.map V.int))/\(∃n:Int,H' qa=some (.lst [.int n]))/\am H H'
 refine cY (K:=K) (xs:=(ts.drop I).map V.str) I20
  ⟨none,none,[],[],rfl,rfl,rfl,S7 _ _ q6,.nil,(λg h=>nomatch h),S47 _ _ hl4,(S6.trans S7) _ _ q5,q7,S47 _ _ hd4,⟨_,S47 _ _ q4⟩,SS7⟩ (λj U H' _ pv=>?_) (λj x U H' hx pv=>?_) (λU H' pv=>?_)
 ·obtain⟨_,_,_,_,_,_,_,_,_,_,_,_,h,_⟩:=pv;exact SqL.of h
 ·obtain⟨x10,x11,gvs,gs,rfl,hgs,hj,hg',gts,gok,hl',hso',hq',hd',hqa',SS⟩:=pv;rw[Qi]at hx
  cases hnm:(ts.drop I)[j]? with
  | none=>rw[hnm]at hx;cases hx
  | some nm =>
  rw[hnm]at hx;cases hx;have hjl:j<(ts.drop I).length:=(Qe.mp hnm).1;rw[Q4,lts]at hjl;have lgv:=aU gts;have len1:ts.length<=1000:=by omega
  refine aA ?_;lk;refine⟨d,qa,so,ds,ts,dp,rfl,hd',dok,hqa',hso',tne,len1,dp1,by omega,λv r G1 ra rok rd kp=>?_⟩;refine aA ?_;let I21:IvJ:=λU G2=>∃v r,U=[some (.ref d),some (.int spot),some (.ref l),some (.int way),some (.int (m:Int)),some (.int (I:Int)),some (.int (dp:Int)),some (.ref qa),some (.ref so),some (.ref g),some (.str nm),some v]/\RAt G2 v r/\r.ok ts/\r.dep<=6/\KpP qa H' G2;with_reducible refine dG I21 (λR hR=>?_) (λσ6 H6' j6=>?_)
  ·have out:=hR _ _ ⟨v,r,rfl,ra,rok,by omega,kp⟩;lk;refine dZ (λ_=>?_) (λ_=>?_)
   ·lk;refine⟨_,_,rfl,.inl (SqL.of (kp.old _ _ hg' nqg)),?_⟩;lk;refine bB (SqL.of (kp.ints hqa' dok hd')) ez ?_;lk;refine i_rI (by show (0:Int)<(m:Int);omega) ?_;lk;refine dZ (λ_=>?_) (λ_=>out);lk;refine⟨d,qa,so,ds,ts,6,rfl,kp.ints hqa' dok hd',dok,kp.at',kp.strs hqa' hso',tne,len1,by omega,by omega,λv2 r2 G2 ra2 rok2 rd2 kp2=>?_⟩;exact aA (hR _ _ ⟨v2,r2,rfl,ra2,rok2,rd2,kp.trans kp2⟩)
   first|exact out|exact cU out
  clear ra rok rd kp v r;let I22:IvJ:=λU G2=>∃v r,U=[some (.ref d),some (.int spot),some (.ref l),some (.int way),some (.int (m:Int)),some (.int (I:Int)),some (.int (dp:Int)),some (.ref qa),some (.ref so),some (.ref g),some (.str nm),some v]/\RAt G2 v r/\r.ok ts/\r.dep<=10/\KpP qa H' G2;with_reducible refine dG I22 (λR hR=>?_) (λσ7 H7' j7=>?_)
  ·obtain⟨v,r,rfl,ra,rok,rd,kp⟩:=j6;have out:=hR _ _ ⟨v,r,rfl,ra,rok,by omega,kp⟩
   have deeper:∀D:Ends,(∀U H,R U H->D.nx U H)->se (gJ jg [] E0 (bq (cq 0) (bq (cq 7) (bq (cq 8) (bq (cq 11) eO))))) (dU 11) D [some (.ref d),some (.int spot),some (.ref l),some (.int way),some (.int (m:Int)),some (.int (I:Int)),some (.int (dp:Int)),some (.ref qa),some (.ref so),some (.ref g),some (.str nm),some v] H6':=λD hD=>by
    lk;refine⟨d,qa,so,ds,ts,v,r,rfl,kp.ints hqa' dok hd',dok,kp.at',kp.strs hqa' hso',tne,len1,ra,rok,rd,λv2 r2 G2 ra2 rok2 rd2 kp2=>?_⟩;exact aA (hD _ _ (hR _ _ ⟨v2,r2,rfl,ra2,rok2,rd2,kp.trans kp2⟩))
   lk;refine dZ (λ_=>cT (deeper _ λ_ _ h=>h)) (λ_=>?_);lk;refine dZ (λ_=>?_) (λ_=>?_)
   ·lk;refine⟨_,_,rfl,.inl (SqL.of (kp.old _ _ hg' nqg)),?_⟩;lk;refine bB (SqL.of (kp.ints hqa' dok hd')) ez ?_;lk;refine i_rI (by show (0:Int)<(m:Int);omega) ?_;lk;refine dZ (λ_=>?_) (λ_=>out);exact deeper _ λ_ _ h=>h
   first|exact out|exact cU out
  obtain⟨v,r,rfl,ra,rok,rd,kp⟩:=j7;have hg7:=kp.old _ _ hg' nqg;lk;refine⟨by simp[sizeLine],λt ht=>?_⟩;ctx_has H7' t H8 S8 q8 cB ht;have hg8:=S8 _ _ hg7;lk;refine fA hg8 (by omega) ?_
  have kt:dh H8 (upd H8 g (.lst (gvs++[.ref t]))):=λb xs eb=>by
   have nb:b≠g:=λz=>by rw[z,hg8]at eb;cases eb
   rw[aj nb];exact eb
  have kp8:KpP qa H' H8:=kp.trans (KpP.of kp.at' S8);have ngl:l≠g:=aE hl4 (am.free S5 hg);have ngs:so≠g:=aE q5 hg;have ngq:q≠g:=λz=>by rw[z,q6]at hq;cases hq
  have ngd:d≠g:=aE hd4 (am.free S5 hg);refine⟨_,_,gvs++[.ref t],gs++[(nm,r)],rfl,?_,by simp[hj],af,cM (br kt (br (kp8.tups hqa') gts)) ⟨t,v,rfl,kt _ _ q8,(ra.mono (am.tups S8)).mono kt⟩,λx hx=>?_,by rw[aj ngl];exact kp8.strs hqa' hl',by rw[aj ngs];exact kp8.strs hqa' hso',by rw[aj ngq];exact kp8.strs hqa' hq',by rw[aj ngd];exact kp8.ints hqa' dok hd',?_,?_⟩
  ·rw[Qx,hgs,Q6,hnm];rfl
  ·rcases Qr.mp hx with h|h
   ·exact gok x h
   have:x=(nm,r):=by simpa using h
   rw[this];exact⟨rok,rd⟩
  ·obtain⟨n,hn⟩:=kp8.at';exact⟨n,by rw[aj (Xh nqg)];exact hn⟩
  intro b o e;have nb:b≠g:=λz=>by rw[z,gH]at e;cases e
  have nq:b≠qa:=λz=>by rw[z,qaH]at e;cases e
  rw[aj nb];exact kp8.old _ _ (SS _ _ e) nq
 obtain⟨x10,x11,gvs,gs,rfl,hgs,hj,hg',gts,gok,hl',hso',hq',hd',hqa',SS⟩:=pv;lk;refine lx (SqL.of hl') λp8 hp8=>?_;rw[vL (by rw[lns];omega),<-List.map_take];ctx_has H' p8 H8 S8 q8 cB hp8;lk;refine⟨by simp[sizeLine],λp9 hp9=>?_⟩;ctx_has H8 p9 H9 S9 q9 cB hp9;have S89:=S8.trans S9;rw[Qa,Q4,lts]at hj
 have hw:ao (ns.take I) gs=ts:=by
  unfold ao;rw[hgs,show (ts.drop I).take ((ts.drop I).map V.str).length=ts.drop I from by rw[Qa];exact List.take_length];have:ns.take I=ts.take I:=by rw[<-eTS,List.take_take,Nat.min_eq_left (by omega)]
  rw[this,QY]
 refine k p9 p8 g (ns.take I) gvs gs H9 (SS.trans S89) ⟨q9,S9 _ _ q8,S89 _ _ hg',br (am.tups S89) gts⟩ ⟨by rw[hw];exact nds,by rw[Qs];omega,by omega,by omega,λx hx=>by rw[hw];exact gok x hx⟩
end
def ud:Sp:=λvs H Q _=>∃a li lg ins gvs gs,vs=[.ref a]/\NAt H a li lg ins gvs gs/\∀a' li' lg' H',am H H'->H a'=none->H li'=none->H lg'=none->NAt H' a' li' lg' ins gvs gs->Q (.ref a') H'
def nH:Sp:=λvs H Q _=>∃(x:Int) (a li lg:Addr) (ins:List Str) (gvs:List V) (gs:E5),vs=[.int x,.ref a]/\NAt H a li lg ins gvs gs/\NetOk ins gs/\∀z H',StOk (ao ins gs).length z->am H H'->Q (.str z) H'
theorem Dz (y:Int):∃c,atI ("01" : Str).cps.toList (Builtin.bitAnd y 1)=some c/\(c=48\/c=49):=by
 rw[PyProof.Rows.bitAnd_m1];have:y % 2=0\/y % 2=1:=by omega
 rcases this with e|e
 ·rw[e];exact⟨48,rfl,.inl rfl⟩
 rw[e];exact⟨49,rfl,.inr rfl⟩
theorem p_ (h:∀z∈zs,∃c∈[48,49],z=⟨#[c]⟩):StOk zs.length (Txt.join Str.empty zs):=by
 obtain⟨e1,e2⟩:=s0 h;exact⟨e1,λc hc=>by simpa using e2 c hc⟩
section
theorem iN:FnScope ["x", "net"] ["x", "net"] (az (top 49)):=by fin2
theorem sH {f:Addr} {fd:FuncData} (Fu:Fun K "_law_standing" "_law_standing" (top 49) f fd) (T:Txt K mg TT):FnOk P w K mg base CX0 1 f fd ["x", "net"] nH:=by
 have S:=iN;refine Fu.ok S (by room) (λcdv A outer s H vs Q E hr h=>?_);obtain⟨x,a,li,lg,ins,gvs,gs,rfl,NA,ok,k⟩:=h;obtain⟨ha,hi,hg,gts⟩:=id NA;have lg':=aU gts;have i4:=ok.i4;have g7:=ok.g7;have big:1000<sizeLine:=by decide
 refine'⟨?_,?bb,?_⟩
 case bb =>
  refine' aR ?_;rotate_left 1;walk_at "p";exact(aK (dH PySem.F.plainAttrs_str PySem.F.slot_str_join PySem.F.type_str_join rf aP (aa (f9 "k" [("x", 0)] (bY (by rfl) T.n_range (aa (ap aW (aF aJ (by rfl) T.n_len QG (aa (aB a_ (pv 1) ad) ae)) (aF aJ (by rfl) T.n_len QG (aa (aB a_ (pv 1) ad) ae))) ae)) (λ_ _ _ _=>(aB dL aP (ap y_ (ap y6 (pv 1) (pv 0)) ad)))) ae)))
 x_go;lk;refine⟨rfl,?_⟩;lk;refine cN ?_;lk
 have en:((ins.map V.str).length:Int)+(gvs.length:Int)=(((ao ins gs).length:Nat):Int):=by
  unfold ao;rw[Qg,Qa,Qa,lg'];rfl
 have wl:(ao ins gs).length<1000:=by
  unfold ao;rw[Qg,Qa];omega
 rw[en];refine⟨by omega,by omega,λL hL=>?_⟩;rw[Int.toNat_natCast];let I23:IvC:=λn H2 ys=>am H H2/\H2 L=some (.lst ys)/\∃zs:List Str,ys=zs.map V.str/\zs.length=n/\∀z∈zs,∃c∈[48,49],z=⟨#[c]⟩;refine eX I23 ⟨ai hL,af,[],rfl,rfl,λz h=>nomatch h⟩ (λn H2 ys p=>p.2.1) (λn H2 ys hn p=>?_) (λH2 ys p=>?_)
 ·obtain⟨S2,h2,zs,rfl,hz,hc⟩:=p;refine aA ⟨⟨rfl,trivial⟩,i_yes (cT ?_)⟩;show tOp _ _ _ [some (.int (0+n)),some (.int x)] _ _;lk;refine i_rI (by show (0:Int)<=0+(n:Int);omega) ?_;lk;obtain⟨c,ec,hcc⟩:=Dz (x / 2 ^ (0+(n:Int)).toNat);refine fz (by decide +kernel) ec ?_;refine cA.mk h2 hn (by rw[Qa];omega) ⟨ba S2 hL,af,zs++[⟨#[c]⟩],by simp,by simp[hz],λz hz'=>?_⟩;rcases Qr.mp hz' with h|h
  ·exact hc z h
  rw[QI]at h;exact⟨c,by simpa using hcc,h⟩
 obtain⟨S2,h2,zs,rfl,hz,hc⟩:=p;obtain⟨_,_,e3⟩:=eU zs hc;have e0:("" : Str)=Str.empty:=by decide +kernel
 have e00:("" : Str).length=0:=by decide +kernel
 refine aM ⟨"", L,zs,rfl,rfl,SqL.of h2,by rw[e3,e00];omega,?_⟩;rw[e0];exact k _ H2 (by rw[<-hz];exact p_ hc) S2
theorem nX:FnScope ["net"] ["net"] (az (top 55)):=by fin2
theorem wH {f:Addr} {fd:FuncData} (Fu:Fun K "_law_copy" "_law_copy" (top 55) f fd) (T:Txt K mg TT):FnOk P w K mg base CX0 1 f fd ["net"] ud:=by
 have S:=nX;refine Fu.ok S (by room) (λcdv A outer s H vs Q E hr h=>?_);obtain⟨a,li,lg,ins,gvs,gs,rfl,NA,k⟩:=h;obtain⟨ha,hi,hg,gts⟩:=id NA;refine⟨_,(aR (aK (pe_tup (aa (dB eY (by rfl) T.n_list PyProof.Rows.boot_list (aa (aB a_ (pv 0) ad) ae)) (aa (dB eY (by rfl) T.n_list PyProof.Rows.boot_list (aa (aB a_ (pv 0) ad) ae)) ae se_call) se_call)))),?_⟩;x_go;lk;intro l hl;have S1:=ai (o:=.lst (ins.map V.str)) hl;have ha1:=S1 _ _ ha;have hg1:=S1 _ _ hg;have hl1:upd H l (HO.lst (ins.map V.str)) l=some (.lst (ins.map V.str)):=af;generalize upd H l (HO.lst (ins.map V.str))=H1 at *;lk;intro m hm;have S2:=ai (o:=.lst gvs) hm;have hl2:=S2 _ _ hl1;have hm2:upd H1 m (HO.lst gvs) m=some (.lst gvs):=af;generalize upd H1 m (HO.lst gvs)=H2 at *;lk;refine⟨by simp[sizeLine],λp hp=>?_⟩;have S3:=ai (o:=.tup [.ref l,.ref m]) hp;have S13:=S1.trans (S2.trans S3);exact k p l m _ S13 (am.free (S1.trans S2) hp) hl (am.free S1 hm) ⟨af,S3 _ _ hl2,S3 _ _ hm2,br (am.tups S13) gts⟩
theorem me:FnScope ["rule", "signs", "one", "other"] ["rule", "signs"] (az (top 50)):=by fin2
theorem lp {f:Addr} {fd:FuncData} (Fu:Fun K "_law_holds" "_law_holds" (top 50) f fd) (T:Txt K mg TT) (hm:mg "_law_holds" = some (.ref f)) (hk:PySem.W.keepIn K (.ref f)=true) (hb:dW K fd ["rule", "signs"] []):∀d,FnOk P w K mg base CX0 d f fd ["rule", "signs"] (fM d)
 | 0=>gy λvs H Q E ⟨v,a,kvs,r,ns,g,_,_,h,_⟩=>by have:=rG r;omega
 | d+1=>by
  have S:=me;have f_law_holds:Fn P w K mg base "_law_holds" ["rule", "signs"] d (fM d):=⟨f,fd,lp Fu T hm hk hb d,hm,hk,hb⟩;refine Fu.ok S (λvs H Q E h=>?_) (λcdv A outer s H vs Q E hr h=>?_)
  ·obtain⟨v,a,kvs,r,ns,g,rfl,_⟩:=h;rfl
  obtain⟨v,a,kvs,r,ns,g,rfl,ra,hd,rok,ha,hf,q⟩:=h;have hu:=dS hr;refine'⟨?_,?bb,?_⟩
  case bb =>
   walk_at "b";exact(aH bZ (aB a_ (pv 0) ad) aP (aO _));exact(aK (dq bZ (cu hu (pv 1) (aB a_ (pv 0) ad)) aP (aO _)));exact(aH bZ (aB a_ (pv 0) ad) aP (aO _));exact(aK (uz (aY f_law_holds hr (aa (aB a_ (pv 0) ad) (aa (pv 1) ae ag)))));exact aC 2 S.nd (aY f_law_holds hr (aa (aB a_ (pv 0) ad) (aa (pv 1) ae ag)));exact aC 3 S.nd (aY f_law_holds hr (aa (aB a_ (pv 0) ad) (aa (pv 1) ae ag)));exact(aH bZ (aB a_ (pv 0) ad) aP (aO _));exact(aK (mD (pv 2) (jv (pv 3))));exact(aK (xO (pv 2) (jv (pv 3))))
  x_go
  cases ra with
  | @w b n hb =>
   lk;refine ifT (by decide +kernel) ?_;lk;have hv:bw kvs (Sum.inr n:Key)=some (sg (g n)):=hf n rok;refine⟨a,sg (g n),rfl,by rw[<-hv];exact c8.k (k:=Sum.inr n) ha,?_⟩;lk;refine i_eq (by cases g n <;> rfl) ?_;rw[pj];exact q
  | @no b u r hb hr1 =>
   lk;refine ifF (by decide +kernel) ?_;lk;refine ifT (by decide +kernel) ?_;lk;exact⟨u,a,kvs,r,ns,g,rfl,hr1,by simp only[Rl.dep]at hd;omega,rok,ha,hf,⟨_,rfl,q⟩⟩
  | @an b u x r1 r2 hb hr1 hr2 =>
   lk;refine ifF (by decide +kernel) ?_;lk;refine ifF (by decide +kernel) ?_;lk;simp only[Rl.dep]at hd;refine⟨u,a,kvs,r1,ns,g,rfl,hr1,by omega,rok.1,ha,hf,?_⟩;lk;refine⟨x,a,kvs,r2,ns,g,rfl,hr2,by omega,rok.2,ha,hf,?_⟩;lk;refine ifT (by decide +kernel) ?_;have e:Rl.val g (Rl.an r1 r2)=(r1.val g&&r2.val g):=rfl;rw[e]at q;lk
   cases hv:r1.val g with
   | false=>rw[hv]at q;exact cU q
   | true =>
   rw[hv]at q;refine cT ?_;lk;exact q
  | @orr b u x r1 r2 hb hr1 hr2 =>
  lk;refine ifF (by decide +kernel) ?_;lk;refine ifF (by decide +kernel) ?_;lk;simp only[Rl.dep]at hd;refine⟨u,a,kvs,r1,ns,g,rfl,hr1,by omega,rok.1,ha,hf,?_⟩;lk;refine⟨x,a,kvs,r2,ns,g,rfl,hr2,by omega,rok.2,ha,hf,?_⟩;lk;refine ifF (by decide +kernel) ?_;have e:Rl.val g (Rl.orr r1 r2)=(r1.val g || r2.val g):=rfl;rw[e]at q;lk
  cases hv:r1.val g with
  | true=>rw[hv]at q;exact cT q
  | false =>
  rw[hv]at q;refine cU ?_;lk;exact q
end
theorem qm {K:PySem.W.Frag} (hσ:U[i]?=some (some (.ref a))) (NA:NAt H a li lg ins gvs gs) (ok:NetOk ins gs)
  (q:∀D H',H D=none->am H H'->H' D=some (.lst ((gs.map (·.1)).map V.str))->Q (.ref D) H') :
  jc (oI K (tOp (n_ K) (cq i) (tC (V.int 1)))) (zU K 2 (vt (dU 0) (vt (dU 1) Dq))) gI (cq 0) (bR [Str.ofString "name", Str.ofString "rule"] []) U H Q:=by
 have l:=aU NA.gates;have g7:=ok.g7;have big:1000<sizeLine:=by decide
 refine cN (s_list (bE (ak hσ (i_c (i_ixT NA.ha rfl ⟨lg,rfl,⟨_,SqL.of NA.hg⟩,λD hD=>?_⟩)))));refine eJ (xs:=gvs) (λn H' ys=>am H H'/\H' D=some (.lst ys)/\ys=((gs.map (·.1)).map V.str).take n) ⟨ai hD,af,by simp⟩ (λn H' ys p=>⟨p.2.1,SqL.of (p.1 _ _ NA.hg)⟩) (λn x H' ys e p=>?_) (λH' ys p=>?_)
 ·obtain⟨S,hd,rfl⟩:=p;obtain⟨g,hgi,b,rv,rfl,hb,hrv⟩:=dC NA.gates n x e;have hn:n<gvs.length:=(Qe.mp e).1;refine⟨b,_,rfl,SqT.of (S _ _ hb),rfl,?_⟩;refine⟨_,_,rfl,aA ⟨_,_,rfl,aA ⟨rfl,⟨trivial,i_yes (cT ?_)⟩⟩⟩⟩;refine ak rfl (cA.mk hd hn (by rw[Qs];omega) ⟨ba S hD,af,?_⟩);rw[Q6,Qi,Qi,hgi];rfl
 obtain⟨S,hd,rfl⟩:=p;exact q D H' hD S (by rw[hd,Qw (by simp[l])])
section
theorem mh:FnScope ["net", "standing", "names", "signs", "found", "k", "name", "rule", "at", "sign"] ["net", "standing"] (az (top 51)):=by fin2
theorem pJ {f:Addr} {fd:FuncData} (Fu:Fun K "_law_asked" "_law_asked" (top 51) f fd) (T:Txt K mg TT) (f_law_holds:Fn P w K mg base "_law_holds" ["rule", "signs"] 10 (fM 10)):FnOk P w K mg base CX0 11 f fd ["net", "standing"] fI:=by
 have S:=mh;refine Fu.ok S (by room) (λcdv A outer s H vs Q E hr h=>?_);obtain⟨a,li,lg,ins,gvs,gs,z,rfl,NA,ok,st,k⟩:=h;have hu:=dS hr;refine'⟨?_,?bb,?_⟩
 case bb =>
  walk_at "b";exact aC 2 S.nd (ap fu (aB a_ (pv 0) ad) (qX (tgs:=["name", "rule"]) (cap:=[]) rfl ⟨rfl,rfl,rfl,rfl,rfl,rfl⟩ (b8 (aB a_ (pv 0) ad)) (λ_ _ _ _=>(qW (K:=K) (n:=2) rfl rfl (bM (di (i:=0) (show List.Nodup [("name" : Str),("rule" : Str)] by decide +kernel) rfl (by z_go)) (bM (di (i:=1) (show List.Nodup [("name" : Str),("rule" : Str)] by decide +kernel) rfl (by z_go)) eR)))) (λ_ _ _ _=>gO) (λ_ _ _ _=>(pv 0))));exact aC 3 S.nd (qY rfl (by rfl) T.n_dict (by rfl) T.n_zip (aa (pv 2) (aa (pv 1) ae ag) ag));exact aC 4 S.nd (bo ae);walk_at "f";exact(qV (by rfl) T.n_enumerate (aa (aB a_ (pv 0) ad) ae));exact(im rfl (bM (b9 5 S.nd) (bM (im rfl (bM (b9 6 S.nd) (bM (b9 7 S.nd) eR))) eR)));walk_at "p";exact(aH iF (aY f_law_holds hr (aa (pv 7) (aa (pv 3) ae ag) ag)) (dq bZ (cu hu (pv 3) (pv 6)) aP (aO _)) (aO _));exact aC 8 S.nd (ap aW (aF aJ (by rfl) T.n_len QG (aa (aB a_ (pv 0) ad) ae)) (pv 5));exact aC 9 S.nd (aB dL aP (dB kP (by rfl) T.n_int PyProof.Rows.boot_int (aa (aB dL (pv 1) (pv 8)) ae)));refine' bD (dH QP QS QT bu (pv 4) ?a)
  case a =>
   walk_at "q";exact(pv 6);exact(ap bt (ap bt (bx dE (pv 1) bK (bJ (pv 8))) (pv 9)) (bx dE (pv 1) (bJ (ap aW (pv 8) ad)) bK))
  exact(aK (pv 4))
 x_go;have i4:=ok.i4;have g7:=ok.g7;have lgn:=aU NA.gates;have wl:(ao ins gs).length=ins.length+gs.length:=by unfold ao;rw[Qg,Qa]
 have big:1000<sizeLine:=by decide
 obtain⟨ha,hi,hg,gts⟩:=id NA;lk;refine qm rfl NA ok λD H1 hD S1 h1=>?_;show yT _ _ _ _;refine iH (S1 _ _ hi) h1 (kT ok) λl0 hl0=>?_;rw[kS];ctx_has H1 l0 H2 S2 q2 cB hl0;lk;show bq _ _ _ _ _;lk;refine⟨l0,ao ins gs,z,rfl,SqL.of q2,by rw[st.len];omega,by omega,λd hd0=>?_⟩;ctx_has H2 d H3 S3 q3 cB hd0;have df:DFn (bP [] (cJ (ao ins gs) z)) (ao ins gs) (sgn (ao ins gs) z):=rF ok.nd st;generalize bP [] (cJ (ao ins gs) z)=kvs at *;lk;refine⟨by decide,λl hl=>?_⟩;ctx_has H3 l H4 S4 q4 cB hl;have S03:=S1.trans (S2.trans S3);have S04:=S03.trans S4;have hlH:H l=none:=am.free S03 hl;have NA4:=NA.same S04;have hd4:=S4 _ _ q3;have dl:d≠l:=aE q3 hl;obtain⟨ha4,hi4,hg4,gts4⟩:=id NA4;lk;show bq _ _ _ _ _;lk;refine⟨lg,rfl,⟨_,SqL.of hg4⟩,?_⟩;let I24:IvF:=λi U H'=>(∃x5 x6 x7 x8 x9 vs',U=[some (.ref a),some (.str z),some (.ref l0),some (.ref d),some (.ref l),x5,x6,x7,x8,x9]/\H' l=some (.lst vs')/\vs'.length<=i/\Paired (ng H') vs' (((gs.zipIdx ins.length).take i).filterMap (ce (sgn (ao ins gs) z) z)))/\am H H'/\H' d=some (.dK kvs)
 refine oJ (xs:=gvs) I24
  ⟨⟨_,_,_,_,_,[],rfl,q4,by simp,by simp;exact .nil⟩,S04,hd4⟩ (λi U H' _ pv=>SqL.of (pv.2.1 _ _ NA.hg)) (λi x U H' t hx pv ht=>?_) (λU H' pv=>?_)
 ·obtain⟨⟨x5,x6,x7,x8,x9,vs',rfl,hl',hlen,hp⟩,SS,hd'⟩:=pv;have hig:i<gvs.length:=(Qe.mp hx).1;obtain⟨g,hgi,b,rv,rfl,hb,hrv⟩:=dC NA.gates i x hx;have S5:=ai (o:=.tup [.int (i:Nat),.ref b]) ht;have hb5:=(SS.trans S5) _ _ hb;refine⟨t,_,rfl,SqT.of af,rfl,?_⟩;refine⟨_,_,rfl,aA ⟨_,_,rfl,⟨b,_,rfl,SqT.of hb5,rfl,⟨_,_,rfl,aA ⟨_,_,rfl,aA ⟨rfl,⟨rfl,?_⟩⟩⟩⟩⟩⟩⟩;have hl5:=S5 _ _ hl';have hd5:=S5 _ _ hd';have SS5:=SS.trans S5;have hp5:=cr (am.tups S5) hp;generalize upd H' t (.tup [.int (i:Nat),.ref b])=H5 at *;have hr5:=hrv.mono (am.tups SS5);have gm:g∈gs:=Qj hgi;obtain⟨rok,rdep⟩:=ok.rules g gm;have hpl:ins.length+i<(ao ins gs).length:=by omega
  have hzi:(gs.zipIdx ins.length)[i]?=some (g,ins.length+i):=by rw[List.getElem?_zipIdx,hgi];rfl
  have gw:g.1∈ao ins gs:=by
   unfold ao;exact QL _ (List.mem_map_of_mem gm)
  have hv1:bw kvs (Sum.inr g.1:Key)=some (sg (sgn (ao ins gs) z g.1)):=df g.1 gw
  have sgi:sgn (ao ins gs) z g.1=(z.cps.getD (ins.length+i) 0==49):=by
   have hw:(ao ins gs)[ins.length+i]?=some g.1:=by
    unfold ao;rw[QE (by omega),Qi,show ins.length+i-ins.length=i from by omega,hgi];rfl
   have e2:(ao ins gs)[ins.length+i]=g.1:=(Qe.mp hw).2
   have hi':(ao ins gs).idxOf g.1=ins.length+i:=by
    rw[<-e2];exact List.Nodup.idxOf_getElem ok.nd _ hpl
   unfold sgn;rw[hi']
  rw[sgi]at hv1;lk;refine⟨rv,d,kvs,g.2,_,_,rfl,hr5,rdep,rok,hd5,df,?_⟩;generalize hv:g.2.val (sgn (ao ins gs) z)=bv;lk;refine⟨d,_,rfl,by rw[<-hv1];exact c8.k (k:=Sum.inr g.1) hd5,?_⟩;have zl:z.length=(ao ins gs).length:=st.len;have e:=iU st hpl;unfold fg at e
  have so:ce (sgn (ao ins gs) z) z (g,ins.length+i)=if (bv==(z.cps.getD (ins.length+i) 0==49))=true then none else some (g.1,fe z (ins.length+i)):=by
   unfold ce;rw[hv]
  have fT:c_ z (ins.length+i)=if (z.cps.getD (ins.length+i) 0==49)=true then ("0" : Str) else ("1" : Str):=rfl
  have tk:((gs.zipIdx ins.length).take (i+1)).filterMap (ce (sgn (ao ins gs) z) z)=((gs.zipIdx ins.length).take i).filterMap (ce (sgn (ao ins gs) z) z)++(ce (sgn (ao ins gs) z) z (g,ins.length+i)).toList:=by
   rw[Q6,hzi,List.filterMap_append];cases h:ce (sgn (ao ins gs) z) z (g,ins.length+i) <;> simp[h]
  lk;refine i_eq (by cases (z.cps.getD (ins.length+i) 0==49) <;> rfl) ?_;rw[pj];generalize hbz:(z.cps.getD (ins.length+i) 0==49)=bz at *;lk
  cases hc:(bv==bz) with
  | true =>
   have:bv=bz:=by simpa using hc
   refine ifF (by rw[this];simp) ?_;rw[hc]at so;refine⟨⟨_,_,_,_,_,vs',rfl,hl5,by omega,?_⟩,SS5,hd5⟩;rw[tk,so];simpa using hp5
  | false =>
  have hne:bv≠bz:=by simpa using hc
  refine ifT (by simp[hne]) ?_;rw[hc]at so;have NA5:=NA.same SS5;obtain⟨ha5,hi5,hg5,gts5⟩:=id NA5;lk;have ep:((ins.map V.str).length:Int)+((i:Nat):Int)=((ins.length+i:Nat):Int):=by rw[Qa];omega
  rw[ep];lk;refine fz (by omega) (mY st hpl) ?_;rw[e];have sgt:sg bz=.str (if bz=true then ("1" : Str) else ("0" : Str)):=by cases bz <;> rfl
  rw[sgt];lk;refine⟨_,if bz=true then 1 else 0,rfl,by cases bz <;> decide +kernel,by cases bz <;> decide +kernel,?_⟩;have l1:(c_ z (ins.length+i)).length=1:=by rw[fT];cases bz <;> decide +kernel
  refine fz (c:=if bz=true then 48 else 49) (by decide +kernel) (by cases bz <;> rfl) ?_;have cz:(⟨#[if bz=true then 48 else 49]⟩:Str)=c_ z (ins.length+i):=by rw[fT];cases bz <;> decide +kernel
  rw[cz];have s1:=Txt.slice_le z none (some ((ins.length+i:Nat):Int));have s2:=Txt.slice_le z (some (((ins.length+i:Nat):Int)+1)) none;lk;refine fw (by omega) ?_;lk;refine⟨_,_,rfl,rfl,by omega,?_⟩;lk;refine fw (by omega) ?_;refine⟨_,_,rfl,rfl,by rw[lap];omega,?_⟩;show eO _ _ _;lk;refine⟨by simp[sizeLine],λq hq=>?_⟩;generalize hE:upd H5 q _=H6;have S6:am H5 H6:=by rw[<-hE];exact ai hq
  have q6:H6 q=some (.tup [.str g.1,.str (fe z (ins.length+i))]):=by rw[<-hE];exact af
  clear hE;have hl6:=S6 _ _ hl5;have hd6:=S6 _ _ hd5;lk;refine fA hl6 (by omega) ?_
  have kt:dh H6 (upd H6 l (.lst (vs'++[.ref q]))):=λb xs e=>by
   have:b≠l:=λx=>by rw[x,hl6]at e;cases e
   rw[aj this];exact e
  refine⟨⟨_,_,_,_,_,vs'++[.ref q],rfl,af,by simp;omega,?_⟩,ba (SS5.trans S6) hlH,by rw[aj dl];exact hd6⟩;rw[tk,so];exact cM (cr kt (cr (am.tups S6) hp5)) ⟨q,rfl,kt _ _ q6⟩
 obtain⟨⟨x5,x6,x7,x8,x9,vs',rfl,hl',hlen,hp⟩,SS,hd'⟩:=pv;refine s_ret (te:=cq 4) (D:={ nx:=λx H'=>Q V.non H',rt:=Q }) (ak rfl ?_);refine k l vs' H' SS hlH hl' ?_;have e:(gs.zipIdx ins.length).length=gvs.length:=by rw[List.length_zipIdx,lgn]
 rw[<-e,List.take_length]at hp;exact hp
end
inductive PathE (es:List (Str × (Str × Str))) (s:Str):Str->List Str->Prop
 | nil:PathE es s s []
 | snoc {x h nm:Str} {ns:List Str}:x≠s->g_ es x=some (nm,h)->PathE es s h ns->PathE es s x (ns++[nm])
theorem rB {ls:E4} (h:ls.length=xs.length):bw (fdK (aD xs) ls) (Sum.inr x)=none↔x∉xs:=by
 rw[dy,gY,Qw (by unfold aD;rw[Qa];omega)];unfold aD;refine not_congr ⟨λq=>?_,λq=>Ql.mpr ⟨x,q,rfl⟩⟩;obtain⟨y,hy,e⟩:=Ql.mp q;cases e;exact hy
theorem zW (nd:xs.Nodup) (e1:xs[i]?=some x) (e2:ls[i]?=some b):bw (fdK (aD xs) ls) (Sum.inr x)=some (.ref b):=by
 refine dO (gu nd) (i:=i) ?_;have hz:((aD xs).zip ls)[i]?=some (Sum.inr x,b):=List.getElem?_zip_eq_some.mpr ⟨cG.mpr ⟨x,e1,rfl⟩,e2⟩;unfold fdK;rw[Qi,hz];rfl
section
end
theorem pS (ok:NetOk ins gs) (st:StOk (ao ins gs).length z) (ln:(Bf.bfs (nxK (stN ins gs)) (Sum.inr z) n).length=n):∃xs,Bf.bfs (nxK (stN ins gs)) (Sum.inr z) n=aD xs/\xs.length=n/\Met ins gs z xs/\xs.length<=2048:=by
 have w11:(ao ins gs).length<=11:=by rw[bO];have:=ok.i4;have:=ok.g7;omega
 obtain⟨xs,exs⟩:=oF (ks:=Bf.bfs (nxK (stN ins gs)) (Sum.inr z) n) λk hk=>by
  obtain⟨y,e,_⟩:=fk st (Bf.cI n k hk);exact⟨y,e⟩
 have lxs:xs.length=n:=by rw[<-ln,exs];unfold aD;rw[Qa]
 have met:Met ins gs z xs:=⟨by rw[lxs];exact exs.symm,λx hx=>by
  obtain⟨y,e,sy⟩:=fk st (Bf.cI n (Sum.inr x) (by rw[exs];exact Ql.mpr ⟨x,hx,rfl⟩));cases e
  exact sy⟩
 refine⟨xs,exs,lxs,met,?_⟩
 have:=gU w11 (xs:=aD xs) (by rw[<-exs];exact Bf.b_ n) λx hx=>by
  obtain⟨y,hy,rfl⟩:=Ql.mp hx;exact⟨y,rfl,met.st y hy⟩
 unfold aD at this;rwa [Qa]at this
theorem ww {X:Cx} {K:PySem.W.Frag} (h:X.K=K) (hu:X.A.units+64<cLine):OpR X (compareOp .Eq) (sj K false):=by subst h;exact pF hu
theorem Met.few (m:Met ins gs z xs) (ok:NetOk ins gs):xs.length<=2048:=by
 have w11:(ao ins gs).length<=11:=by rw[bO];have:=ok.i4;have:=ok.g7;omega
 have:=gU w11 (xs:=aD xs) (by unfold aD;exact List.Pairwise.map _ (λa b h zz=>h (Sum.inr.inj zz)) m.nd) λx hx=>by
  obtain⟨y,hy,rfl⟩:=Ql.mp hx;exact⟨y,rfl,m.st y hy⟩
 unfold aD at this;rwa [Qa]at this
theorem vz {K:PySem.W.Frag} (h:Rd H F (.dK (fdK (aD xs) as))) (l:as.length=xs.length):DB K H F xs:=.inr ⟨_,h,by rw[gY,Qw (by unfold aD;rw[Qa];omega)];rfl⟩
theorem eW (h:Rd H F (.dK (fdK (aD xs) as))) (nd:xs.Nodup) (e1:xs[i]?=some x) (e2:as[i]?=some b):c8 H F (.str x) (some (.ref b)) :=
 .inl ⟨_,Sum.inr x,h,rfl,(zW nd e1 e2).symm⟩
def fK:Sp:=λvs H Q _=>∃(F:Addr) (xs:List Str) (as:E4) (cnt:Str->Nat),vs=[.ref F]/\Rd H F (.dK (fdK (aD xs) as))/\as.length=xs.length/\xs.length<=2048/\xs.Nodup /\
 (∀(i:Nat) x b,xs[i]?=some x->as[i]?=some b->∃vs,H b=some (.lst vs)/\vs.length=cnt x)/\∀(p:Addr) (ss:List Str) (H':Hp),am H H'->H p=none->ss.Perm xs->ss.Pairwise leT->H' p=some (.lst ((ss.filter λh=>decide (cnt h=0)).map V.str))->Q (.ref p) H'
section
theorem nS:FnScope ["steps"] ["steps"] (az (top 26)):=by fin2
theorem pI {f:Addr} {fd:FuncData} (Fu:Fun K "rests_in" "rests_in" (top 26) f fd) (T:Txt K mg TT):FnOk P w K mg base CX0 1 f fd ["steps"] fK:=by
 have S:=nS;refine Fu.ok S (by room) (λcdv A outer s H vs Q E hr h=>?_);obtain⟨F,xs,as,cnt,rfl,hF,las,few,nd,sts,k⟩:=h;have hu:=dS hr;refine⟨_,(aR (aK (qX (tgs:=["here"]) (cap:=[("steps", 0)]) rfl ⟨rfl,rfl,rfl,rfl,rfl,rfl⟩ (b8 (aF (jX rfl) (by rfl) T.n_sorted PyProof.Rows.boot_sorted (aa (pv 0) ae ag))) (λ_ _ _ _=>(di (i:=0) (show List.Nodup [("here" : Str),("steps" : Str)] by decide +kernel) rfl (by z_go))) (λ_ _ _ _=>(oh (aH bZ (aF (d5 (K:=K) rfl) (by rfl) T.n_len QG (aa (cu hu (pv 1) (pv 0)) ae)) ad (aO _)))) (λ_ _ _ _=>(pv 0))))),?_⟩;x_go;refine s_ret (cN (s_list (i_cb (aq (ak rfl (aM ⟨F,xs,rfl,vz hF las,by omega,λp ss hp pm so=>?_⟩))))));ctx_has H p H1 S1 q1 aG hp;have lss:=pm.length_eq;refine⟨p,rfl,⟨_,SqL.of q1⟩,λL hL=>?_⟩;refine jR (xs:=ss.map V.str) (λm H' ys=>am H1 H'/\H' L=some (.lst ys)/\ys=((ss.take m).filter λh=>decide (cnt h=0)).map V.str) ⟨ai hL,af,by simp⟩ (λm H' ys p=>⟨p.2.1,SqL.of (p.1 _ _ q1)⟩) (λm v H' ys e p=>?_) (λH' ys p=>?_)
 ·obtain⟨Sm,hd,rfl⟩:=p;rw[Qi]at e
  cases ex:ss[m]? with
  | none=>rw[ex]at e;cases e
  | some x =>
  rw[ex]at e;cases e;have hm:m<ss.length:=(Qe.mp ex).1;obtain⟨i,hi,exi⟩:=Qq.mp (pm.mem_iff.mp (Qj ex));have e1:xs[i]?=some x:=by rw[Qd hi,exi]
  obtain⟨b,e2⟩:∃b,as[i]?=some b:=⟨_,Qd (by omega)⟩;obtain⟨vs,hvs,lvs⟩:=sts i x b e1 e2;have S0m:=S1.trans Sm
  have hF':Rd H' F (.dK (fdK (aD xs) as)):=by
   rcases hF with r|⟨o,r⟩
   ·exact .inl (S0m _ _ r)
   exact .inr ⟨o,S0m _ _ r⟩
  refine aA ⟨by repeat' (first|exact trivial|refine⟨rfl,?_⟩),?_⟩;refine i_test (bE (i_cb (aq (i_dget (ak rfl (ak rfl ⟨F,_,rfl,eW hF' nd e1 e2,aM ⟨b,vs,rfl,.inl (SqL.of (S0m _ _ hvs)),i_c (i_eq rfl ⟨_,rfl,?_⟩)⟩⟩))))));have tk:(ss.take (m+1)).filter (λh=>decide (cnt h=0))=(ss.take m).filter (λh=>decide (cnt h=0))++[x].filter (λh=>decide (cnt h=0)):=by rw[Q6,ex,List.filter_append];rfl
  by_cases c:cnt x=0
  ·refine ifT (by rw[lvs,c];rfl) ?_;refine ak rfl (cA.mk hd (by rw[Qa];exact hm) ?_ ⟨ba Sm hL,af,?_⟩)
   ·rw[Qa];have:=List.length_filter_le (λh=>decide (cnt h=0)) (ss.take m);rw[Qs]at this;omega
   rw[tk,Qx];simp[c]
  refine ifF (by rw[lvs];exact Xa λz=>c (by injection z with z;omega)) ?_;rw[Qa];refine⟨ss.length-(m+1),by omega,rfl,by omega,Sm,hd,?_⟩;rw[tk];simp[c]
 obtain⟨Sm,hd,rfl⟩:=p;rw[Qa,Qw (Qf _)]at hd;exact k L ss H' (S1.trans Sm) (am.free S1 hL) pm so hd
end
def qM (K:PySem.W.Frag) (TL:Addr):Sp:=λvs H Q _=>∃(a:Addr) (ns:List Int),vs=[.ref a]/\SqL K H a (ns.map V.int)/\ns.length<=63/\fF TL d_ H/\∀H',Q (.bl true) H'
theorem t5 {K:PySem.W.Frag} (ns:List Str):∀(j:Nat) x y,(ns.map V.str)[j]?=some x->(ns.map V.str)[j]?=some y->EqD K H n x y true:=tz (lA ns)
theorem jB {K:PySem.W.Frag} (h:NAt H a li lg ins gvs gs) (h':NAt H a' li' lg' ins gvs gs) :
  ∀(j:Nat) x y,[V.ref li',V.ref lg'][j]?=some x->[V.ref li,V.ref lg][j]?=some y->EqD K H 8 x y true:=λj x y e1 e2=>by
 match j with
 | 0=>cases e1;cases e2;exact oM (n:=7) (SqL.of h'.hi) (SqL.of h.hi) rfl (t5 ins)
 | 1 =>
  cases e1;cases e2;refine oM (n:=7) (SqL.of h'.hg) (SqL.of h.hg) rfl (λj x y e1 e2=>?_);rw[e1]at e2;cases e2;obtain⟨b,rfl⟩:=jM h.gates x (Qj e1);exact .same
 | j+2=>simp at e1
theorem Tk.free (k:Tk T H H') (h:H' p=none):H p=none:=by
 cases e:H p with
 | none=>rfl
 | some u =>
 by_cases c:p=T
 ·obtain⟨ps,e2⟩:=yG k.tab;rw[c,e2]at h;cases h
 rw[k.old _ _ e c]at h;cases h
section
end
inductive Run (ins:List Str) (gs:E5):Str->List Str->Str->Prop where
 | nil {z:Str}:Run ins gs z [] z
 | cons {z y w:Str} {n:Str} {os:List Str}:(n,y)∈au ins gs z->StOk (ao ins gs).length y->Run ins gs y os w->Run ins gs z (n::os) w
section
end
theorem nC {n:Str} (st:StOk (ao ins gs).length z) (h:(n,y)∈au ins gs z):StOk (ao ins gs).length y:=by
 unfold au at h;obtain⟨⟨g,p⟩,hm,e⟩:=List.mem_filterMap.mp h;have hp:=List.mem_zipIdx hm;have wl:(ao ins gs).length=ins.length+gs.length:=by unfold ao;rw[Qg,Qa]
 unfold ce at e
 split at e
 ·cases e
 cases e;exact qz st (by omega)
structure Wlk (ins:List Str) (gs:E5) (z:Str) (os as:List Str):Prop where
 len:as.length=os.length+1
 hd:as[0]?=some z
 st:∀x∈as,StOk (ao ins gs).length x
 step:∀(k:Nat) x n y,as[k]?=some x->os[k]?=some n->as[k+1]?=some y->(n,y)∈au ins gs x
section
end
theorem rN {st:Str->List (Str × Str)}:∀{xs:List Str} {x nm h:Str},g_ (evs st xs) x=some (nm,h)->∃b:Nat,xs[b]?=some h/\(nm,x)∈st h/\∀(c:Nat) g,c<b->xs[c]?=some g->∀p∈st g,p.2≠x
 | [],x,nm,h,e=>by cases e
 | x0::xs,x,nm,h,e=>by
  have split:evs st (x0::xs)=((st x0).map λp=>(p.2,(p.1,x0)))++evs st xs:=rfl;unfold g_ at e;rw[split,List.find?_append]at e
  cases q:((st x0).map λp=>(p.2,(p.1,x0))).find? λe=>e.1==x with
  | some r =>
   rw[q]at e;have hm:=List.mem_of_find?_eq_some q;have hx:=List.find?_some q;obtain⟨p',hp,rfl⟩:=Ql.mp hm;cases e;have hx:p'.2=x:=by simpa using hx
   exact⟨0,rfl,by rw[<-hx];exact hp,λc g l=>by omega⟩
  | none =>
  rw[q,Option.none_or]at e;obtain⟨b,h1,h2,h3⟩:=rN (xs:=xs) (x:=x) (nm:=nm) (h:=h) e;refine⟨b+1,by simpa using h1,h2,λc g l e2 p hp z=>?_⟩
  cases c with
  | zero =>
   simp at e2;subst e2;have:=List.find?_eq_none.mp q (p.2,(p.1,x0)) (Ql.mpr ⟨p,hp,rfl⟩);simp[z]at this
  | succ c=>exact h3 c g (by omega) (by simpa using e2) p hp z
section
theorem Run.snoc {x y w n:Str} {os:List Str} (r:Run ins gs x os y) (s:(n,w)∈au ins gs y) (st:StOk (ao ins gs).length w):Run ins gs x (os++[n]) w:=by
 induction r with
 | nil=>exact .cons s st .nil
 | cons a b _ ih=>exact .cons a b (ih s)
theorem Met.run (m:Met ins gs z xs) {y:Str} {ns:List Str} (p:Path (au ins gs) xs z y ns):y∈xs/\Run ins gs z ns y:=by
 induction p with
 | nil=>exact⟨Qj m.zero,.nil⟩
 | snoc ne c p ih =>
 obtain⟨b,hb,hs,_⟩:=rN c;have hm:=m.closed (Qj hb) hs;exact⟨hm,ih.2.snoc hs (m.st _ hm)⟩
end
def cX (ins:List Str) (gs:E5) (z:Str) (n:Nat):Prop:=(∀os y,Run ins gs z os y->os.length<=n)/\∃os y,Run ins gs z os y/\os.length=n
def nxS (ins:List Str) (gs:E5) (h:Str):List Str:=(au ins gs h).map (·.2)
def ahL (es:List (Str × (Str × Str))) (x:Str):List Str:=(es.filter λe=>e.1==x).map (·.2.2)
theorem gB (a b:List (Str × (Str × Str))) (x:Str):ahL (a++b) x=ahL a x++ahL b x:=by unfold ahL;rw[List.filter_append,Qx]
theorem rS (y x:Str):∀ps:List (Str × Str),ahL (ps.map λp=>(p.2,(p.1,y))) x=List.replicate ((ps.map (·.2)).count x) y
 | []=>rfl
 | p::ps=>by
  rw[QH,QH,List.count_cons,show ((p.2,p.1,y)::ps.map λp=>(p.2,p.1,y))=[(p.2,p.1,y)]++ps.map λp=>(p.2,p.1,y) from rfl,gB,rS y x ps];by_cases c:p.2=x
  ·rw[QJ (by simpa using c),List.replicate_succ];unfold ahL;simp[c]
  rw[QA (by simpa using c)];unfold ahL;simp[c]
theorem rT {b:Str} (h:b∈ahL (evs st xs) x):b∈xs/\x∈(st b).map (·.2):=by
 unfold ahL evs at h;obtain⟨e,he,rfl⟩:=Ql.mp h;obtain⟨h1,h2⟩:=List.mem_filter.mp he;obtain⟨y,hy,h3⟩:=List.mem_flatMap.mp h1;obtain⟨p,hp,rfl⟩:=Ql.mp h3;exact⟨hy,Ql.mpr ⟨p,hp,by simpa using h2⟩⟩
theorem iA {st:Str->List (Str × Str)} {x h:Str}:∀{xs:List Str},xs.Nodup->h∈xs->(ahL (evs st xs) x).count h=((st h).map (·.2)).count x
 | [],_,m=>nomatch m
 | y::xs,nd,m=>by
  rw[Xb]at nd;have e:evs st (y::xs)=((st y).map λp=>(p.2,(p.1,y)))++evs st xs:=by unfold evs;rw[List.flatMap_cons]
  rw[e,gB,rS,List.count_append,List.count_replicate];by_cases c:y=h
  ·subst c;rw[QJ (by simp),List.count_eq_zero_of_not_mem (λq=>nd.1 (rT q).1),Nat.add_zero]
  rw[QA (by simpa using c),Nat.zero_add];exact iA nd.2 ((QV.mp m).resolve_left λz=>c z.symm)
def cP (ws l:List Str):Nat:=l.countP λx=>decide (x∈ws)
theorem mP {ws:List Str} {w:Str} (h:w∉ws):∀l,cP (ws++[w]) l=cP ws l+l.count w
 | []=>rfl
 | x::l=>by
  have ih:=mP h l;unfold cP at ih ⊢;rw[List.countP_cons,List.countP_cons,List.count_cons,ih];by_cases c:x=w
  ·subst c;simp[h];omega
  simp[c];omega
theorem Du (ws l:List Str):cP ws l<=l.length:=List.countP_le_length
theorem zZ {ws l:List Str} (h:cP ws l=l.length):∀x∈l,x∈ws:=λx hx=>by simpa using List.countP_eq_length.mp h x hx
section
theorem cX.rest {h:Str} (e:au ins gs h=[]):cX ins gs h 0:=by
 refine⟨λos y r=>?_,[],h,.nil,rfl⟩
 cases r with
 | nil=>exact Qf _
 | cons m _ _=>rw[e]at m;cases m
variable {n a:Nat}
theorem cX.up {h:Str} (st:StOk (ao ins gs).length h) (all:∀p∈au ins gs h,∃m,m<=n/\cX ins gs p.2 m) (one:∃p∈au ins gs h,cX ins gs p.2 n):cX ins gs h (n+1):=by
 refine⟨λos y r=>?_,?_⟩
 ·cases r with
  | nil=>exact QQ _
  | @cons _ y _ nm os m _ r =>
   obtain⟨k,hk,l⟩:=all _ m;have:=l.1 _ _ r;rw[QU];omega
 obtain⟨p,hp,_,os,y,r,e⟩:=one;exact⟨p.1::os,y,.cons hp (nC st hp) r,by rw[QU,e]⟩
structure NumOk (ins:List Str) (gs:E5) (xs:List Str) (ps:List (Str × Nat)):Prop where
 nd:(ps.map (·.1)).Nodup
 sub:∀p∈ps,p.1∈xs
 long:∀p∈ps,cX ins gs p.1 p.2
 out:∀h∈xs,h∉ps.map (·.1)->∃p∈au ins gs h,p.2∉ps.map (·.1)
structure Cnt (ins:List Str) (gs:E5) (xs:List Str) (ps:List (Str × Nat)) (a:Nat) (tk:List Str) (lf:Str->Int):Prop where
 nd:(ps.map (·.1)).Nodup
 sub:∀p∈ps,p.1∈xs
 mono:∀(i j:Nat) p q,i<=j->ps[i]?=some p->ps[j]?=some q->p.2<=q.2
 near:∀(i:Nat) p q,a<=i->ps[i]?=some p->q∈ps->q.2<=p.2+1
 long:∀p∈ps,cX ins gs p.1 p.2
 val:∀h∈xs,lf h=((nxS ins gs h).length:Int)-cP ((ps.take a).map (·.1)) (nxS ins gs h)-tk.count h
 zero:∀h∈xs,lf h=0↔h∈ps.map (·.1)
theorem Cnt.start {rs:List Str} (nd:rs.Nodup) (h:∀x,x∈rs↔x∈xs/\au ins gs x=[]):Cnt ins gs xs (rs.map λx=>(x,0)) 0 [] λx=>((au ins gs x).length:Int):=by
 have e:(rs.map λx=>(x,0)).map (·.1)=rs:=by rw[QX];exact List.map_id _
 have z0:∀p∈rs.map λx=>((x,0):Str × Nat),p.2=0/\p.1∈rs:=λp hp=>by
  obtain⟨x,hx,rfl⟩:=Ql.mp hp;exact⟨rfl,hx⟩
 refine⟨by rw[e];exact nd,λp hp=>((h _).mp (z0 p hp).2).1,λi j p q _ hp hq=>?_,λi p q _ hp hq=>?_,λp hp=>?_,λx hx=>?_,λx hx=>?_⟩
 ·rw[(z0 p (Qj hp)).1];exact QQ _
 ·rw[(z0 q hq).1];exact QQ _
 ·rw[(z0 p hp).1];exact .rest ((h _).mp (z0 p hp).2).2
 ·unfold nxS cP;rw[Qa];simp
 rw[e,h];show ((au ins gs x).length:Int)=0↔_;rw[<-List.length_eq_zero_iff];exact⟨λq=>⟨hx,by omega⟩,λq=>by omega⟩
variable {lf:Str->Int} {ps:List (Str × Nat)}
theorem Cnt.few {tk:List Str} (c:Cnt ins gs xs ps a tk lf):ps.length<=xs.length:=by
 have:=Bf.pigeon (ps.map (·.1)) xs c.nd λx hx=>by
  obtain⟨p,hp,rfl⟩:=Ql.mp hx;exact c.sub p hp
 rwa [Qa]at this
theorem Cnt.go (m:Met ins gs z xs) {tk:List Str} (c:Cnt ins gs xs ps a tk lf) {here:Str × Nat} (e:ps[a]?=some here) {b:Str} {tl:List Str} (full:ahL (evs (au ins gs) xs) here.1=tk++b::tl) :
  b∈xs/\b∉ps.map (·.1)/\(lf b-1=0->Cnt ins gs xs (ps++[(b,here.2+1)]) a (tk++[b]) λx=>if x=b then lf b-1 else lf x)/\(lf b-1≠0->Cnt ins gs xs ps a (tk++[b]) λx=>if x=b then lf b-1 else lf x):=by
 obtain⟨hb,hin⟩:=rT (show b∈ahL (evs (au ins gs) xs) here.1 by rw[full];simp);have hc:=iA (st:=au ins gs) (x:=here.1) m.nd hb;rw[full,List.count_append,List.count_cons]at hc;simp only[beq_self_eq_true,if_true]at hc;have ha:a<ps.length:=(Qe.mp e).1
 have hout:here.1∉(ps.take a).map (·.1):=λq=>by
  obtain⟨i,hi,ei⟩:=Qq.mp q;rw[Qa,Qs]at hi;rw[List.getElem_map,List.getElem_take]at ei;have nd:=c.nd;have:=(List.getElem_inj (i:=i) (j:=a) (h₀:=by rw[Qa];omega) (h₁:=by rw[Qa];exact ha) nd).mp (by rw[List.getElem_map,List.getElem_map,ei,(Qe.mp e).2]);omega
 have hsn:=mP hout (nxS ins gs b);have hle:=Du ((ps.take a).map (·.1)++[here.1]) (nxS ins gs b);have hl:=c.val b hb;have hnx:((au ins gs b).map (·.2))=nxS ins gs b:=rfl;rw[hnx]at hc;have lfb:1<=lf b:=by omega
 have bout:b∉ps.map (·.1):=λq=>by
  have:=(c.zero b hb).mpr q;omega
 have lfs:∀(qs:List (Str × Nat)),(qs.take a).map (·.1)=(ps.take a).map (·.1)->∀h∈xs,(if h=b then lf b-1 else lf h)=((nxS ins gs h).length:Int)-cP ((qs.take a).map (·.1)) (nxS ins gs h)-(tk++[b]).count h:=λqs eq h hh=>by
  rw[eq,List.count_append,List.count_singleton];by_cases cb:h=b
  ·subst cb;rw[QJ rfl,hl];simp;omega
  rw[QA cb,c.val h hh,QA (by simpa using λz=>cb z.symm)];simp
 refine⟨hb,bout,λz0=>?_,λz0=>?_⟩
 ·have et:((ps++[(b,here.2+1)]).take a).map (·.1)=(ps.take a).map (·.1):=by rw[List.take_append_of_le_length (by omega)]
  have hq2:∀q∈ps,q.2<=here.2+1:=λq hq=>c.near a here q (Qf _) e hq
  have ge:∀(i:Nat) p,(ps++[(b,here.2+1)])[i]?=some p->(ps[i]?=some p)\/(i=ps.length/\p=(b,here.2+1)):=λi p hp=>by
   by_cases ci:i<ps.length
   ·rw[QM ci]at hp;exact .inl hp
   rw[QE (by omega)]at hp
   have:i-ps.length=0:=by
    have:=(Qe.mp hp).1;simp at this;omega
   rw[this]at hp;cases hp;exact .inr ⟨by omega,rfl⟩
  have mem:∀q,q∈ps++[(b,here.2+1)]->q∈ps\/q=(b,here.2+1):=λq hq=>(Qr.mp hq).imp id QI.mp
  have lb:cX ins gs b (here.2+1):=by
   refine .up (m.st b hb) (λp hp=>?_) ?_
   ·have all:=zZ (ws:=(ps.take a).map (·.1)++[here.1]) (l:=nxS ins gs b) (by omega) p.2 (Ql.mpr ⟨p,hp,rfl⟩);rcases Qr.mp all with q|q
    ·obtain⟨r,hr,er⟩:=Ql.mp q;obtain⟨i,hi⟩:=List.mem_iff_getElem?.mp hr
     have hia:i<a:=by
      have:=(Qe.mp hi).1;rw[Qs]at this;omega
     rw[List.getElem?_take_of_lt hia]at hi;exact⟨r.2,c.mono i a r here (by omega) hi e,by rw[<-er];exact c.long r (Qj hi)⟩
    rw[QI]at q;exact⟨here.2,Qf _,by rw[q];exact c.long here (Qj e)⟩
   obtain⟨p,hp,ep⟩:=Ql.mp hin;exact⟨p,hp,by rw[ep];exact c.long here (Qj e)⟩
  refine⟨?_,λq hq=>?_,λi j p q hij hp hq=>?_,λi p q hi hp hq=>?_,λq hq=>?_,lfs _ et,λh hh=>?_⟩
  ·rw[Qx]
   exact List.nodup_append.mpr ⟨c.nd,by simp,λx hx y hy z=>by
    have:y=b:=by simpa using hy
    exact bout (by rw[<-this,<-z];exact hx)⟩
  ·rcases mem q hq with q'|rfl
   ·exact c.sub q q'
   exact hb
  ·rcases ge i p hp with hp|⟨hp1,rfl⟩
   ·rcases ge j q hq with hq|⟨hq1,rfl⟩
    ·exact c.mono i j p q hij hp hq
    exact hq2 p (Qj hp)
   rcases ge j q hq with hq|⟨hq1,rfl⟩
   ·have:=(Qe.mp hq).1;omega
   exact Qf _
  ·rcases ge i p hp with hp|⟨hp1,rfl⟩
   ·have hm:=c.mono a i here p hi e hp;rcases mem q hq with q'|rfl
    ·exact c.near i p q hi hp q'
    show here.2+1<=p.2+1;omega
   rcases mem q hq with q'|rfl
   ·have:=hq2 q q';show q.2<=here.2+1+1;omega
   show here.2+1<=here.2+1+1;omega
  ·rcases mem q hq with q'|rfl
   ·exact c.long q q'
   exact lb
  rw[Qx,Qr];by_cases cb:h=b
  ·subst cb;rw[QJ rfl];exact⟨λ_=>.inr (by simp),λ_=>z0⟩
  rw[QA cb,c.zero h hh];exact⟨.inl,λq=>q.resolve_right λy=>cb (by simpa using y)⟩
 refine⟨c.nd,c.sub,c.mono,c.near,c.long,lfs _ rfl,λh hh=>?_⟩;by_cases cb:h=b
 ·subst cb;rw[QJ rfl];exact⟨λq=>absurd q z0,λq=>absurd q bout⟩
 rw[QA cb];exact c.zero h hh
theorem Cnt.turn (m:Met ins gs z xs) {here:Str × Nat} (e:ps[a]?=some here) (c:Cnt ins gs xs ps a (ahL (evs (au ins gs) xs) here.1) lf):Cnt ins gs xs ps (a+1) [] lf:=by
 have ha:a<ps.length:=(Qe.mp e).1;have et:(ps.take (a+1)).map (·.1)=(ps.take a).map (·.1)++[here.1]:=by rw[Q6,e,Qx];rfl
 have hout:here.1∉(ps.take a).map (·.1):=λq=>by
  have nd:=c.nd;rw[<-QY (a+1) ps,Qx]at nd;have nd:=(List.nodup_append.mp nd).1;rw[et]at nd;exact(List.nodup_append.mp nd).2.2 _ q _ (by simp) rfl
 refine⟨c.nd,c.sub,c.mono,λi p q hi hp hq=>c.near i p q (by omega) hp hq,c.long,λh hh=>?_,c.zero⟩;rw[c.val h hh,et,mP hout,iA m.nd hh];show _=_-((cP _ _+(nxS ins gs h).count here.1:Nat):Int)-_;rw[show ((au ins gs h).map (·.2))=nxS ins gs h from rfl];simp;omega
theorem Cnt.fin (c:Cnt ins gs xs ps a [] lf) (e:ps.length<=a):NumOk ins gs xs ps:=by
 refine⟨c.nd,c.sub,c.long,λh hh ho=>?_⟩;have n0:lf h≠0:=λz=>ho ((c.zero h hh).mp z);have hl:=c.val h hh;rw[Qw e]at hl;simp at hl;by_cases ex:∃p∈au ins gs h,p.2∉ps.map (·.1)
 ·exact ex
 refine absurd ?_ n0
 have:cP (ps.map (·.1)) (nxS ins gs h)=(nxS ins gs h).length:=List.countP_eq_length.mpr λx hx=>by
  obtain⟨p,hp,rfl⟩:=Ql.mp hx;exact Xw (Decidable.byContradiction λq=>ex ⟨p,hp,q⟩)
 rw[hl,this];omega
end
theorem yr {t:TE} (r:Rd H a u) (f:Fz u) (q:∀o,t U (upd H a (.frz o u)) λv H'=>H' a=some (.frz o u)/\Q v (back H a H')):xv t U H Q:=⟨a,u,r,f,q⟩
theorem qe {ta:TA} {K:PySem.W.Frag} (q:ta U H λvs H1=>∃l xs ps,vs=[.ref l]/\SqL K H1 l xs/\xs.length<10000/\Paired (tN H1) xs ps/\∀d,H1 d=none->Q (.ref d) (upd H1 d (.dK (bP [] (dR ps))))):qG K ta U H Q:=q
theorem yO {td ty tv:TE} {rd:V->V->Hp->VK->Prop} {D:Ends} (q:td U H λx H1=>ty U H1 λy H2=>∃a v,x=.ref a/\c8 H2 a y (some v)/\tv U H2 λy2 H3=>rd v y2 H3 λz H4=>∃H5,hG H4 a y z H5/\D.nx U H5):xE td ty tv rd D U H:=q
def SD (H:Hp) (F:Addr) (ins:List Str) (gs:E5) (xs:List Str):Prop:=∃as:E4,Rd H F (.dK (fdK (aD xs) as))/\as.length=xs.length/\∀(i:Nat) x b,xs[i]?=some x->as[i]?=some b->bC H b (c9 (au ins gs x))
theorem qS (S:am H H') (r:Rd H a u):Rd H' a u:=by
 rcases r with r|⟨o,r⟩
 ·exact .inl (S _ _ r)
 exact .inr ⟨o,S _ _ r⟩
variable {H H':Hp} {F:Addr} {ins:List Str} {gs:E5} {xs:List Str}
section
theorem SD.same (S:am H H') (h:SD H F ins gs xs):SD H' F ins gs xs:=let ⟨as,r,l,s⟩:=h;⟨as,qS S r,l,λi x b e1 e2=>(s i x b e1 e2).same S⟩
variable {kvs:List (Key × V)}
theorem gM (r:Rd H F (.dK kvs)) {b:Addr} {o:HO} (e:H b=some o) (n1:∀k,o≠.dK k) (n2:∀ob u,o≠.frz ob u):b≠F:=λz=>by
 rcases r with r|⟨ob,r⟩
 ·rw[z,r]at e;exact n1 _ (QN e).symm
 rw[z,r]at e;exact n2 _ _ (QN e).symm
theorem kZ {o:Obj} (r:Rd H F (.dK kvs)) {b:Addr} {sts:List (V × Key)} (h:bC H b sts):bC (upd H F (.frz o (.dK kvs))) b sts:=by
 obtain⟨vs,h1,h2⟩:=h;refine⟨vs,by rw[aj (gM r h1 (λ_ z=>nomatch z) λ_ _ z=>nomatch z)];exact h1,cE (λv s ⟨c,ec,q⟩=>⟨c,ec,?_⟩) h2⟩;rw[aj (gM r q (λ_ z=>nomatch z) λ_ _ z=>nomatch z)];exact q
theorem kg {o:Obj} {u:HO} (r:Rd H F u) (S:am (upd H F (.frz o u)) H'):am H (back H F H'):=λb w e=>by
 by_cases c:b=F
 ·subst c;rw[fX];exact e
 rw[bS c];exact S _ _ (by rw[aj c];exact e)
end
theorem ip {α β:Type} {R:α->β->Prop}:∀{as:List α} {bs:List β},as.length=bs.length->(∀(i:Nat) a b,as[i]?=some a->bs[i]?=some b->R a b)->Paired R as bs
 | [],[],_,_=>.nil
 | [],_::_,h,_=>by simp at h
 | _::_,[],h,_=>by simp at h
 | a::as,b::bs,h,f=>.cons (f 0 a b rfl rfl) (ip (by simpa using h) λi x y e1 e2=>f (i+1) x y (by simpa using e1) (by simpa using e2))
theorem ij:∀(ps acc:List (Key × V)),(ps.map (·.1)).Nodup->(∀p∈ps,bw acc p.1=none)->bP acc ps=acc++ps
 | [],acc,_,_=>by rw[Xm];rfl
 | p::ps,acc,nd,h=>by
  rw[QH,Xb]at nd;show bP (cf acc p.1 p.2) ps=_;rw[d8 _ (h p (by simp)),ij ps _ nd.2 (λq hq=>?_),Xc]
  ·rfl
  have h1:=dy.mp (h q (Qv _ hq));refine dy.mpr λz=>?_;rw[Qx]at z;rcases Qr.mp z with z|z
  ·exact h1 z
  have:q.1=p.1:=by simpa using z
  exact nd.1 (by rw[<-this];exact Ql.mpr ⟨q,hq,rfl⟩)
theorem vA (xs:List Str) (bs:E4):dR ((xs.zip bs).map λp=>(p.1,V.ref p.2))=fdK (aD xs) bs:=by
 unfold dR fdK aD;rw[List.zip_map_left,QX,QX];rfl
theorem zV {bs:E4} (nd:xs.Nodup):bP [] (dR ((xs.zip bs).map λp=>(p.1,V.ref p.2)))=fdK (aD xs) bs:=by
 rw[vA,ij _ _ (gu nd) (λ_ _=>rfl),List.nil_append]
def qQ:Sp:=λvs H Q _=>∃(F:Addr) (ins:List Str) (gs:E5) (xs:List Str),vs=[.ref F]/\SD H F ins gs xs/\xs.Nodup/\xs.length<=2048/\(∀h∈xs,∀p∈au ins gs h,p.2∈xs)/\gs.length<=7 /\
 ∀(A:Addr) (bs:E4) (H':Hp),am H H'->H A=none->H' A=some (.dK (fdK (aD xs) bs))->bs.length=xs.length->(∀(i:Nat) x b,xs[i]?=some x->bs[i]?=some b->H b=none/\H' b=some (.lst ((ahL (evs (au ins gs) xs) x).map V.str)))->Q (.ref A) H'
theorem wX {ins:List Str} (g7:gs.length<=7):∀ys:List Str,(evs (au ins gs) ys).length<=7*ys.length:=λys=>by
 unfold evs
 induction ys with
 | nil=>simp
 | cons y ys ih =>
 rw[List.flatMap_cons,Qg,Qa,QU];have:=gj ins gs y;omega
theorem xg (es:List (Str × (Str × Str))) (x:Str):(ahL es x).length<=es.length:=by unfold ahL;rw[Qa];exact List.length_filter_le _ _
theorem vW (es:List (Str × (Str × Str))) (y n h x:Str):ahL (es++[(y,(n,h))]) x=if x=y then ahL es x++[h] else ahL es x:=by
 rw[gB];by_cases c:x=y
 ·subst c;rw[QJ rfl];congr 1;unfold ahL;simp
 rw[QA c];have:ahL [(y,n,h)] x=[]:=by unfold ahL;simp;exact λz=>c z.symm
 rw[this,Xm]
section
theorem gn:FnScope ["found", "ahead", "here", "step"] ["found"] (az (top 31)):=by fin2
theorem uZ {f:Addr} {fd:FuncData} (Fu:Fun K "standings_ahead" "standings_ahead" (top 31) f fd) (T:Txt K mg TT):FnOk P w K mg base CX0 1 f fd ["found"] qQ:=by
 have S:=gn;refine Fu.ok S (by room) (λcdv A outer s H vs Q E hr h=>?_);obtain⟨F,ins,gs,xs,rfl,sd,nd,few,cl,g7,k⟩:=h;have hu:=dS hr;refine'⟨?_,?bb,?_⟩
 case bb =>
  walk_at "b";exact aC 1 S.nd (io rfl (by rfl) T.n_dict (aa (uC (f9 "here" [] (ju (pv 0)) (λ_ _ _ _=>(pe_tup (aa (pv 0) (aa (bo ae) ae se_lst) ag))))) ae));refine' yU ?_;rotate_left 1;walk_at "f";exact(ju (pv 0));exact(b9 2 S.nd);walk_at "p";walk_at "f";exact(b8 (cu hu (pv 0) (pv 2)));exact(b9 3 S.nd);walk_at "p";exact(bD (dH QP QS QT bu (cu hu (pv 1) (aB a_ (pv 3) ad)) (aa (pv 2) ae ag)));exact(aK (pv 1))
 x_go;obtain⟨as,r,las,sts⟩:=id sd;have lk:(fdK (aD xs) as).length=xs.length:=by unfold fdK aD;simp[las]
 kt_k;refine bI (qe (aq (yr r trivial λo=>?_)));have hF2:upd H F (.frz o (.dK (fdK (aD xs) as))) F=some (.frz o (.dK (fdK (aD xs) as))):=af;have bk:∀{H':Hp},am (upd H F (.frz o (.dK (fdK (aD xs) as)))) H'->am H (back H F H'):=λS=>kg r S
 have fr2:∀{b},upd H F (.frz o (.dK (fdK (aD xs) as))) b=none->H b=none:=λ{b} e=>by
  by_cases c:b=F
  ·rw[c,hF2]at e;cases e
  rw[aj c]at e;exact e
 generalize upd H F (.frz o (.dK (fdK (aD xs) as)))=H2 at *;refine cN (mj (ak rfl ⟨F,o,_,rfl,hF2,λL hL=>?_⟩));let I25:IvC:=λm H' ys=>∃bs ts:E4,bs.length=m/\ts.length=m/\ys=ts.map V.ref/\am H2 H'/\H' L=some (.lst ys)/\bs.Nodup/\(∀b∈bs,H2 b=none/\b≠L/\H' b=some (.lst []))/\∀(i:Nat) t x b,ts[i]?=some t->xs[i]?=some x->bs[i]?=some b->H' t=some (.tup [.str x,.ref b])
 refine lF I25
  ⟨[],[],rfl,rfl,rfl,ai hL,af,by simp,λb hb=>(nomatch hb),λi t x b e=>(nomatch e)⟩ (λm H' ys ⟨bs,ts,p⟩=>⟨p.2.2.2.2.1,p.2.2.2.1 _ _ hF2⟩) (λm k' v H' ys e p=>?_) (λH' ys p=>?_)
 ·obtain⟨bs,ts,lb,lt,rfl,Sm,hd,ndb,hbs,hts⟩:=p;obtain⟨x,b0,e1,e2,rfl,rfl⟩:=qi e;have hm:m<xs.length:=(Qe.mp e1).1;refine aA ⟨by repeat' (first|exact trivial|refine⟨rfl,?_⟩),i_yes (cT ?_)⟩;refine i_tup (aq (ak rfl (aq (i_lst (aM ⟨by simp[sizeLine],λb hb=>aM ⟨by simp[sizeLine],λt ht=>?_⟩⟩)))));have S3:am H' (upd H' b (.lst [])):=ai hb;have S4:am (upd H' b (.lst [])) (upd (upd H' b (.lst [])) t (.tup [kV (Sum.inr x),.ref b])):=ai ht;have b4:upd (upd H' b (.lst [])) t (.tup [kV (Sum.inr x),.ref b]) b=some (.lst []):=S4 _ _ af;have t4:upd (upd H' b (.lst [])) t (.tup [kV (Sum.inr x),.ref b]) t=some (.tup [.str x,.ref b]):=af;have tL:t≠L:=λz=>by rw[z,S3 _ _ hd]at ht;cases ht
  have bL:b≠L:=λz=>by rw[z,hd]at hb;cases hb
  have S34:=S3.trans S4;generalize upd (upd H' b (.lst [])) t (.tup [kV (Sum.inr x),.ref b])=H4 at *;have hL4:=S34 _ _ hd;refine cA.mk hL4 (by rw[lk];exact hm) (by rw[Qa];omega) ⟨bs++[b],ts++[t],by simp[lb],by simp[lt],by simp,ba (Sm.trans S34) hL,af,?_,λc hc=>?_,λi t' x' b' h1 h2 h3=>?_⟩
  ·refine List.nodup_append.mpr ⟨ndb,by simp,λc hc y hy z=>?_⟩;have:y=b:=by simpa using hy
   have:=(hbs c hc).2.2;rw[z,‹y=b›,hb]at this;cases this
  ·rcases Qr.mp hc with hc|hc
   ·obtain⟨q1,q2,q3⟩:=hbs c hc;exact⟨q1,q2,by rw[aj q2];exact S34 _ _ q3⟩
   rw[QI]at hc;subst hc;exact⟨am.free Sm hb,bL,by rw[aj bL];exact b4⟩
  by_cases ci:i<m
  ·rw[QM (by omega)]at h1 h3;have q:=hts i t' x' b' h1 h2 h3;rw[aj (λz=>by rw[z,hd]at q;cases q)];exact S34 _ _ q
  rw[QE (by omega)]at h1 h3
  have ei:i=m:=by
   have:=(Qe.mp h1).1;simp at this;omega
  subst ei;rw[lt,Nat.sub_self]at h1;rw[lb,Nat.sub_self]at h3;rw[e1]at h2;cases h1;cases h2;cases h3;rw[aj tL];exact t4
 rw[lk]at p;obtain⟨bs,ts,lb,lt,rfl,Sm,hd,ndb,hbs,hts⟩:=p;refine⟨Sm _ _ hF2,aM ?_⟩;have LF:L≠F:=λz=>by rw[z,hF2]at hL;cases hL
 have bkx:∀{b u},H' b=some u->b≠F->back H F H' b=some u:=λe n=>by rw[bS n];exact e
 have SB:=bk Sm;have hbF:∀b∈bs,b≠F:=λb hb z=>by have:=(hbs b hb).1;rw[z,hF2]at this;cases this
 have hb0:∀b∈bs,H b=none:=λb hb=>fr2 (hbs b hb).1;have hb3:∀b∈bs,back H F H' b=some (.lst []):=λb hb=>bkx (hbs b hb).2.2 (hbF b hb);refine⟨L,ts.map V.ref,(xs.zip bs).map λp=>(p.1,V.ref p.2),rfl,SqL.of (bkx hd LF),by rw[Qa];omega,?_,λd hd3=>?_⟩
 ·refine ip (by simp[lt,lb]) λi v p e1 e2=>?_;rw[Qi]at e1 e2
  cases q1:ts[i]? with
  | none=>rw[q1]at e1;cases e1
  | some t =>
  rw[q1]at e1;cases e1
  cases q2:(xs.zip bs)[i]? with
  | none=>rw[q2]at e2;cases e2
  | some xb =>
  rw[q2]at e2;cases e2;obtain⟨a1,a2⟩:=List.getElem?_zip_eq_some.mp q2;have q:=hts i t xb.1 xb.2 q1 a1 a2;exact⟨t,rfl,bkx q λz=>by rw[z,Sm _ _ hF2]at q;cases q⟩
 rw[zV nd];refine aA ?_;generalize hE:upd (back H F H') d _=H3;obtain⟨S3,q3⟩:=aG hd3 hE;clear hE;have SH3:=SB.trans S3;have d0:H d=none:=am.free SB hd3;have hb4:∀b∈bs,H3 b=some (.lst []):=λb hb=>S3 _ _ (hb3 b hb);have r3:=qS SH3 r;have sts3:∀(i:Nat) h b,xs[i]?=some h->as[i]?=some b->bC H3 b (c9 (au ins gs h)):=λi h b e1 e2=>(sts i h b e1 e2).same SH3
 have asb:∀(i:Nat) h b,xs[i]?=some h->as[i]?=some b->b∉bs:=λi h b e1 e2 hb=>by
  obtain⟨vs,q,_⟩:=sts i h b e1 e2;rw[hb0 b hb]at q;cases q
 clear hbs hts hd hb3;kt_k;refine Ay (a:=F) (u:=.dK (fdK (aD xs) as)) r3 trivial λob=>?_;have sts4:∀(i:Nat) h b,xs[i]?=some h->as[i]?=some b->bC (upd H3 F (.frz ob (.dK (fdK (aD xs) as)))) b (c9 (au ins gs h)):=λi h b e1 e2=>kZ r3 (sts3 i h b e1 e2);have h4:∀b,b≠F->upd H3 F (.frz ob (.dK (fdK (aD xs) as))) b=H3 b:=λb n=>aj n;have hF4:upd H3 F (.frz ob (.dK (fdK (aD xs) as))) F=some (.frz ob (.dK (fdK (aD xs) as))):=af
 have dF:d≠F:=λz=>by
  obtain⟨u,hu⟩:=iV r;rw[z,hu]at d0;cases d0
 generalize upd H3 F (.frz ob (.dK (fdK (aD xs) as)))=H4 at *;have hd4:H4 d=some (.dK (fdK (aD xs) bs)):=by rw[h4 d dF];exact q3
 have Fb:F∉bs:=λhb=>hbF F hb rfl;have db:d∉bs:=λhb=>by rw[hb4 d hb]at q3;cases q3
 let AH:=λ(H':Hp) (es:List (Str × (Str × Str)))=>∀(i:Nat) x b,xs[i]?=some x->bs[i]?=some b->H' b=some (.lst ((ahL es x).map V.str));refine s_for (mj (ak rfl ⟨F,ob,_,rfl,hF4,?_⟩));let I26:IvF:=λj σ' H'=>∃(x2 x3:Option V),σ'=[some (.ref F),some (.ref d),x2,x3]/\(∀b u,H4 b=some u->b∉bs->H' b=some u)/\AH H' (evs (au ins gs) (xs.take j))
 refine vv I26
  ⟨_,_,rfl,λb u e _=>e,λi x b _ e2=>by rw[h4 b (hbF b (Qj e2))];exact hb4 b (Qj e2)⟩ (λj σ' H' _ pv=>?_) (λj ky vl σ' H' hj pv=>?_) (λσ' H' pv=>?_)
 ·obtain⟨_,_,_,o2,_⟩:=pv;exact o2 F _ hF4 Fb
 ·obtain⟨x2,x3,rfl,o2,ah⟩:=pv;obtain⟨h,b,hx,hb,rfl,rfl⟩:=qi hj;obtain⟨vs,hvs,pvs⟩:=sts4 j h b hx hb;have bb:=asb j h b hx hb;have hxm:=Qj hx;have dg:c8 H' F (kV (Sum.inr h)) (some (.ref b)):=.inl ⟨_,Sum.inr h,.inr ⟨ob,o2 F _ hF4 Fb⟩,rfl,(dO (gu nd) hj).symm⟩;refine aA ?_;refine s_for (s_list (i_dget (ak rfl (ak rfl ⟨F,_,rfl,dg,b,rfl,⟨_,SqL.of (o2 _ _ hvs bb)⟩,?_⟩))));let I27:IvF:=λi σ' H'=>∃(x3:Option V),σ'=[some (.ref F),some (.ref d),some (.str h),x3]/\(∀b u,H4 b=some u->b∉bs->H' b=some u)/\AH H' (evs (au ins gs) (xs.take j)++((au ins gs h).take i).map λp=>(p.2,(p.1,h)))
  refine cY (xs:=vs) I27
   ⟨_,rfl,o2,by simpa using ah⟩ (λi σ' H' _ pv=>?_) (λi v σ' H' hv pv=>?_) (λσ' H' pv=>?_)
  ·obtain⟨_,_,o3,_⟩:=pv;exact SqL.of (o3 _ _ hvs bb)
  ·obtain⟨x3,rfl,o3,ah3⟩:=pv;obtain⟨p,b2,hp,rfl,hb2⟩:=pb pvs hv;have hb2H:H4 b2=some (.tup [.str p.1,.str p.2]):=hb2;have b2b:b2∉bs:=λhb=>by rw[h4 b2 (hbF b2 hb),hb4 b2 hb]at hb2H;cases hb2H
   have hb3:H' b2=some (.tup [.str p.1,.str p.2]):=o3 _ _ hb2 b2b;have hpm:p∈au ins gs h:=Qj hp;obtain⟨i2,hi2,ei2⟩:=Qq.mp (cl h hxm p hpm);have e1:xs[i2]?=some p.2:=by rw[Qd hi2,ei2]
   obtain⟨c,e2⟩:∃c,bs[i2]?=some c:=⟨_,Qd (by omega)⟩;have hc:=ah3 i2 p.2 c e1 e2;have cm:=Qj e2;have dg2:c8 H' d (.str p.2) (some (.ref c)):=eW (.inl (o3 _ _ hd4 db)) nd e1 e2
   have hev:evs (au ins gs) (xs.take j)++((au ins gs h).take (i+1)).map (λp=>(p.2,(p.1,h)))=(evs (au ins gs) (xs.take j)++((au ins gs h).take i).map λp=>(p.2,(p.1,h)))++[(p.2,(p.1,h))]:=by
    rw[Q6,hp,Qx,Xc];rfl
   have lev:(evs (au ins gs) (xs.take j)++((au ins gs h).take i).map λp=>(p.2,(p.1,h))).length<=7*2048+7:=by
    rw[Qg,Qa,Qs];have h1:=wX (ins:=ins) g7 (xs.take j);have h2:=gj ins gs h;rw[Qs]at h1;omega
   refine aA ?_;have la:=xg (evs (au ins gs) (xs.take j)++((au ins gs h).take i).map λp=>(p.2,(p.1,h))) p.2;refine s_drop (i_bm (i_dget (ak rfl (bE (ak rfl (i_c (i_ixT hb3 rfl ⟨d,_,rfl,dg2,i_tyL hc,aq (ak rfl (aM (fA hc (by rw[Qa];omega) ?_)))⟩)))))));refine⟨_,rfl,λb' u e n=>by rw[aj (λz=>n (by rw[z];exact cm))];exact o3 b' u e n,λi3 x3 b3 e3 e4=>?_⟩;rw[hev,vW];by_cases cx:x3=p.2
   ·subst cx;have:i3=i2:=(List.getElem?_inj (Qe.mp e3).1 nd).mp (by rw[e3,e1]);subst this;rw[e2]at e4;cases e4;rw[QJ rfl,af,Qx];rfl
   rw[QA cx,aj (λz=>cx ?_)]
   ·exact ah3 i3 x3 b3 e3 e4
   subst z;have:i3=i2:=(List.getElem?_inj (Qe.mp e4).1 ndb).mp (by rw[e4,e2]);subst this;rw[e3]at e1;cases e1;rfl
  obtain⟨x3,rfl,o3,ah3⟩:=pv;refine⟨_,_,rfl,o3,?_⟩;have lvs:vs.length=(au ins gs h).length:=by have:=aU pvs;unfold c9 at this;rwa [Qa]at this
  rw[lvs,Qw (Qf _)]at ah3
  have e:evs (au ins gs) (xs.take (j+1))=evs (au ins gs) (xs.take j)++(au ins gs h).map λp=>(p.2,(p.1,h)):=by
   unfold evs;rw[Q6,hx,List.flatMap_append];simp
  rw[e];exact ah3
 obtain⟨x2,x3,rfl,o2,ah⟩:=pv;rw[lk,Qw (Qf _)]at ah;refine⟨o2 F _ hF4 Fb,?_⟩;refine s_ret (ak rfl (k d bs _ (λb u e=>?_) d0 ?_ lb λi x b e1 e2=>?_))
 ·by_cases cF:b=F
  ·subst cF;rw[fX];exact SH3 _ _ e
  rw[bS cF];exact o2 b u (by rw[h4 b cF];exact SH3 _ _ e) λhb=>by rw[hb0 b hb]at e;cases e
 ·rw[bS dF];exact o2 _ _ hd4 db
 have hb:=Qj e2;exact⟨hb0 b hb,by rw[bS (hbF b hb)];exact ah i x b e1 e2⟩
end
def eB (ps:List (Str × Nat)):List (Key × V):=iw (ps.map λp=>(p.1,(p.2:Int)))
def dN (xs:List Str) (f:Str->Int):List (Key × V):=xs.map λx=>(Sum.inr x,V.int (f x))
theorem sZ (xs:List Str) (f:Str->Int):(dN xs f).map (·.1)=aD xs:=by unfold dN aD;rw[QX];rfl
theorem gW {xs:List Str} (f:Str->Int) {b:Str}:∀{xs:List Str},b∈xs->bw (dN xs f) (Sum.inr b)=some (.int (f b))
 | [],h=>nomatch h
 | x::xs,h=>by
  by_cases c:x=b
  ·subst c;exact bV rfl
  exact(bX (λz=>c (Sum.inr.inj z))).trans (gW (xs:=xs) f ((QV.mp h).resolve_left λz=>c z.symm))
theorem vh {xs:List Str} (f:Str->Int) {b:Str} (v:Int) (h:b∈xs):cf (dN xs f) (Sum.inr b) (.int v)=dN xs λx=>if x=b then v else f x:=by
 unfold cf;rw[cK,gW (xs:=xs) f h,Option.isSome_some,QJ rfl];unfold dN;rw[QX];refine List.map_congr_left λx _=>?_;by_cases c:x=b
 ·subst c;simp
 simp[c]
theorem iu (ps:List (Str × Nat)):(eB ps).map (·.1)=aD (ps.map (·.1)):=by unfold eB iw aD;rw[QX,QX,QX];rfl
theorem jK (nd:xs.Nodup):(aD xs).Nodup:=by unfold aD;exact List.Pairwise.map _ (λa b h z=>h (Sum.inr.inj z)) nd
variable {ps:List (Str × Nat)}
theorem ve (nd:(ps.map (·.1)).Nodup) {p:Str × Nat} (h:p∈ps):bw (eB ps) (Sum.inr p.1)=some (.int p.2):=by
 obtain⟨i,hi,e⟩:=Qq.mp h;refine dO (i:=i) (by rw[iu];exact jK nd) ?_;unfold eB iw;rw[QX,Qi,Qd hi,e];rfl
theorem eA:bw (eB ps) (Sum.inr x)=none↔x∉ps.map (·.1):=by
 rw[dy,iu];unfold aD;refine not_congr ⟨λh=>?_,λh=>Ql.mpr ⟨x,h,rfl⟩⟩;obtain⟨y,hy,e⟩:=Ql.mp h;cases e;exact hy
theorem vf (h:x∉ps.map (·.1)):cf (eB ps) (Sum.inr x) (.int n)=eB (ps++[(x,n)]):=by
 rw[d8 _ (eA.mpr h)];unfold eB iw;rw[Qx,Qx];rfl
def vX (H:Hp) (ts:E4) (xs:List Str) (f:Str->Int):Prop:=∀(i:Nat) t x,ts[i]?=some t->xs[i]?=some x->H t=some (.tup [.str x,.int (f x)])
theorem og {f:Str->Int} {t L:Addr} (lt:ts.length=m) (h:vX H' ts xs f) (S:am H' H4) (hd:H' L=some (.lst ys)) (ht:H4 t=some (.tup [.str x,.int (f x)])) (e1:xs[m]?=some x) (tL:t≠L):vX (upd H4 L o) (ts++[t]) xs f:=λi t' x' h1 h2=>by
 by_cases ci:i<m
 ·rw[QM (by omega)]at h1;have q:=h i t' x' h1 h2;rw[aj (λz=>by rw[z,hd]at q;cases q)];exact S _ _ q
 rw[QE (by omega)]at h1
 have ei:i=m:=by
  have:=(Qe.mp h1).1;simp at this;omega
 subst ei;rw[lt,Nat.sub_self]at h1;rw[e1]at h2;cases h1;cases h2;rw[aj tL];exact ht
theorem jr {f:Str->Int} (lt:ts.length=xs.length) (h:vX H ts xs f):Paired (tN H) (ts.map V.ref) (xs.map λx=>(x,V.int (f x))):=by
 refine ip (by simp[lt]) λi v p e1 e2=>?_;rw[Qi]at e1 e2
 cases q1:ts[i]? with
 | none=>rw[q1]at e1;cases e1
 | some t =>
 rw[q1]at e1;cases e1
 cases q2:xs[i]? with
 | none=>rw[q2]at e2;cases e2
 | some x =>
 rw[q2]at e2;cases e2;exact⟨t,rfl,h i t x q1 q2⟩
theorem oG (nd:xs.Nodup) (f:Str->Int):bP [] (dR (xs.map λx=>(x,V.int (f x))))=dN xs f:=by
 have e:dR (xs.map λx=>(x,V.int (f x)))=dN xs f:=by unfold dR dN;rw[QX];rfl
 rw[e,ij _ _ (by rw[sZ];exact jK nd) (λ_ _=>rfl),List.nil_append]
def pf:Sp:=λvs H Q _=>∃(F:Addr) (ins:List Str) (gs:E5) (z:Str) (xs:List Str),vs=[.ref F]/\SD H F ins gs xs/\Met ins gs z xs/\NetOk ins gs /\
 ∀(N:Addr) (ps:List (Str × Nat)) (H':Hp),am H H'->H N=none->H' N=some (.dK (eB ps))->NumOk ins gs xs ps->Q (.ref N) H'
section
theorem gq:FnScope ["found", "ahead", "left", "waiting", "numbers", "at", "here", "before"] ["found"] (az (top 32)):=by fin2
theorem wE {f:Addr} {fd:FuncData} (Fu:Fun K "most_switchings" "most_switchings" (top 32) f fd) (T:Txt K mg TT) (f_standings_ahead:Fn P w K mg base "standings_ahead" ["found"] 1 qQ) (f_rests_in:Fn P w K mg base "rests_in" ["steps"] 1 fK):FnOk P w K mg base CX0 2 f fd ["found"] pf:=by
 have S:=gq;refine Fu.ok S (by room) (λcdv A outer s H vs Q E hr h=>?_);obtain⟨F,ins,gs,z,xs,rfl,sd,met,ok,k⟩:=h;have hu:=dS hr;refine'⟨?_,?bb,?_⟩
 case bb =>
  walk_at "b";exact aC 1 S.nd (aY f_standings_ahead hr (aa (pv 0) ae ag));exact aC 2 S.nd (io rfl (by rfl) T.n_dict (aa (uC (f9 "here" [("found", 0)] (ju (pv 0)) (λ_ _ _ _=>(pe_tup (aa (pv 0) (aa (aF (d5 (K:=K) rfl) (by rfl) T.n_len QG (aa (cu hu (pv 1) (pv 0)) ae)) ae se_call) ag))))) ae));exact aC 3 S.nd (aY f_rests_in hr (aa (pv 0) ae ag));exact aC 4 S.nd (io rfl (by rfl) T.n_dict (aa (f9 "rest" [] (b8 (pv 3)) (λ_ _ _ _=>(pe_tup (aa (pv 0) (aa ad ae aL) ag)))) ae));exact aC 5 S.nd ad;refine' fo PassesOwn.never ?_ ?_;rotate_left 2;exact(aH lh (pv 5) (aF aJ (by rfl) T.n_len QG (aa (pv 3) ae ag)) (aO _));walk_at "p";exact aC 6 S.nd (aB aI (pv 3) (pv 5));walk_at "f";exact(b8 (cu hu (pv 1) (pv 6)));exact(b9 7 S.nd);walk_at "p";exact(wn hu (pv 2) (pv 7) ad zR (by intros;rfl));exact(aH bZ (cu hu (pv 2) (pv 7)) ad (aO _));exact(fP hu (pv 4) (pv 7) (ap aW (cu hu (pv 4) (pv 6)) ad) rfl);exact(bD (dH QP QS QT bu (pv 3) (aa (pv 7) ae ag)));exact(um (i:=5) S.nd rfl (by z_go) ad vk);exact(aK (pv 4))
 x_go;have few:=met.few ok;have nd:=met.nd;have cl:∀h∈xs,∀p∈au ins gs h,p.2∈xs:=λh hh p hp=>met.closed hh hp;lk;refine⟨F,ins,gs,xs,rfl,sd,nd,few,cl,ok.g7,λA bs H1 S1 hA0 hA lb hbs=>?_⟩;obtain⟨as,r,las,sts⟩:=sd.same S1;have lk:(fdK (aD xs) as).length=xs.length:=by unfold fdK aD;simp[las]
 refine aA ?_;kt_k;refine bI (qe (aq (yr r trivial λo=>?_)));have hF2:upd H1 F (.frz o (.dK (fdK (aD xs) as))) F=some (.frz o (.dK (fdK (aD xs) as))):=af;have bk:∀{H':Hp},am (upd H1 F (.frz o (.dK (fdK (aD xs) as)))) H'->am H1 (back H1 F H'):=λS=>kg r S;have sts2:∀(i:Nat) x b,xs[i]?=some x->as[i]?=some b->bC (upd H1 F (.frz o (.dK (fdK (aD xs) as)))) b (c9 (au ins gs x)):=λi x b e1 e2=>kZ r (sts i x b e1 e2);generalize upd H1 F (.frz o (.dK (fdK (aD xs) as)))=H2 at *;refine cN (mj (ak rfl ⟨F,o,_,rfl,hF2,λL hL=>?_⟩));let I28:IvC:=λm H' ys=>∃ts:E4,ts.length=m/\ys=ts.map V.ref/\am H2 H'/\H' L=some (.lst ys)/\vX H' ts xs λx=>((au ins gs x).length:Int)
 refine lF I28
  ⟨[],rfl,rfl,ai hL,af,λi t x e=>(nomatch e)⟩ (λm H' ys ⟨ts,p⟩=>⟨p.2.2.2.1,p.2.2.1 _ _ hF2⟩) (λm k' v H' ys e p=>?_) (λH' ys p=>?_)
 ·obtain⟨ts,lt,rfl,Sm,hd,hts⟩:=p;obtain⟨x,b,e1,e2,rfl,rfl⟩:=qi e;obtain⟨vs,hvs,pvs⟩:=(sts2 m x b e1 e2).same Sm;have hm:m<xs.length:=(Qe.mp e1).1;have lv:vs.length=(au ins gs x).length:=by have:=aU pvs;unfold c9 at this;rwa [Qa]at this
  refine aA ⟨by repeat' (first|exact trivial|refine⟨rfl,?_⟩),i_yes (cT ?_)⟩;refine i_tup (aq (ak rfl (aq (i_cb (aq (i_dget (ak rfl (ak rfl ⟨F,_,rfl,eW (.inr ⟨o,Sm _ _ hF2⟩) nd e1 e2,aM ⟨b,vs,rfl,.inl (SqL.of hvs),aM ⟨by simp[sizeLine],λt ht=>?_⟩⟩⟩))))))));have S3:am H' (upd H' t (.tup [kV (Sum.inr x),.int vs.length])):=ai ht;have t3:upd H' t (.tup [kV (Sum.inr x),.int vs.length]) t=some (.tup [.str x,.int ((au ins gs x).length:Int)]):=by rw[af,lv];rfl
  have tL:t≠L:=λz=>by rw[z,hd]at ht;cases ht
  generalize upd H' t (.tup [kV (Sum.inr x),.int vs.length])=H4 at *;exact cA.mk (S3 _ _ hd) (by rw[lk];exact hm) (by rw[Qa];omega) ⟨ts++[t],by simp[lt],by simp,ba (Sm.trans S3) hL,af,og lt hts S3 hd t3 e1 tL⟩
 rw[lk]at p;obtain⟨ts,lt,rfl,Sm,hd,hts⟩:=p;refine⟨Sm _ _ hF2,aM ?_⟩;have LF:L≠F:=λz=>by rw[z,hF2]at hL;cases hL
 have bkx:∀{b u},H' b=some u->b≠F->back H1 F H' b=some u:=λe n=>by rw[bS n];exact e
 have SB:=bk Sm;refine⟨L,ts.map V.ref,_,rfl,SqL.of (bkx hd LF),by rw[Qa];omega,jr lt λi t x e1 e2=>bkx (hts i t x e1 e2) (λz=>by have q:=hts i t x e1 e2;rw[z,Sm _ _ hF2]at q;cases q),λLf hLf=>?_⟩;rw[oG nd];generalize hE:upd (back H1 F H') Lf _=H3;obtain⟨S3,hLf3⟩:=aG hLf hE;clear hE;have S13:=SB.trans S3;have Lf1:H1 Lf=none:=am.free SB hLf;clear hts hd bkx;lk;obtain⟨as3,r3,las3,sts3⟩:=(sd.same S1).same S13;refine⟨F,xs,as3,λh=>(au ins gs h).length,rfl,r3,las3,few,nd,λi x b e1 e2=>?_,λWt ss H4 S4 hWt pm so hW4=>?_⟩
 ·obtain⟨vs,h1,h2⟩:=sts3 i x b e1 e2;exact⟨vs,h1,by have:=aU h2;unfold c9 at this;rwa [Qa]at this⟩
 have rnd:(ss.filter λh=>decide ((au ins gs h).length=0)).Nodup:=(pm.nodup_iff.mpr nd).filter _
 have rmem:∀x,x∈(ss.filter λh=>decide ((au ins gs h).length=0))↔x∈xs/\au ins gs x=[]:=λx=>by
  rw[List.mem_filter,pm.mem_iff,XB,List.length_eq_zero_iff]
 generalize (ss.filter λh=>decide ((au ins gs h).length=0))=rs at *;have c0:=Cnt.start (ins:=ins) (gs:=gs) (xs:=xs) rnd rmem;have lrs:rs.length<=xs.length:=by have:=c0.few;rwa [Qa]at this
 clear so pm;refine aA ?_;kt_k;refine bI (qe (aq (cN (s_list (ak rfl ⟨Wt,rfl,⟨_,SqL.of hW4⟩,λL2 hL2=>?_⟩)))));let I29:IvC:=λm H' ys=>∃ts:E4,ts.length=m/\ys=ts.map V.ref/\am H4 H'/\H' L2=some (.lst ys)/\vX H' ts rs λ_=>0
 refine eJ (xs:=rs.map V.str) I29
  ⟨[],rfl,rfl,ai hL2,af,λi t x e=>(nomatch e)⟩ (λm H' ys ⟨ts,p⟩=>⟨p.2.2.2.1,SqL.of (p.2.2.1 _ _ hW4)⟩) (λm v H' ys e p=>?_) (λH5 ys p=>?_)
 ·obtain⟨ts,lt,rfl,Sm,hd,hts⟩:=p;rw[Qi]at e
  cases ex:rs[m]? with
  | none=>rw[ex]at e;cases e
  | some x =>
  rw[ex]at e;cases e;have hm:m<rs.length:=(Qe.mp ex).1;refine aA ⟨by repeat' (first|exact trivial|refine⟨rfl,?_⟩),i_yes (cT ?_)⟩;refine i_tup (aq (ak rfl (aq (i_c (aM ⟨by simp[sizeLine],λt ht=>?_⟩)))));have S3:am H' (upd H' t (.tup [.str x,.int 0])):=ai ht;have t3:upd H' t (.tup [.str x,.int 0]) t=some (.tup [.str x,.int 0]):=af;have tL:t≠L2:=λz=>by rw[z,hd]at ht;cases ht
  generalize upd H' t (.tup [.str x,.int 0])=H6 at *;exact cA.mk (S3 _ _ hd) (by rw[Qa];exact hm) (by rw[Qa];omega) ⟨ts++[t],by simp[lt],by simp,ba (Sm.trans S3) hL2,af,og (f:=λ_=>0) lt hts S3 hd t3 ex tL⟩
 rw[Qa]at p;obtain⟨ts,lt,rfl,Sm,hd,hts⟩:=p;refine aM ⟨L2,ts.map V.ref,_,rfl,SqL.of hd,by rw[Qa];omega,jr (f:=λ_=>0) lt hts,λN hN=>?_⟩;rw[oG rnd];ctx_has H5 N H6 S6 hN6 aG hN;have eN:dN rs (λ_=>0)=eB (rs.map λx=>(x,0)):=by unfold dN eB iw;rw[QX,QX];rfl
 rw[eN]at hN6;have S16:am H1 H6:=S13.trans (S4.trans (Sm.trans S6));have hLf6:H6 Lf=some (.dK (dN xs λx=>((au ins gs x).length:Int))):=(S4.trans (Sm.trans S6)) _ _ hLf3
 have hW6:H6 Wt=some (.lst (((rs.map λx=>((x,0):Str × Nat)).map (·.1)).map V.str)):=by
  rw[show (rs.map λx=>((x,0):Str × Nat)).map (·.1)=rs by rw[QX];exact List.map_id _];exact(Sm.trans S6) _ _ hW4
 have Wt1:H1 Wt=none:=am.free S13 hWt;have N1:H1 N=none:=am.free (S13.trans (S4.trans Sm)) hN;have LW:Lf≠Wt:=λz=>by rw[z]at hLf3;rw[hWt]at hLf3;cases hLf3
 have LN:Lf≠N:=λz=>by rw[<-z,(S4.trans Sm) _ _ hLf3]at hN;cases hN
 have WN:Wt≠N:=λz=>by rw[<-z,Sm _ _ hW4]at hN;cases hN
 clear hts hd hW4 hLf3;lk;let I30:IvF:=λm U H'=>∃(a:Nat) (ps:List (Str × Nat)) (lf:Str->Int) (x6 x7:Option V),U=[some (.ref F),some (.ref A),some (.ref Lf),some (.ref Wt),some (.ref N),some (.int (a:Int)),x6,x7]/\m=xs.length+1-a/\a<=ps.length/\kR Lf Wt N H6 H'/\H' Lf=some (.dK (dN xs lf))/\H' Wt=some (.lst ((ps.map (·.1)).map V.str))/\H' N=some (.dK (eB ps))/\Cnt ins gs xs ps a [] lf
 refine⟨I30,
  ⟨_,0,_,_,_,_,rfl,rfl,QQ _,λb o e _ _ _=>e,hLf6,hW6,hN6,c0⟩,?_⟩
 rintro m U H' ⟨a,ps,lf,x6,x7,rfl,rfl,ha,off,hLf',hW',hN',c⟩;lk;rw[Qa,Qa];by_cases cn:a<ps.length
 case neg =>
  refine ifF (Xa (by omega)) ?_;refine s_ret (ak rfl (k N ps H' (λb u e=>off b u (S16 _ _ (S1 _ _ e)) (λz=>?_) (λz=>?_) λz=>?_) (am.free S1 N1) hN' (c.fin (by omega))))
  ·rw[z,am.free S1 Lf1]at e;cases e
  ·rw[z,am.free S1 Wt1]at e;cases e
  rw[z,am.free S1 N1]at e;cases e
 refine ifT (Xw (by omega)) ?_;have fewp:=c.few;let I31:IvJ:=λσ' H''=>∃(ps:List (Str × Nat)) (lf:Str->Int) (x6 x7:Option V),σ'=[some (.ref F),some (.ref A),some (.ref Lf),some (.ref Wt),some (.ref N),some (.int ((a+1:Nat):Int)),x6,x7]/\a+1<=ps.length/\kR Lf Wt N H6 H''/\H'' Lf=some (.dK (dN xs lf))/\H'' Wt=some (.lst ((ps.map (·.1)).map V.str))/\H'' N=some (.dK (eB ps))/\Cnt ins gs xs ps (a+1) [] lf;refine⟨I31,λσ' H'' h=>?_,?_⟩
 ·obtain⟨ps,lf,x6,x7,e1,e2,e3⟩:=h;exact⟨xs.length+1-(a+1),by omega,a+1,ps,lf,x6,x7,e1,rfl,e2,e3⟩
 obtain⟨here,eh⟩:∃here,ps[a]?=some here:=⟨_,Qd cn⟩;have hhere:=c.sub here (Qj eh);obtain⟨ix,hix,eix⟩:=Qq.mp hhere;have ex:xs[ix]?=some here.1:=by rw[Qd hix,eix]
 obtain⟨b,eb⟩:∃b,bs[ix]?=some b:=⟨_,Qd (by omega)⟩;obtain⟨_,hb1⟩:=hbs ix here.1 b ex eb;have bL:b≠Lf:=λz=>by rw[z,Lf1]at hb1;cases hb1
 have bW:b≠Wt:=λz=>by rw[z,Wt1]at hb1;cases hb1
 have bN:b≠N:=λz=>by rw[z,N1]at hb1;cases hb1
 have AL:A≠Lf:=λz=>by rw[z,Lf1]at hA;cases hA
 have AW:A≠Wt:=λz=>by rw[z,Wt1]at hA;cases hA
 have AN:A≠N:=λz=>by rw[z,N1]at hA;cases hA
 have hb6:∀{H'':Hp},kR Lf Wt N H6 H''->H'' b=some (.lst ((ahL (evs (au ins gs) xs) here.1).map V.str)):=λo=>o b _ (S16 _ _ hb1) bL bW bN;have hA6:∀{H'':Hp},kR Lf Wt N H6 H''->H'' A=some (.dK (fdK (aD xs) bs)):=λo=>o A _ (S16 _ _ hA) AL AW AN;generalize hfull:ahL (evs (au ins gs) xs) here.1=full at *;kt_k;refine bI (bE (ak rfl (ak rfl (bB (v:=.str here.1) (SqL.of hW') (bU (by rw[Qi,Qi,eh];rfl)) (aA ?_)))));kt_k;refine s_for (s_list (i_dget (ak rfl (ak rfl ⟨A,_,rfl,eW (.inl (hA6 off)) nd ex eb,b,rfl,⟨_,SqL.of (hb6 off)⟩,?_⟩))));let I32:IvF:=λi σ' H'=>∃(ps:List (Str × Nat)) (lf:Str->Int) (x7:Option V),σ'=[some (.ref F),some (.ref A),some (.ref Lf),some (.ref Wt),some (.ref N),some (.int (a:Int)),some (.str here.1),x7]/\kR Lf Wt N H6 H'/\H' Lf=some (.dK (dN xs lf))/\H' Wt=some (.lst ((ps.map (·.1)).map V.str))/\H' N=some (.dK (eB ps))/\ps[a]?=some here/\Cnt ins gs xs ps a (full.take i) lf
 refine cY (xs:=full.map V.str) I32
  ⟨ps,lf,_,rfl,off,hLf',hW',hN',eh,by rw[List.take_zero];exact c⟩ (λi σ' H' _ pv=>?_) (λi v σ' H' hv pv=>?_) (λσ' H' pv=>?_)
 ·obtain⟨_,_,_,_,o,_⟩:=pv;exact SqL.of (hb6 o)
 ·obtain⟨ps,lf,x7,rfl,o,hLf',hW',hN',eh,c⟩:=pv;rw[Qi]at hv
  cases ef:full[i]? with
  | none=>rw[ef]at hv;cases hv
  | some y =>
  rw[ef]at hv;cases hv;have hi:i<full.length:=(Qe.mp ef).1
  have es:full=full.take i++y::full.drop (i+1):=by
   rw[<-(Qe.mp ef).2,<-List.drop_eq_getElem_cons hi,QY]
  have et:full.take (i+1)=full.take i++[y]:=by rw[Q6,ef];rfl
  obtain⟨hy,ho,g1,g2⟩:=c.go met eh (hfull.trans es);rw[<-et]at g1 g2;have fewp:=c.few;refine aA ?_;kt_k;have dgL:c8 H' Lf (.str y) (some (.int (lf y))):=.inl ⟨_,Sum.inr y,.inl hLf',rfl,(gW (xs:=xs) lf hy).symm⟩;refine yO (ak rfl (ak rfl ⟨Lf,_,rfl,dgL,i_c ⟨_,_,rfl,rfl,_,hG.k (k:=Sum.inr y) hLf' (by unfold dN;rw[Qa];omega),?_⟩⟩));rw[vh (xs:=xs) lf _ hy];have hLf2:upd H' Lf (.dK (dN xs λx=>if x=y then lf y-1 else lf x)) Lf=some (.dK (dN xs λx=>if x=y then lf y-1 else lf x)):=af;have o2:kR Lf Wt N H6 (upd H' Lf (.dK (dN xs λx=>if x=y then lf y-1 else lf x))):=λb u e h1 h2 h3=>by rw[aj h1];exact o b u e h1 h2 h3
  have hW2:upd H' Lf (.dK (dN xs λx=>if x=y then lf y-1 else lf x)) Wt=some (.lst ((ps.map (·.1)).map V.str)):=by rw[aj LW.symm];exact hW'
  have hN2:upd H' Lf (.dK (dN xs λx=>if x=y then lf y-1 else lf x)) N=some (.dK (eB ps)):=by rw[aj LN.symm];exact hN'
  generalize upd H' Lf (.dK (dN xs λx=>if x=y then lf y-1 else lf x))=H7 at *;have dgL2:c8 H7 Lf (.str y) (some (.int (lf y-1))):=.inl ⟨_,Sum.inr y,.inl hLf2,rfl,by rw[gW (xs:=xs) _ hy,QJ rfl]⟩;refine s_if (i_test (bE (i_dget (ak rfl (ak rfl ⟨Lf,_,rfl,dgL2,i_c (i_eq rfl ⟨_,rfl,?_⟩)⟩)))));by_cases cz:lf y-1=0
  ·refine ifT (by rw[cz];rfl) ?_;have dgN:c8 H7 N (.str here.1) (some (.int here.2)):=.inl ⟨_,Sum.inr here.1,.inl hN2,rfl,(ve c.nd (Qj eh)).symm⟩;kt_k;refine ie (bE (i_dget (ak rfl (ak rfl ⟨N,_,rfl,dgN,i_c (i_rI0 (ak rfl (ak rfl ⟨N,_,rfl,hG.k (k:=Sum.inr y) hN2 (by have:=congrArg List.length (iu ps);unfold aD at this;simp at this;omega),?_⟩)))⟩))));rw[show ((here.2:Int)+1)=((here.2+1:Nat):Int) from rfl,vf ho];have hW3:upd H7 N (.dK (eB (ps++[(y,here.2+1)]))) Wt=some (.lst ((ps.map (·.1)).map V.str)):=by rw[aj WN];exact hW2
   refine s_drop (i_bm (ak rfl ⟨i_tyL hW3,aq (ak rfl (aM (fA hW3 (by rw[Qa,Qa];omega) ?_)))⟩));refine⟨ps++[(y,here.2+1)],_,_,rfl,λb u e h1 h2 h3=>by rw[aj h2,aj h3];exact o2 b u e h1 h2 h3,by rw[aj LW,aj LN];exact hLf2,by rw[af];simp,by rw[aj WN.symm,af],by rw[QM (Qe.mp eh).1];exact eh,g1 cz⟩
  refine ifF (Xa λz=>cz (V.int.inj z)) ?_;exact⟨ps,_,_,rfl,o2,hLf2,hW2,hN2,eh,g2 cz⟩
 obtain⟨ps,lf,x7,rfl,o,hLf',hW',hN',eh,c⟩:=pv;rw[Qa,Qw (Qf _),<-hfull]at c;refine⟨_,rfl,i_c ⟨_,_,rfl,rfl,?_⟩⟩;exact⟨ps,lf,_,_,by rw[show ((a+1:Nat):Int)=(a:Int)+1 from rfl];rfl,(Qe.mp eh).1,o,hLf',hW',hN',c.turn met eh⟩
end
section
variable {os ss rs:List Str} {x y h a r r':Str}
theorem Run.trans {w:Str} {ps:List Str} (r:Run ins gs x os y) (q:Run ins gs y ps w):Run ins gs x (os++ps) w:=by
 induction r with
 | nil=>exact q
 | cons a b _ ih=>exact .cons a b (ih q)
theorem Run.rep (r:Run ins gs x os x):∀k,Run ins gs x (List.replicate k os).flatten x
 | 0=>.nil
 | k+1=>by rw[List.replicate_succ,List.flatten_cons];exact r.trans (r.rep k)
theorem Met.start (m:Met ins gs z xs):z∈xs:=Qj m.zero
theorem Met.runs (m:Met ins gs z xs) (r:Run ins gs x os y) (hx:x∈xs):y∈xs:=by
 induction r with
 | nil=>exact hx
 | cons a _ _ ih=>exact ih (m.closed hx a)
theorem Met.to (m:Met ins gs z xs) (hx:x∈xs):∃os,Run ins gs z os x:=by
 obtain⟨i,hi,e⟩:=Qq.mp hx;obtain⟨ns,p,_⟩:=m.path i x (by rw[Qd hi,e]);exact⟨ns,(m.run p).2⟩
theorem uq {p:Str × Str} (st:StOk (ao ins gs).length h) (hp:p∈au ins gs h):p.2.cps.toList.take ins.length=h.cps.toList.take ins.length:=by
 obtain⟨i,h1,h2,e,_⟩:=nF hp;rw[e,turn_list st (by rw[bO];exact h2),List.take_append_of_le_length,List.take_take,Nat.min_eq_left h1];have:=st.len;have hl:h.cps.toList.length=h.cps.size:=Qo;rw[bO]at this;rw[Qs];omega
theorem Met.pre (m:Met ins gs z xs) (hx:x∈xs):x.cps.toList.take ins.length=z.cps.toList.take ins.length:=by
 obtain⟨os,r⟩:=m.to hx;have st:=m.st z m.start;clear hx m
 induction r with
 | nil=>rfl
 | cons a b _ ih=>exact(ih b).trans (uq st a)
theorem Met.few7 (m:Met ins gs z xs) (ok:NetOk ins gs):xs.length<=128:=by
 have nd:(xs.map λx=>x.cps.toList.drop ins.length).Nodup:=by
  rw[List.Nodup,List.pairwise_map];refine List.Pairwise.imp_of_mem (λ{a b} ha hb n e=>n ?_) m.nd
  have:a.cps.toList=b.cps.toList:=by
   rw[<-QY ins.length a.cps.toList,<-QY ins.length b.cps.toList,m.pre ha,m.pre hb,e]
  cases a;cases b;simpa using this
 have:=Bf.pigeon _ (nc gs.length) nd λl hl=>by
  obtain⟨x,hx,rfl⟩:=Ql.mp hl;have st:=m.st x hx;refine kh _ _ ?_ λc hc=>st.signs c (List.mem_of_mem_drop hc);rw[Q4,Qo,st.len,bO];omega
 rw[Qa,ki]at this;have h2:2 ^ gs.length<=2 ^ 7:=Nat.pow_le_pow_right (by decide) ok.g7;have h3:(2:Nat) ^ 7=128:=by decide
 omega
theorem cX.calm {n:Nat} {ps:List Str} (l:cX ins gs h n) (r:Run ins gs h os a) (q:Run ins gs a ps a):ps=[]:=by
 cases ps with
 | nil=>rfl
 | cons p ps =>
 have:=l.1 _ _ (r.trans (q.rep (n+1)));rw[Qg,wL,QU]at this;have:n+1<=(n+1)*(ps.length+1):=Nat.le_mul_of_pos_right _ (by omega);omega
theorem Run.seen (r:Run ins gs h os y):(∀a ps qs,Run ins gs h ps a->Run ins gs a qs a->qs=[])->∃as:List Str,as.length=os.length+1/\as.Nodup/\∀a∈as,∃ps,Run ins gs h ps a:=by
 induction r with
 | nil=>exact λ_=>⟨[_],rfl,by simp,λa ha=>by rw[QI]at ha;rw[ha];exact⟨[],.nil⟩⟩
 | @cons z y w n os m st r ih =>
 intro c;obtain⟨as,h1,h2,h3⟩:=ih λa ps qs r1 r2=>c a (n::ps) qs (.cons m st r1) r2;refine⟨z::as,by simp[h1],Xb.mpr ⟨λhz=>?_,h2⟩,λa ha=>?_⟩
 ·obtain⟨ps,q⟩:=h3 z hz;exact nomatch (c z [] (n::ps) .nil (.cons m st q))
 rcases QV.mp ha with rfl|ha
 ·exact⟨[],.nil⟩
 obtain⟨ps,q⟩:=h3 a ha;exact⟨n::ps,.cons m st q⟩
theorem cX.lt (m:Met ins gs z xs) {n:Nat} (l:cX ins gs z n) (r:Run ins gs z os y):os.length<xs.length:=by
 obtain⟨as,h1,h2,h3⟩:=r.seen λa ps qs r1 r2=>l.calm r1 r2
 have:=Bf.pigeon as xs h2 λa ha=>by
  obtain⟨ps,q⟩:=h3 a ha;exact m.runs q m.start
 omega
theorem cX.stop {n:Nat} (l:cX ins gs h n) (st:StOk (ao ins gs).length h):∃os y,Run ins gs h os y/\au ins gs y=[]:=by
 obtain⟨l1,os,y,r,e⟩:=l;refine⟨os,y,r,?_⟩
 cases q:au ins gs y with
 | nil=>rfl
 | cons p ps =>
 have hp:p∈au ins gs y:=by rw[q];simp
 have sy:StOk (ao ins gs).length y:=by
  clear e q hp l1
  induction r with
  | nil=>exact st
  | cons _ b _ ih=>exact ih b
 have:=l1 _ _ (r.snoc (n:=p.1) (w:=p.2) hp (nC sy hp));rw[Qg,List.length_singleton]at this;omega
variable {ps:List (Str × Nat)}
theorem NumOk.on (m:Met ins gs z xs) (o:NumOk ins gs xs ps):∀(k:Nat) h,h∈xs->h∉ps.map (·.1)->∃os y,Run ins gs h os y/\os.length=k
 | 0,h,_,_=>⟨[],h,.nil,rfl⟩
 | k+1,h,hh,ho=>by
  obtain⟨p,hp,hn⟩:=o.out h hh ho;obtain⟨os,y,r,e⟩:=o.on m k p.2 (m.closed hh hp) hn;exact⟨p.1::os,y,.cons hp (m.st _ (m.closed hh hp)) r,by rw[QU,e]⟩
theorem NumOk.iff (m:Met ins gs z xs) (o:NumOk ins gs xs ps) (hh:h∈xs):h∈ps.map (·.1)↔∃n,∀os y,Run ins gs h os y->os.length<=n:=by
 refine⟨λhm=>?_,λ⟨n,l⟩=>Decidable.byContradiction λho=>?_⟩
 ·obtain⟨p,hp,rfl⟩:=Ql.mp hm;exact⟨p.2,(o.long p hp).1⟩
 obtain⟨os,y,r,e⟩:=o.on m (n+1) h hh ho;have:=l os y r;omega
def fh (ins:List Str) (gs:E5) (z r:Str):Prop:=∃xs,Met ins gs z xs/\(∀x,x∈xs/\au ins gs x=[]↔x=r)/\∃n,cX ins gs z n
theorem fh.one (a:fh ins gs z r) (b:fh ins gs z r'):r=r':=by
 obtain⟨xs,m,h,_⟩:=a;obtain⟨ys,m',h',_⟩:=b;have:=m.one m';subst this;exact(h' r).mp ((h r).mpr rfl)
theorem NumOk.long_of (m:Met ins gs z xs) (o:NumOk ins gs xs ps) (hh:h∈xs):h∈ps.map (·.1)↔∃n,cX ins gs h n:=by
 refine⟨λhm=>?_,λ⟨n,l⟩=>(o.iff m hh).mpr ⟨n,l.1⟩⟩;obtain⟨p,hp,rfl⟩:=Ql.mp hm;exact⟨p.2,o.long p hp⟩
theorem ig (m:Met ins gs z xs) (pm:ss.Perm xs):(ss.filter λh=>decide ((au ins gs h).length=0)).Nodup/\∀x,x∈(ss.filter λh=>decide ((au ins gs h).length=0))↔x∈xs/\au ins gs x=[]:=by
 refine⟨(pm.nodup_iff.mpr m.nd).filter _,λx=>?_⟩;rw[List.mem_filter,pm.mem_iff,XB,List.length_eq_zero_iff]
theorem sC {α:Type} {rs:List α} {r:α} (nd:rs.Nodup) (h:∀x,x∈rs↔x=r):rs=[r]:=by
 cases rs with
 | nil=>exact absurd ((h r).mpr rfl) (by simp)
 | cons a t =>
 have ea:=(h a).mp (by simp);subst ea
 cases t with
 | nil=>rfl
 | cons b t =>
 have eb:=(h b).mp (by simp);subst eb;simp at nd
theorem gP (nd:rs.Nodup) (h:∀x,x∈rs↔x=r):rs=[r]:=sC nd h
end
theorem Dl {K:PySem.W.Frag} {T:String} {r:V->List V->Hp->VK->Prop} {to:TE} (q:to U H λx H1=>tyV K T x H1/\r x [] H1 Q):Au K T r to U H Q:=q
theorem zC (ok:NetOk ins gs) (st:StOk (ao ins gs).length z):∃xs,Met ins gs z xs:=by
 have w11:(ao ins gs).length<=11:=by rw[bO];have:=ok.i4;have:=ok.g7;omega
 have few:∀n,(Bf.bfs (nxK (stN ins gs)) (Sum.inr z) n).length<=2048:=λn=>gU w11 (Bf.b_ n) λx hx=>fk st (Bf.cI n x hx)
 have:∀n,(∃k,(Bf.bfs (nxK (stN ins gs)) (Sum.inr z) k).length=k)\/n<(Bf.bfs (nxK (stN ins gs)) (Sum.inr z) n).length:=λn=>by
  induction n with
  | zero=>exact .inr (by simp[Bf.bfs])
  | succ n ih =>
  rcases ih with h|h
  ·exact .inl h
  have:=(Bf.kb (nx:=nxK (stN ins gs)) (s:=Sum.inr z) n).length_le;rcases Nat.lt_or_ge (n+1) (Bf.bfs (nxK (stN ins gs)) (Sum.inr z) (n+1)).length with l|l
  ·exact .inr l
  exact .inl ⟨n+1,by omega⟩
 rcases this 2048 with⟨k,h⟩|h
 ·obtain⟨xs,_,_,m,_⟩:=pS ok st h;exact⟨xs,m⟩
 have:=few 2048;omega
def WD (H:Hp) (F:Addr) (ins:List Str) (gs:E5) (ys:List Str) (ls:E4):Prop:=H F=some (.dK (fdK (aD ys) ls))/\ls.length=ys.length/\∀(i:Nat) y l,ys[i]?=some y->ls[i]?=some l->H l=some (.lst ((nxS ins gs y).map V.str))
def t_:Sp:=λvs H Q _=>∃a li lg ins gvs gs z,vs=[.ref a,.str z]/\NAt H a li lg ins gvs gs/\NetOk ins gs/\StOk (ao ins gs).length z /\
 ∀(F:Addr) (ys xs:List Str) (ls:E4) (H':Hp),am H H'->H F=none->Met ins gs z xs->ys.Perm xs->WD H' F ins gs ys ls->Q (.ref F) H'
structure WI (ins:List Str) (gs:E5) (z:Str) (xs ys ln:List Str):Prop where
 nd:ys.Nodup
 sub:∀y,y∈ys\/y∈ln->y∈xs
 start:z∈ys\/z∈ln
 cl:∀y∈ys,∀p∈au ins gs y,p.2∈ys\/p.2∈ln
section
variable {ins:List Str} {gs:E5} {z:Str} {xs ys ln:List Str}
theorem WI.fin (m:Met ins gs z xs) (w:WI ins gs z xs ys []):ys.Perm xs:=by
 refine(List.perm_ext_iff_of_nodup w.nd m.nd).mpr λx=>⟨λh=>w.sub x (.inl h),λh=>?_⟩;obtain⟨os,r⟩:=m.to h;have hz:z∈ys:=w.start.resolve_right (by simp);have cl:∀y∈ys,∀p∈au ins gs y,p.2∈ys:=λy hy p hp=>(w.cl y hy p hp).resolve_right (by simp);clear h w m
 induction r with
 | nil=>exact hz
 | cons a _ _ ih=>exact ih (cl _ hz _ a)
theorem WI.old {h:Str} (w:WI ins gs z xs ys (ln++[h])) (hh:h∈ys):WI ins gs z xs ys ln:=by
 have f:∀x,x∈ys\/x∈ln++[h]->x∈ys\/x∈ln:=λx q=>by
  rcases q with q|q
  ·exact .inl q
  rcases Qr.mp q with q|q
  ·exact .inr q
  rw[QI]at q;rw[q];exact .inl hh
 exact⟨w.nd,λy q=>w.sub y (q.imp id λq=>List.mem_append_left _ q),f z w.start,λy hy p hp=>f _ (w.cl y hy p hp)⟩
theorem WI.new {h:Str} (m:Met ins gs z xs) (w:WI ins gs z xs ys (ln++[h])) (hh:h∉ys):WI ins gs z xs (ys++[h]) (ln++nxS ins gs h):=by
 have hx:h∈xs:=w.sub h (.inr (by simp))
 have f:∀x,x∈ys\/x∈ln++[h]->x∈ys++[h]\/x∈ln++nxS ins gs h:=λx q=>by
  rcases q with q|q
  ·exact .inl (List.mem_append_left _ q)
  rcases Qr.mp q with q|q
  ·exact .inr (List.mem_append_left _ q)
  exact .inl (QL _ q)
 have hn:∀{y},y∈nxS ins gs h->y∈xs:=λ{y} q=>by
  obtain⟨p,hp,rfl⟩:=Ql.mp q;exact m.closed hx hp
 refine⟨List.nodup_append.mpr ⟨w.nd,by simp,λa ha b hb q=>hh (by rw[QI]at hb;rw[<-hb,<-q];exact ha)⟩,λy q=>?_,f z w.start,λy hy p hp=>?_⟩
 ·rcases q with q|q
  ·rcases Qr.mp q with q|q
   ·exact w.sub y (.inl q)
   rw[QI]at q;rw[q];exact hx
  rcases Qr.mp q with q|q
  ·exact w.sub y (.inr (List.mem_append_left _ q))
  exact hn q
 rcases Qr.mp hy with q|q
 ·exact f _ (w.cl y q p hp)
 rw[QI]at q;subst q;exact .inr (QL _ (Ql.mpr ⟨p,hp,rfl⟩))
end
section
theorem nU:FnScope ["net", "standing", "found", "line", "here"] ["net", "standing"] (az (top 52)):=by fin2
theorem wB {f:Addr} {fd:FuncData} (Fu:Fun K "_law_ways" "_law_ways" (top 52) f fd) (T:Txt K mg TT) (f_law_asked:Fn P w K mg base "_law_asked" ["net", "standing"] 11 fI):FnOk P w K mg base CX0 12 f fd ["net", "standing"] t_:=by
 have S:=nU;refine Fu.ok S (by room) (λcdv A outer s H vs Q E hr h=>?_);obtain⟨a,li,lg,ins,gvs,gs,z,rfl,NA,ok,st,k⟩:=h;have hu:=dS hr;refine'⟨?_,?bb,?_⟩
 case bb =>
  walk_at "b";exact aC 2 S.nd fq;exact aC 3 S.nd (bo (aa (pv 1) ae ag));refine' fo PassesOwn.never ?_ ?_;rotate_left 2;exact(aH (uG hr.units) (pv 3) (bo ae) (aO _));walk_at "p";exact aC 4 S.nd (yZ QP PySem.F.slot_list_pop PySem.F.type_list_pop zB (pv 3));exact(mx (fQ hu (pv 4) (pv 2)));exact(fP hu (pv 2) (pv 4) (qX (tgs:=["name", "there"]) (cap:=[]) rfl ⟨rfl,rfl,rfl,rfl,rfl,rfl⟩ (b8 (aY f_law_asked hr (aa (pv 0) (aa (pv 4) ae ag) ag))) (λ_ _ _ _=>(qW (K:=K) (n:=2) rfl rfl (bM (di (i:=0) (show List.Nodup [("name" : Str),("there" : Str)] by decide +kernel) rfl (by z_go)) (bM (di (i:=1) (show List.Nodup [("name" : Str),("there" : Str)] by decide +kernel) rfl (by z_go)) eR)))) (λ_ _ _ _=>gO) (λ_ _ _ _=>(pv 1))) rfl);exact aC 3 S.nd (ap fu (pv 3) (cu hu (pv 2) (pv 4)));exact(aK (pv 2))
 x_go;obtain⟨xs,met⟩:=zC ok st;have few:=met.few7 ok;have g7:=ok.g7;refine s_seq (bI ?_);intro F hF;refine aA ?_;ctx_has H F H1 S1 q1 aG hF;kt_k;refine bI (i_lst (aq (ak rfl (aM ⟨by simp[sizeLine],λL0 hL0=>aA ?_⟩))));ctx_has H1 L0 H2 S2 q2 aG hL0;kt_k;let I33:IvF:=λm U H'=>∃(ys ln:List Str) (ls:E4) (Ln:Addr) (x4:Option V),U=[some (.ref a),some (.str z),some (.ref F),some (.ref Ln),x4]/\m=8*(129-ys.length)+ln.length/\am H H'/\WD H' F ins gs ys ls/\H' Ln=some (.lst (ln.map V.str))/\H Ln=none/\Ln∉ls/\ln.length<=8*ys.length+1/\WI ins gs z xs ys ln
 refine⟨I33,
  ⟨_,[],[z],[],L0,_,rfl,rfl,S1.trans S2,⟨S2 _ _ q1,rfl,λi y l e=>(nomatch e)⟩,q2,am.free S1 hL0,by simp,by simp,by simp,λy q=>by rw[QI.mp (q.resolve_left (by simp))];exact met.start,.inr (by simp),λy q=>(nomatch q)⟩,?_⟩
 rintro m U H' ⟨ys,ln,ls,Ln,x4,rfl,rfl,SH,⟨hF',lls,hls⟩,hLn,hLn0,nLn,lln,wi⟩;have lys:ys.length<=xs.length:=Bf.pigeon _ _ wi.nd λy hy=>wi.sub y (.inl hy);have FL:F≠Ln:=λe=>by rw[e,hLn]at hF';cases hF'
 refine i_test (bE (ak rfl (i_lst (aM ⟨by simp[sizeLine],λp hp=>?_⟩))));ctx_has H' p H3 S3 q3 aG hp;refine⟨Ln,p,ln.map V.str,[],λ_=>true,rfl,rfl,SqL.of (S3 _ _ hLn),SqL.of q3,(λj x y _ h=>by simp at h),⟨_,rfl,?_⟩⟩;have hLn3:=S3 _ _ hLn;have hF3:=S3 _ _ hF';have SH3:=SH.trans S3;have hls3:∀(i:Nat) y l,ys[i]?=some y->ls[i]?=some l->H3 l=some (.lst ((nxS ins gs y).map V.str)):=λi y l e1 e2=>S3 _ _ (hls i y l e1 e2);clear hls hF' hLn SH hp q3 S3;rcases List.eq_nil_or_concat ln with rfl|⟨l0,h,rfl⟩
 ·refine cU ?_;exact s_ret (ak rfl (k F ys xs ls H3 SH3 hF met (wi.fin met) ⟨hF3,lls,hls3⟩))
 rw[List.concat_eq_append] at *;refine ifT (by simp) ⟨_,λ_ _ h=>h,?_⟩;kt_k;refine bI (Dl (ak rfl ⟨i_tyL hLn3,Ln,_,.str h,rfl,rfl,hLn3,by simp,aA ?_⟩));rw[show ((l0++[h]).map V.str).dropLast=l0.map V.str by simp];have hLn4:upd H3 Ln (.lst (l0.map V.str)) Ln=some (.lst (l0.map V.str)):=af;have hF4:upd H3 Ln (.lst (l0.map V.str)) F=some (.dK (fdK (aD ys) ls)):=by rw[aj FL];exact hF3
 have SH4:am H (upd H3 Ln (.lst (l0.map V.str))):=ba SH3 hLn0;have hls4:∀(i:Nat) y l,ys[i]?=some y->ls[i]?=some l->upd H3 Ln (.lst (l0.map V.str)) l=some (.lst ((nxS ins gs y).map V.str)):=λi y l e1 e2=>by rw[aj λe=>nLn (by rw[<-e];exact Qj e2)];exact hls3 i y l e1 e2
 generalize upd H3 Ln (.lst (l0.map V.str))=H4 at *;rw[Qg,List.length_singleton]at lln;have hx:h∈xs:=wi.sub h (.inr (by simp));have dg:c8 H4 F (.str h) (bw (fdK (aD ys) ls) (Sum.inr h)):=.inl ⟨_,Sum.inr h,.inl hF4,rfl,rfl⟩;refine s_if (i_test (gX (ak rfl (ak rfl ⟨F,_,rfl,dg,_,rfl,?_⟩))));by_cases c:h∈ys
 ·refine ifF ?_ ?_
  ·cases q:bw (fdK (aD ys) ls) (Sum.inr h) with
   | none=>exact absurd c ((rB (by omega)).mp q)
   | some _=>rfl
  exact⟨8*(129-ys.length)+l0.length,by simp,ys,l0,ls,Ln,_,rfl,rfl,SH4,⟨hF4,lls,hls4⟩,hLn4,hLn0,nLn,by omega,wi.old c⟩
 have hvn:=(rB (ls:=ls) (by omega)).mpr c;refine ifT (by rw[hvn];rfl) ?_;have sth:=met.st h hx;kt_k;refine ie (cN (s_list (i_call (aq (ak rfl (aq (ak rfl (aM ⟨a,li,lg,ins,gvs,gs,h,rfl,NA.same SH4,ok,sth,λl vs H5 S5 hl0 hl5 pr5=>⟨l,rfl,⟨_,SqL.of hl5⟩,λL hL=>?_⟩⟩))))))));have lv:=aU pr5;have l7:=gj ins gs h;refine eJ (xs:=vs) (λm H' ys=>am H5 H'/\H' L=some (.lst ys)/\ys=((nxS ins gs h).take m).map V.str) ⟨ai hL,af,by simp⟩ (λm H' ys p=>⟨p.2.1,SqL.of (p.1 _ _ hl5)⟩) (λm v H' ys e p=>?_) (λH6 us p=>?_)
 ·obtain⟨Sm,hd,rfl⟩:=p;obtain⟨p,hp,b,rfl,hb⟩:=dC pr5 m v e;have hm:m<vs.length:=(Qe.mp e).1;refine⟨b,_,rfl,SqT.of (Sm _ _ hb),rfl,?_⟩;refine⟨_,_,rfl,aA ⟨_,_,rfl,aA ⟨rfl,by repeat' (first|exact trivial|refine⟨rfl,?_⟩),i_yes (cT ?_)⟩⟩⟩;refine ak rfl (cA.mk hd hm (by rw[Qa,Qs];omega) ⟨ba Sm hL,af,?_⟩);have:(nxS ins gs h)[m]?=some p.2:=by unfold nxS;rw[Qi,hp];rfl
  rw[Q6,this,Qx];rfl
 obtain⟨Sm,hd,rfl⟩:=p;have ln:(nxS ins gs h).length=vs.length:=by unfold nxS;rw[Qa,lv]
 rw[Qw (by omega)]at hd;have S46:=S5.trans Sm;have hF6:=S46 _ _ hF4;have hLn6:=S46 _ _ hLn4;have L4:H4 L=none:=am.free S5 hL;refine ak rfl (ak rfl ⟨F,_,rfl,hG.k (k:=Sum.inr h) hF6 (by have:=mN (xs:=aD ys) (as:=ls) (by unfold aD;rw[Qa];omega);omega),?_⟩);rw[d8 _ hvn,show fdK (aD ys) ls++[(Sum.inr h,V.ref L)]=fdK (aD (ys++[h])) (ls++[L]) by unfold fdK aD;rw[Qx,List.zip_append (by rw[Qa];omega),Qx];rfl];have FLh:F≠L:=λe=>by rw[<-e,hF4]at L4;cases L4
 have LnL:Ln≠L:=λe=>by rw[<-e,hLn4]at L4;cases L4
 have hF7:upd H6 F (.dK (fdK (aD (ys++[h])) (ls++[L]))) F=some (.dK (fdK (aD (ys++[h])) (ls++[L]))):=af;have hL7:upd H6 F (.dK (fdK (aD (ys++[h])) (ls++[L]))) L=some (.lst ((nxS ins gs h).map V.str)):=by rw[aj FLh.symm];exact hd
 have hLn7:upd H6 F (.dK (fdK (aD (ys++[h])) (ls++[L]))) Ln=some (.lst (l0.map V.str)):=by rw[aj FL.symm];exact hLn6
 have hls7:∀(i:Nat) y l,(ys++[h])[i]?=some y->(ls++[L])[i]?=some l->upd H6 F (.dK (fdK (aD (ys++[h])) (ls++[L]))) l=some (.lst ((nxS ins gs y).map V.str)):=λi y l e1 e2=>by
  by_cases ci:i<ys.length
  ·rw[QM ci]at e1;rw[QM (by omega)]at e2;have:=hls4 i y l e1 e2;rw[aj λe=>by rw[e,hF4]at this;cases this];exact S46 _ _ this
  have ei:i=ys.length:=by
   have:=(Qe.mp e1).1;simp at this;omega
  subst ei;rw[QE (Qf _),Nat.sub_self]at e1;rw[QE (by omega),lls,Nat.sub_self]at e2;cases e1;cases e2;exact hL7
 have SH7:am H (upd H6 F (.dK (fdK (aD (ys++[h])) (ls++[L])))):=ba (SH4.trans S46) hF;generalize upd H6 F (.dK (fdK (aD (ys++[h])) (ls++[L])))=H7 at *;have w2:=wi.new met c;have nd2:=w2.nd;have lls2:(ls++[L]).length=(ys++[h]).length:=by simp[lls]
 have dg7:c8 H7 F (.str h) (some (.ref L)):=eW (.inl hF7) nd2 (i:=ys.length) (by simp) (by rw[<-lls];simp);refine bI (bE (ak rfl (i_dget (ak rfl (ak rfl ⟨F,_,rfl,dg7,iH hLn7 hL7 (by rw[Qa,Qa];omega) λN hN=>aA ?_⟩)))));ctx_has H7 N H8 S8 q8 aG hN;refine⟨8*(129-(ys++[h]).length)+(l0++nxS ins gs h).length,?_,ys++[h],l0++nxS ins gs h,ls++[L],N,_,rfl,rfl,SH7.trans S8,⟨S8 _ _ hF7,lls2,λi y l e1 e2=>S8 _ _ (hls7 i y l e1 e2)⟩,by rw[q8,Qx],am.free SH7 hN,λhm=>?_,?_,w2⟩
 ·have:(ys++[h]).length<=xs.length:=Bf.pigeon _ _ nd2 λy hy=>w2.sub y (.inl hy);rw[Qg,List.length_singleton]at this;simp only[Qg,List.length_singleton];omega
 ·obtain⟨i,hi,ei⟩:=Qq.mp hm;have:=hls7 i ((ys++[h])[i]'(by omega)) N (Qd _) (by rw[Qd hi,ei]);rw[hN]at this;cases this
 simp only[Qg,List.length_singleton];omega
end
section
variable {os hs ks:List Str}
theorem Run.last {x w:Str} (r:Run ins gs x os w):os=[]\/∃ps y n,Run ins gs x ps y/\ps.length+1=os.length/\(n,w)∈au ins gs y:=by
 induction r with
 | nil=>exact .inl rfl
 | @cons z y w n os a b r ih =>
 refine .inr ?_;rcases ih with e|⟨ps,y',n',r',l,s⟩
 ·subst e;cases r;exact⟨[],z,n,.nil,rfl,a⟩
 exact⟨n::ps,y',n',.cons a b r',by simp[l],s⟩
theorem Run.cut {x w:Str} (r:Run ins gs x os w):∀k,k<=os.length->∃y,Run ins gs x (os.take k) y:=by
 induction r with
 | nil=>exact λk h=>⟨_,by rw[List.take_nil];exact .nil⟩
 | cons a b _ ih =>
 intro k h
 cases k with
 | zero=>exact⟨_,.nil⟩
 | succ k =>
 obtain⟨y,r'⟩:=ih k (by simpa using h);exact⟨y,.cons a b r'⟩
theorem rh:∀n,(∀os y,Run ins gs z os y->os.length<=n)->∃m,cX ins gs z m
 | 0,h=>⟨0,h,[],z,.nil,rfl⟩
 | n+1,h=>by
  by_cases c:∃os y,Run ins gs z os y/\os.length=n+1
  ·exact⟨n+1,h,c⟩
  refine rh n λos y r=>?_;have:=h os y r;have:os.length≠n+1:=λe=>c ⟨os,y,r,e⟩;omega
def LvI (ins:List Str) (gs:E5) (z:Str) (k:Nat) (hs:List Str):Prop:=hs.Nodup/\∀x,x∈hs↔∃os,os.length=k/\Run ins gs z os x
theorem LvI.next {k:Nat} (m:Met ins gs z xs) (l:LvI ins gs z k hs) (nd:ks.Nodup) (h:∀x,x∈ks↔∃y∈hs,x∈nxS ins gs y):LvI ins gs z (k+1) ks:=by
 refine⟨nd,λx=>(h x).trans ⟨λ⟨y,hy,hx⟩=>?_,λ⟨os,e,r⟩=>?_⟩⟩
 ·obtain⟨os,e,r⟩:=(l.2 y).mp hy;obtain⟨p,hp,rfl⟩:=Ql.mp hx;exact⟨os++[p.1],by simp[e],r.snoc hp (m.st _ (m.closed (m.runs r m.start) hp))⟩
 rcases r.last with e0|⟨ps,y,n,r',e',s⟩
 ·rw[e0]at e;cases e
 exact⟨y,(l.2 y).mpr ⟨ps,by omega,r'⟩,Ql.mpr ⟨_,s,rfl⟩⟩
theorem LvI.end {k:Nat} (l:LvI ins gs z (k+1) []):∃n,cX ins gs z n:=by
 refine rh k λos y r=>Nat.le_of_not_lt λh=>?_;obtain⟨w,r'⟩:=r.cut (k+1) h;exact absurd ((l.2 w).mpr ⟨_,by rw[Qs];omega,r'⟩) (by simp)
theorem LvI.few {k:Nat} (m:Met ins gs z xs) (l:LvI ins gs z k hs):hs.length<=xs.length/\∀x∈hs,x∈xs:=by
 have:∀x∈hs,x∈xs:=λx hx=>by
  obtain⟨os,_,r⟩:=(l.2 x).mp hx;exact m.runs r m.start
 exact⟨Bf.pigeon _ _ l.1 this,this⟩
end
theorem uh (kvs:List (Key × V)) (k:Key) (v:V):(cf kvs k v).length<=kvs.length+1:=by
 unfold cf
 split <;> simp
theorem zL (ks:List Str) (x:Str):cf (knK (aD ks)) (Sum.inr x) (.bl true)=knK (aD (Bf.bi ks [x])):=by
 by_cases c:x∈ks
 ·rw[Bf.km c];have hm:(Sum.inr x:Key)∈aD ks:=Ql.mpr ⟨x,c,rfl⟩;unfold cf;rw[cK]
  cases q:bw (knK (aD ks)) (Sum.inr x) with
  | none=>exact absurd hm (i0.mp q)
  | some v =>
  rw[Option.isSome_some,QJ rfl];unfold knK;rw[QX];refine List.map_congr_left λy _=>?_;by_cases e:y=Sum.inr x
  ·subst e;simp
  simp[e]
 rw[Bf.kj c,d8 _ (i0.mpr λq=>by obtain⟨y,hy,e⟩:=Ql.mp q;cases e;exact c hy)];unfold knK aD;simp
def nJ:Sp:=λvs H Q _=>∃(F:Addr) (ins:List Str) (gs:E5) (z:Str) (ys xs:List Str) (ls:E4),vs=[.ref F,.str z]/\WD H F ins gs ys ls/\Met ins gs z xs/\NetOk ins gs/\ys.Perm xs /\
 (∀d H',am H H'->(∃n,cX ins gs z n)->Q (.ref d) H')/\(∀H',am H H'->(¬∃n,cX ins gs z n)->Q .non H')
section
theorem kI:FnScope ["ways", "standing", "found", "here", "k", "ahead", "one", "there"] ["ways", "standing"] (az (top 53)):=by fin2
theorem sK {f:Addr} {fd:FuncData} (Fu:Fun K "_law_levels" "_law_levels" (top 53) f fd) (T:Txt K mg TT):FnOk P w K mg base CX0 1 f fd ["ways", "standing"] nJ:=by
 have S:=kI;refine Fu.ok S (by room) (λcdv A outer s H vs Q E hr h=>?_);obtain⟨F,ins,gs,z,ys,xs,ls,rfl,⟨hF,lls,hls⟩,met,ok,pm,k1,k2⟩:=h;have hu:=dS hr;refine'⟨?_,?bb,?_⟩
 case bb =>
  walk_at "b";exact aC 2 S.nd fq;exact aC 3 S.nd (bo (aa (pv 1) ae ag));walk_at "f";exact(bY (by rfl) T.n_range (aa (ap aW (aF tI (by rfl) T.n_len QG (aa (pv 0) ae ag)) ad) ae));exact(b9 4 S.nd);walk_at "p";exact aC 5 S.nd fq;walk_at "f";exact(b8 (pv 3));exact(b9 6 S.nd);walk_at "p";exact(fP hu (pv 2) (pv 6) (pv 4) rfl);walk_at "f";exact(b8 (cu hu (pv 0) (pv 6)));exact(b9 7 S.nd);walk_at "p";exact(fP hu (pv 5) (pv 7) f_ rfl);exact aC 3 S.nd (dB (jY rfl) (by rfl) T.n_list PyProof.Rows.boot_list (aa (pv 5) ae ag));exact(aH (pF hr.units) (pv 3) (bo ae) (aO _));exact(aK (pv 2));exact(aK c7)
 x_go;have few:=met.few7 ok;have g7:=ok.g7;have lys:=pm.length_eq;have ndy:=pm.nodup_iff.mpr met.nd;refine s_seq (bI ?_);intro D hD;refine aA ?_;ctx_has H D H1 S1 q1 aG hD;kt_k;refine bI (i_lst (aq (ak rfl (aM ⟨by simp[sizeLine],λL0 hL0=>aA ?_⟩))));ctx_has H1 L0 H2 S2 q2 aG hL0;have S12:=S1.trans S2;have lk:(fdK (aD ys) ls).length=ys.length:=by rw[mN (by unfold aD;rw[Qa];omega)];exact lls
 kt_k;refine s_for (s_rng1 (aq (bE (i_cb (aq (ak rfl (aM ⟨F,_,rfl,S12 _ _ hF,i_c (i_rI0 (aM ?_))⟩))))))) ;rw[lk];refine⟨_,rfl,by omega,by omega,?_⟩;rw[show ((ys.length:Int)+1).toNat=ys.length+1 by omega];let I34:IvF:=λi U H'=>(∃(hs:List Str) (Hn:Addr) (kvs:List (Key × V)) (x4 x5 x6 x7:Option V),U=[some (.ref F),some (.str z),some (.ref D),some (.ref Hn),x4,x5,x6,x7]/\am H H'/\H' D=some (.dK kvs)/\kvs.length<=128*i/\H' Hn=some (.lst (hs.map V.str))/\LvI ins gs z i hs/\hs≠[])
 refine cH (n:=ys.length+1) I34
  ⟨[z],L0,[],_,_,_,_,rfl,S12,S2 _ _ q1,by simp,q2,⟨by simp,λx=>⟨λh=>⟨[],rfl,by rw[QI]at h;rw[h];exact .nil⟩,λ⟨os,e,r⟩=>by rw[List.length_eq_zero_iff]at e;subst e;cases r;simp⟩⟩,by simp⟩ (λi U H' hi pv=>?_) (λU H' pv=>?_)
 ·obtain⟨hs,Hn,kvs,x4,x5,x6,x7,rfl,SH,hD',lkv,hHn,lv,ne⟩:=pv;obtain⟨lhs,subx⟩:=lv.few met;refine aA ?_;kt_k;refine bI ?_;intro Ah hAh;refine aA ?_;ctx_has H' Ah H3 S3 q3 aG hAh;have Ah0:H Ah=none:=am.free SH hAh;have AD:Ah≠D:=λe=>by rw[e,hD']at hAh;cases hAh
  have AN:Ah≠Hn:=λe=>by rw[e,hHn]at hAh;cases hAh
  have ND:Hn≠D:=λe=>by rw[e,hD']at hHn;cases hHn
  kt_k;refine s_for (s_list (ak rfl ⟨Hn,rfl,⟨_,SqL.of (S3 _ _ hHn)⟩,?_⟩));let Iv:=λ(j:Nat) (R:Str->Prop) (G:Hp)=>am H G/\G Hn=some (.lst (hs.map V.str))/\(∃kvs,G D=some (.dK kvs)/\kvs.length<=128*i+j)/\∃ks:List Str,G Ah=some (.dK (knK (aD ks)))/\ks.Nodup/\∀x,x∈ks↔R x;let I35:IvF:=λj U G=>(∃x6 x7:Option V,U=[some (.ref F),some (.str z),some (.ref D),some (.ref Hn),some (.int (0+(i:Int))),some (.ref Ah),x6,x7])/\Iv j (λx=>∃y∈hs.take j,x∈nxS ins gs y) G
  refine cY (xs:=hs.map V.str) I35
   ⟨⟨_,_,rfl⟩,SH.trans S3,S3 _ _ hHn,⟨kvs,S3 _ _ hD',by omega⟩,[],q3,by simp,by simp⟩ (λj U G _ pv=>SqL.of pv.2.2.1) (λj v U G hv pv=>?_) (λU G pv=>?_)
  ·obtain⟨⟨x6,x7,rfl⟩,SG,gHn,⟨kv2,gD,lkv2⟩,ks,gA,ndk,mk⟩:=pv;rw[Qi]at hv
   cases ey:hs[j]? with
   | none=>rw[ey]at hv;cases hv
   | some y =>
   rw[ey]at hv;cases hv;have hj:=(Qe.mp ey).1;have hyx:=subx y (Qj ey);refine aA ?_;kt_k;refine ie (ak rfl (ak rfl (ak rfl ⟨D,_,rfl,hG.k (k:=Sum.inr y) gD (by omega),?_⟩)));have lk2:=uh kv2 (Sum.inr y) (.int (0+(i:Int)));generalize cf kv2 (Sum.inr y) (.int (0+(i:Int)))=kv3 at *;have SG2:am H (upd G D (.dK kv3)):=ba SG hD;have gD2:upd G D (.dK kv3) D=some (.dK kv3):=af;have gA2:upd G D (.dK kv3) Ah=some (.dK (knK (aD ks))):=by rw[aj AD];exact gA
   have gHn2:upd G D (.dK kv3) Hn=some (.lst (hs.map V.str)):=by rw[aj ND];exact gHn
   generalize upd G D (.dK kv3)=G2 at *;obtain⟨ix,hix,eix⟩:=Qq.mp (pm.mem_iff.mpr hyx);have ex:ys[ix]?=some y:=by rw[Qd hix,eix]
   obtain⟨b,eb⟩:∃b,ls[ix]?=some b:=⟨_,Qd (by omega)⟩;have hb:=hls ix y b ex eb;have tk:hs.take (j+1)=hs.take j++[y]:=by rw[Q6,ey];rfl
   refine s_for (s_list (i_dget (ak rfl (ak rfl ⟨F,_,rfl,eW (.inl (SG2 _ _ hF)) ndy ex eb,b,rfl,⟨_,SqL.of (SG2 _ _ hb)⟩,?_⟩))));let I36:IvF:=λl U G=>(∃x7:Option V,U=[some (.ref F),some (.str z),some (.ref D),some (.ref Hn),some (.int (0+(i:Int))),some (.ref Ah),some (.str y),x7])/\Iv (j+1) (λx=>(∃y∈hs.take j,x∈nxS ins gs y)\/x∈(nxS ins gs y).take l) G
   refine cY (xs:=(nxS ins gs y).map V.str) I36
    ⟨⟨_,rfl⟩,SG2,gHn2,⟨kv3,gD2,by omega⟩,ks,gA2,ndk,by simpa using mk⟩ (λl U G _ pv=>SqL.of (pv.2.1 _ _ hb)) (λl v U G hv pv=>?_) (λU G pv=>?_)
   ·obtain⟨⟨x7,rfl⟩,SG,gHn,⟨kv4,gD,lkv4⟩,ks,gA,ndk,mk⟩:=pv;rw[Qi]at hv
    cases eu:(nxS ins gs y)[l]? with
    | none=>rw[eu]at hv;cases hv
    | some u =>
    rw[eu]at hv;cases hv
    have lks:ks.length<=xs.length:=Bf.pigeon _ _ ndk λx hx=>by
     rcases(mk x).mp hx with⟨y',hy',q⟩|q
     ·obtain⟨p,hp,rfl⟩:=Ql.mp q;exact met.closed (subx y' (List.mem_of_mem_take hy')) hp
     obtain⟨p,hp,rfl⟩:=Ql.mp (List.mem_of_mem_take q);exact met.closed hyx hp
    refine aA ?_;refine ie (i_c (ak rfl (ak rfl ⟨Ah,_,rfl,hG.k (k:=Sum.inr u) gA (by unfold knK aD;rw[Qa,Qa];omega),?_⟩)));rw[zL];refine⟨⟨_,rfl⟩,ba SG Ah0,by rw[aj AN.symm];exact gHn,⟨kv4,by rw[aj AD.symm];exact gD,lkv4⟩,_,af,Bf.dv _ _ ndk,λx=>?_⟩;rw[Bf.dM,mk,Q6,eu];show (_\/_)\/x∈[u]↔_\/x∈_++[u];rw[Qr,or_assoc]
   obtain⟨⟨x7,rfl⟩,SG,gHn,⟨kv4,gD,lkv4⟩,ks,gA,ndk,mk⟩:=pv;rw[Qa,Qw (Qf _)]at mk;refine⟨⟨_,_,rfl⟩,SG,gHn,⟨kv4,gD,lkv4⟩,ks,gA,ndk,λx=>(mk x).trans ?_⟩;rw[tk];simp[or_and_right,exists_or]
  obtain⟨⟨x6,x7,rfl⟩,SG,gHn,⟨kv2,gD,lkv2⟩,ks,gA,ndk,mk⟩:=pv;rw[Qa]at lkv2 mk;rw[Qw (Qf _)]at mk;have lv2:=lv.next met ndk mk
  try dsimp only
  kt_k;refine bI (i_cb (aq (ak rfl (aM ⟨Ah,_,rfl,.inl gA,λHm hHm=>aA ?_⟩))));rw[show (knK (aD ks)).map (λp=>kV p.1)=ks.map V.str by unfold knK aD;rw[QX,QX];rfl];ctx_has G Hm G3 S3 q3 aG hHm;refine s_if (i_test (bE (ak rfl (i_lst (aM ⟨by simp[sizeLine],λp hp=>?_⟩)))));ctx_has G3 p G4 S4 q4 aG hp;refine⟨Hm,p,ks.map V.str,[],λ_=>true,rfl,rfl,SqL.of (S4 _ _ q3),SqL.of q4,(λj x y _ h=>by simp at h),⟨_,rfl,?_⟩⟩;have SG4:=SG.trans (S3.trans S4)
  cases ks with
  | nil =>
   refine cT ?_;exact s_ret (ak rfl (k1 _ _ SG4 lv2.end))
  | cons u ks =>
  refine cU ?_;kt_k;exact⟨_,Hm,kv2,_,_,_,_,rfl,SG4,(S3.trans S4) _ _ gD,by omega,S4 _ _ q3,lv2,by simp⟩
 obtain⟨hs,Hn,kvs,x4,x5,x6,x7,rfl,SH,hD',lkv,hHn,lv,ne⟩:=pv
 try dsimp only
 refine s_ret (i_c (k2 _ SH λ⟨n,l⟩=>?_))
 cases hs with
 | nil=>exact ne rfl
 | cons x hs =>
 obtain⟨os,e,r⟩:=(lv.2 x).mp (by simp);have:=l.lt met r;omega
end
section
theorem SD.frz {kvs:List (Key × V)} {o:Obj} (h:SD H F ins gs xs) (r:Rd H F (.dK kvs)) (e:∀{as:E4},Rd H F (.dK (fdK (aD xs) as))->kvs=fdK (aD xs) as):SD (upd H F (.frz o (.dK kvs))) F ins gs xs:=by
 obtain⟨as,r2,las,sts⟩:=h;refine⟨as,.inr ⟨o,by rw[<-e r2];exact af⟩,las,λi x b e1 e2=>?_⟩;obtain⟨vs,h1,h2⟩:=sts i x b e1 e2;refine⟨vs,by rw[aj (gM r h1 (λ_ z=>nomatch z) λ_ _ z=>nomatch z)];exact h1,cE (λv s ⟨c,ec,q⟩=>⟨c,ec,?_⟩) h2⟩;rw[aj (gM r q (λ_ z=>nomatch z) λ_ _ z=>nomatch z)];exact q
end
def i7 (ins:List Str) (gs:E5) (xs:List Str):Bool:=xs.all λh=>(au ins gs h).all λp=>decide (p.2∈xs)
theorem oP:i7 ins gs xs=true↔∀h∈xs,∀p∈au ins gs h,p.2∈xs:=by
 unfold i7;simp[Q2]
noncomputable def yM (ss:List Str):Bool:=@decide (ss.Nodup/\ss.Pairwise leT) (Classical.propDecidable _)
theorem t6:yM ss=true↔ss.Nodup/\ss.Pairwise leT:=by
 unfold yM;exact @XB _ (Classical.propDecidable _)
noncomputable def y3 (n:Nat) (ss:List Str):Bool:=ss.all (stB n)&&yM ss
section
end
def DC (H:Hp) (p:Addr) (bs:E4) (qs:List (Str × Int)):Prop:=H p=some (.lst (bs.map V.ref))/\bs.length=qs.length/\∀(i:Nat) b q,bs[i]?=some b->qs[i]?=some q->H b=some (.tup [.str q.1,.int q.2])
theorem sY (qs:List (Str × Int)):(iw qs).map (·.1)=aD (qs.map (·.1)):=by unfold iw aD;rw[QX,QX];rfl
theorem vg {qs:List (Str × Int)} (nd:(qs.map (·.1)).Nodup) {q:Str × Int} (h:q∈qs):bw (iw qs) (Sum.inr q.1)=some (.int q.2):=by
 obtain⟨i,hi,e⟩:=Qq.mp h;refine dO (i:=i) (by rw[sY];exact jK nd) ?_;unfold iw;rw[Qi,Qd hi,e];rfl
def ltV:Option V->Int->Bool
 | some (.int m),n=>decide (m<n)
 | _,_=>false
def yw (ins:List Str) (gs:E5) (qs:List (Str × Int)):Bool:=qs.all λq=>(au ins gs q.1).all λp=>ltV (bw (iw qs) (Sum.inr p.2)) q.2
def Da (qs:List (Str × Int)):Bool:=qs.all λq=>decide (0<=q.2)
noncomputable def shB (ins:List Str) (gs:E5) (z r:Str) (qs:List (Str × Int)):Bool:=Da qs&&y3 (ao ins gs).length (qs.map (·.1))&&decide (z∈qs.map (·.1))&&i7 ins gs (qs.map (·.1))&&yw ins gs qs&&decide (((qs.map (·.1)).filter λh=>decide ((au ins gs h).length=0))=[r])
section
theorem kH:FnScope ["net", "standing", "rest", "paper", "numbers", "steps"] ["net", "standing", "rest", "paper"] (az (top 38)):=by fin2
end
def lO (ins:List Str) (gs:E5) (z:Str) (qs:List (Str × Int)):Prop:=∃xs ps,Met ins gs z xs/\NumOk ins gs xs ps/\qs.Perm (ps.map λ(p:Str × Nat)=>((p.1,(p.2:Int)):Str × Int))/\qs.Pairwise λx y=>leT x.1 y.1
section
variable {ins:List Str} {gs:E5} {z r:Str} {qs qs':List (Str × Int)}
theorem cX.uniq {h:Str} {n m:Nat} (a:cX ins gs h n) (b:cX ins gs h m):n=m:=by
 obtain⟨h1,os,y,r1,e1⟩:=a;obtain⟨h2,ps,w,r2,e2⟩:=b;have:=h1 _ _ r2;have:=h2 _ _ r1;omega
theorem NumOk.sub_of {xs:List Str} {ps ps':List (Str × Nat)} (m:Met ins gs z xs) (a:NumOk ins gs xs ps) (b:NumOk ins gs xs ps') {p:Str × Nat} (hp:p∈ps):p∈ps':=by
 have hx:=a.sub p hp;obtain⟨p',hp',e⟩:=Ql.mp ((b.long_of m hx).mpr ⟨p.2,a.long p hp⟩);have l:=b.long p' hp';rw[e]at l;have:p'=p:=Prod.ext e (l.uniq (a.long p hp));rwa [this]at hp'
theorem rn {α β:Type} {ps:List (α × β)} (nd:(ps.map (·.1)).Nodup):ps.Nodup:=(List.pairwise_map.mp nd).imp λ{a b} h e=>h (by rw[e])
theorem lO.nd (a:lO ins gs z qs):(qs.map (·.1)).Nodup:=by
 obtain⟨xs,ps,m,o,pm,so⟩:=a;rw[(pm.map _).nodup_iff,QX];exact o.nd
theorem lO.det (a:lO ins gs z qs) (b:lO ins gs z qs'):qs=qs':=by
 have nd':=b.nd;obtain⟨xs,ps,m,o,pm,so⟩:=a;obtain⟨xs',ps',m',o',pm',so'⟩:=b;have e:=m.one m';subst e;have pp:ps.Perm ps':=(List.perm_ext_iff_of_nodup (rn o.nd) (rn o'.nd)).mpr λp=>⟨λh=>o.sub_of m o' h,λh=>o'.sub_of m o h⟩;have pq:qs.Perm qs':=pm.trans ((pp.map _).trans pm'.symm);refine List.Perm.eq_of_pairwise (λa b ha hb h1 h2=>?_) so so' pq;have ek:a.1=b.1:=vb h1 h2;have ha':=pq.mem_iff.mp ha;obtain⟨i,hi,ei⟩:=Qq.mp ha';obtain⟨j,hj,ej⟩:=Qq.mp hb;have:i=j:=(List.getElem_inj (h₀:=by rw[Qa];exact hi) (h₁:=by rw[Qa];exact hj) nd').mp (by rw[List.getElem_map,List.getElem_map,ei,ej];exact ek);subst this;rw[<-ei,ej]
structure ShOk (ins:List Str) (gs:E5) (z r:Str) (qs:List (Str × Int)):Prop where
 nd:(qs.map (·.1)).Nodup
 so:(qs.map (·.1)).Pairwise leT
 zin:z∈qs.map (·.1)
 rin:r∈qs.map (·.1)
 st:∀q∈qs,StOk (ao ins gs).length q.1
 pos:∀q∈qs,0<=q.2
 rest:∀q∈qs,au ins gs q.1=[]↔q.1=r
 fall:∀q∈qs,∀p∈au ins gs q.1,∃n,(p.2,n)∈qs/\n<q.2
theorem ShOk.bool (a:ShOk ins gs z r qs):shB ins gs z r qs=true:=by
 have h1:Da qs=true:=Q2.mpr λq hq=>Xw (a.pos q hq)
 have h2:y3 (ao ins gs).length (qs.map (·.1))=true:=by
  unfold y3;rw[Xo,Q2,t6];refine⟨λx hx=>?_,a.nd,a.so⟩;obtain⟨q,hq,rfl⟩:=Ql.mp hx;exact lU.mpr (a.st q hq)
 have h3:i7 ins gs (qs.map (·.1))=true:=oP.mpr λx hx p hp=>by
  obtain⟨q,hq,rfl⟩:=Ql.mp hx;obtain⟨n,hn,_⟩:=a.fall q hq p hp;exact Ql.mpr ⟨_,hn,rfl⟩
 have h4:yw ins gs qs=true:=Q2.mpr λq hq=>Q2.mpr λp hp=>by
  obtain⟨n,hn,l⟩:=a.fall q hq p hp;have:=vg a.nd hn;rw[this];exact Xw l
 have h5:((qs.map (·.1)).filter λh=>decide ((au ins gs h).length=0))=[r]:=gP (a.nd.filter _) λx=>by
  rw[List.mem_filter,XB,List.length_eq_zero_iff];refine⟨λ⟨hx,e⟩=>?_,λe=>?_⟩
  ·obtain⟨q,hq,rfl⟩:=Ql.mp hx;exact(a.rest q hq).mp e
  subst e;obtain⟨q,hq,e⟩:=Ql.mp a.rin;refine⟨a.rin,?_⟩;rw[<-e];exact(a.rest q hq).mpr e
 unfold shB;rw[h1,h2,h3,h4,Xw a.zin,Xw h5];rfl
end
def xB (TL:Addr):Sp:=λvs H Q _=>∃a li lg ins gvs gs z,vs=[.ref a,.str z]/\NAt H a li lg ins gvs gs/\NetOk ins gs/\StOk (ao ins gs).length z/\fF TL d_ H /\
 (∀(r:Str) (xs:List Str) H',Tk TL H H'->Met ins gs z xs->fh ins gs z r->Q (.str r) H')/\(∀(xs:List Str) H',Tk TL H H'->Met ins gs z xs->(∀r,¬fh ins gs z r)->Q .non H')
def jf (TL:Addr):Sp:=λvs H Q _=>∃a li lg ins gvs gs z,vs=[.ref a,.str z]/\NAt H a li lg ins gvs gs/\NetOk ins gs/\StOk (ao ins gs).length z/\fF TL d_ H /\
 (∀(r:Str) (p:Addr) (bs:E4) (qs:List (Str × Int)) H',Tk TL H H'->H p=none->fh ins gs z r->lO ins gs z qs->qs.length<=128->DC H' p bs qs->Q (.ref p) H')/\(∀H',Tk TL H H'->(∀r,¬fh ins gs z r)->Q .non H')
theorem r_eqNil {K:PySem.W.Frag} (hl:H l=some (.lst us)) (q:∀H',am H H'->Q (.bl (us.length==0)) H'):wb eO U H λy H2=>sj K false (.ref l) y H2 Q:=by
 refine i_lst (aM ⟨by simp[sizeLine],λp hp=>?_⟩);refine⟨l,p,us,[],λ_=>true,rfl,rfl,SqL.of (ai hp _ _ hl),SqL.of af,(λj x y _ h=>by simp at h),?_⟩;rw[QA Qk,show (us.length==([]:List V).length&&(List.range us.length).all λ_=>true)=(us.length==0) by simp];exact q _ (ai hp)
theorem wT {tl:TE} (q:tl U H λx H1=>∃a kvs,x=.ref a/\H1 a=some (.dK kvs)/\∀r,H1 r=none->Q (.ref r) (upd H1 r (c6 (nt a)))):tX tl U H Q:=q
section
theorem iE:FnScope ["net", "standing", "found", "rests"] ["net", "standing"] (az (top 33)):=by fin2
variable {f TL:Addr}
theorem zq {fd:FuncData} (Fu:Fun K "one_rest" "one_rest" (top 33) f fd) (T:Txt K mg TT) (f_check_standing:Fn P w K mg base "check_standing" ["net", "thing"] 3 (lY .non)) (f_steps_found:Fn P w K mg base "steps_found" ["net", "standing"] 15 (fJ TL)) (f_rests_in:Fn P w K mg base "rests_in" ["steps"] 1 fK) (f_most_switchings:Fn P w K mg base "most_switchings" ["found"] 2 pf) :
  FnOk P w K mg base CX0 16 f fd ["net", "standing"] (xB TL):=by
 have S:=iE;refine Fu.ok S (by room) (λcdv A outer s H vs Q E hr h=>?_);obtain⟨a,li,lg,ins,gvs,gs,z,rfl,NA,ok,st,tb,k1,k2⟩:=h;have hu:=dS hr;refine'⟨?_,?bb,?_⟩
 case bb =>
  walk_at "b";exact(bD (aY f_check_standing hr (aa (pv 0) (aa (pv 1) ae ag) ag)));exact aC 2 S.nd (aY f_steps_found hr (aa (pv 0) (aa (pv 1) ae ag) ag));exact aC 3 S.nd (aY f_rests_in hr (aa (pv 2) ae ag));exact(PW.pt (gN (aH iF (aF aJ (by rfl) T.n_len QG (aa (pv 3) ae ag)) ad (aO _)) (eP (mx (fQ hu (pv 1) (aY f_most_switchings hr (aa (pv 2) ae ag)))))));exact(aK c7);exact(aK (aB aI (pv 3) ad))
 x_go;lk;refine⟨a,li,lg,ins,gvs,gs,z,rfl,NA,ok,st,λH0 S0=>?_⟩;have NA0:=NA.same S0;have tb0:=eM tb S0;lk;refine⟨a,li,lg,ins,gvs,gs,z,rfl,NA0,ok,st,tb0,λF as n H1 t1 hF0 ln las hF1 sts=>?_⟩;obtain⟨xs,exs,lxs,met,few⟩:=pS ok st ln;rw[exs]at hF1 sts;have t01:Tk TL H H1:=(Tk.of tb S0).trans t1;have sd:SD H1 F ins gs xs:=⟨as,.inl hF1,by omega,λi x b e1 e2=>sts i (Sum.inr x) b (cG.mpr ⟨x,e1,rfl⟩) e2⟩;lk;refine⟨F,xs,as,λh=>(au ins gs h).length,rfl,.inl hF1,by omega,few,met.nd,λi x b e1 e2=>?_,λRs ss H2 S2 hp pm so hp2=>?_⟩
 ·obtain⟨vs,h1,h2⟩:=sts i (Sum.inr x) b (cG.mpr ⟨x,e1,rfl⟩) e2;exact⟨vs,h1,by have:=aU h2;unfold stN c9 at this;rwa [Qa]at this⟩
 have t02:Tk TL H H2:=t01.trans (Tk.of t01.tab S2);obtain⟨ndr,rmem⟩:=ig met pm;generalize (ss.filter λh=>decide ((au ins gs h).length=0))=rs at *
 have non:∀{r},fh ins gs z r->rs=[r]/\∃n,cX ins gs z n:=λ{r} ⟨ys,m',h,l⟩=>by
  have:=met.one m';subst this;exact⟨gP ndr λx=>(rmem x).trans (h x),l⟩
 lk;rw[Qa];by_cases c1:rs.length=1
 ·refine ifF (by rw[c1];rfl) ?_;refine i_test (gX (ak rfl ?_));lk;refine⟨F,ins,gs,z,xs,rfl,sd.same S2,met,ok,λN ps H3 S3 hN0 hN num=>?_⟩;have t03:Tk TL H H3:=t02.trans (Tk.of t02.tab S3);have dg:c8 H3 N (.str z) (bw (eB ps) (Sum.inr z)):=.inl ⟨_,Sum.inr z,.inl hN,rfl,rfl⟩;refine⟨N,_,rfl,dg,_,rfl,?_⟩;by_cases c2:z∈ps.map (·.1)
  ·refine ifF ?_ ?_
   ·cases q:bw (eB ps) (Sum.inr z) with
    | none=>exact absurd c2 (eA.mp q)
    | some _=>rfl
   obtain⟨r,er⟩:∃r,rs=[r]:=List.length_eq_one_iff.mp c1;subst er;lk;refine bB (SqL.of (S3 _ _ hp2)) (bU (j:=0) rfl) (k1 r xs H3 t03 met ⟨xs,met,λx=>(rmem x).symm.trans QI,(num.long_of met met.start).mp c2⟩)
  refine ifT (by rw[eA.mpr c2];rfl) ?_;lk;exact k2 xs H3 t03 met λr o=>c2 ((num.long_of met met.start).mpr (non o).2)
 refine ifT (by simpa using λz=>c1 (by omega)) ?_;lk;exact k2 xs H2 t02 met λr o=>c1 (by rw[(non o).1];rfl)
theorem f8:FnScope ["net", "standing", "found", "numbers"] ["net", "standing"] (az (top 34)):=by fin2
theorem sI {fd:FuncData} (Fu:Fun K "rest_paper" "rest_paper" (top 34) f fd) (T:Txt K mg TT) (f_check_standing:Fn P w K mg base "check_standing" ["net", "thing"] 3 (lY .non)) (f_steps_found:Fn P w K mg base "steps_found" ["net", "standing"] 15 (fJ TL)) (f_rests_in:Fn P w K mg base "rests_in" ["steps"] 1 fK) (f_most_switchings:Fn P w K mg base "most_switchings" ["found"] 2 pf) :
  FnOk P w K mg base CX0 16 f fd ["net", "standing"] (jf TL):=by
 have S:=f8;refine Fu.ok S (by room) (λcdv A outer s H vs Q E hr h=>?_);obtain⟨a,li,lg,ins,gvs,gs,z,rfl,NA,ok,st,tb,k1,k2⟩:=h;have hu:=dS hr;refine'⟨?_,?bb,?_⟩
 case bb =>
  walk_at "b";exact(bD (aY f_check_standing hr (aa (pv 0) (aa (pv 1) ae ag) ag)));exact aC 2 S.nd (aY f_steps_found hr (aa (pv 0) (aa (pv 1) ae ag) ag));exact aC 3 S.nd (aY f_most_switchings hr (aa (pv 2) ae ag));exact(PW.pt (gN (aH iF (aF aJ (by rfl) T.n_len QG (aa (aY f_rests_in hr (aa (pv 2) ae ag)) ae se_call)) ad (aO _)) (eP (mx (fQ hu (pv 1) (pv 3))))));exact(aK c7);exact(aK (aF (qt rfl) (by rfl) T.n_sorted PyProof.Rows.boot_sorted (aa (uA (pv 3)) ae se_call)))
 x_go;lk;refine⟨a,li,lg,ins,gvs,gs,z,rfl,NA,ok,st,λH0 S0=>?_⟩;have NA0:=NA.same S0;have tb0:=eM tb S0;lk;refine⟨a,li,lg,ins,gvs,gs,z,rfl,NA0,ok,st,tb0,λF as n H1 t1 hF0 ln las hF1 sts=>?_⟩;obtain⟨xs,exs,lxs,met,few⟩:=pS ok st ln;rw[exs]at hF1 sts;have t01:Tk TL H H1:=(Tk.of tb S0).trans t1;have sd:SD H1 F ins gs xs:=⟨as,.inl hF1,by omega,λi x b e1 e2=>sts i (Sum.inr x) b (cG.mpr ⟨x,e1,rfl⟩) e2⟩;lk;refine⟨F,ins,gs,z,xs,rfl,sd,met,ok,λN ps H2 S2 hN0 hN num=>?_⟩;obtain⟨as2,r2,las2,sts2⟩:=sd.same S2;lk;refine⟨F,xs,as2,λh=>(au ins gs h).length,rfl,r2,las2,few,met.nd,λi x b e1 e2=>?_,λRs ss H3 S3 hp pm so hp2=>?_⟩
 ·obtain⟨vs,h1,h2⟩:=sts2 i x b e1 e2;exact⟨vs,h1,by have:=aU h2;unfold c9 at this;rwa [Qa]at this⟩
 have t03:Tk TL H H3:=(t01.trans (Tk.of t01.tab S2)).trans (Tk.of (eM t01.tab S2) S3);obtain⟨ndr,rmem⟩:=ig met pm;generalize (ss.filter λh=>decide ((au ins gs h).length=0))=rs at *
 have non:∀{r},fh ins gs z r->rs=[r]/\∃n,cX ins gs z n:=λ{r} ⟨ys,m',h,l⟩=>by
  have:=met.one m';subst this;exact⟨gP ndr λx=>(rmem x).trans (h x),l⟩
 have hN3:=S3 _ _ hN;lk;rw[Qa];by_cases c1:rs.length=1
 case neg =>
  refine ifT (by simpa using λz=>c1 (by omega)) ?_;lk;exact k2 H3 t03 λr o=>c1 (by rw[(non o).1];rfl)
 refine ifF (by rw[c1];rfl) ?_;have dg:c8 H3 N (.str z) (bw (eB ps) (Sum.inr z)):=.inl ⟨_,Sum.inr z,.inl hN3,rfl,rfl⟩;refine i_test (gX (ak rfl (ak rfl ⟨N,_,rfl,dg,_,rfl,?_⟩)));by_cases c2:z∈ps.map (·.1)
 case neg =>
  refine ifT (by rw[eA.mpr c2];rfl) ?_;lk;exact k2 H3 t03 λr o=>c2 ((num.long_of met met.start).mpr (non o).2)
 refine ifF ?_ ?_
 ·cases q:bw (eB ps) (Sum.inr z) with
  | none=>exact absurd c2 (eA.mp q)
  | some _=>rfl
 obtain⟨r,er⟩:∃r,rs=[r]:=List.length_eq_one_iff.mp c1;subst er
 have lps:ps.length<=xs.length:=by
  have:=Bf.pigeon (ps.map (·.1)) xs num.nd λx hx=>by
   obtain⟨p,hp,rfl⟩:=Ql.mp hx;exact num.sub p hp
  rwa [Qa]at this
 have f7:=met.few7 ok;refine s_ret (i_cb (aq (wT (ak rfl ⟨N,_,rfl,hN3,λv hv=>aM ?_⟩))));ctx_has H3 v H4 S4 q4 aG hv;refine⟨v,N,ps.map λ(p:Str × Nat)=>((p.1,(p.2:Int)):Str × Int),rfl,q4,S4 _ _ hN3,by rw[Qa];omega,λe=>?_,λp bs kf H5 S5 hp5 pm5 so5 tup hl=>?_⟩
 ·rw[List.map_eq_nil_iff]at e;rw[e]at c2;cases c2
 have t04:=t03.trans (Tk.of t03.tab S4);have lb:=pm5.length_eq;rw[Qa,Qa]at lb;refine k1 r p bs (bs.map kf) H5 (t04.trans (Tk.of t04.tab S5)) (t04.free hp5) ⟨xs,met,λx=>(rmem x).symm.trans QI,(num.long_of met met.start).mp c2⟩ ⟨xs,ps,met,num,pm5,List.pairwise_map.mpr so5⟩ (by rw[Qa];omega) ⟨hl,by rw[Qa],λi b q e1 e2=>?_⟩;rw[Qi,e1]at e2;cases e2;exact tup b (Qj e1)
end
def uc:Sp:=λvs H Q _=>∃(F:Addr) (ins:List Str) (gs:E5) (z:Str) (ys xs:List Str) (ls:E4),vs=[.ref F,.str z]/\WD H F ins gs ys ls/\Met ins gs z xs/\NetOk ins gs/\ys.Perm xs /\
 (∀r H',am H H'->fh ins gs z r->Q (.str r) H')/\(∀H',am H H'->(∀r,¬fh ins gs z r)->Q .non H')
section
theorem pA:FnScope ["ways", "standing", "rest"] ["ways", "standing"] (az (top 54)):=by fin2
theorem wF {f:Addr} {fd:FuncData} (Fu:Fun K "_law_one" "_law_one" (top 54) f fd) (T:Txt K mg TT) (f_law_levels:Fn P w K mg base "_law_levels" ["ways", "standing"] 1 nJ):FnOk P w K mg base CX0 2 f fd ["ways", "standing"] uc:=by
 have S:=pA;refine Fu.ok S (by room) (λcdv A outer s H vs Q E hr h=>?_);obtain⟨F,ins,gs,z,ys,xs,ls,rfl,wd,met,ok,pm,k1,k2⟩:=h;have hu:=dS hr;refine'⟨?_,?bb,?_⟩
 case bb =>
  walk_at "b";exact(xK (j:=2) S.nd rfl (by z_go) (tgs:=["one"]) (cap:=[("ways", 0)]) rfl ⟨rfl,rfl,rfl,rfl,rfl,rfl⟩ (b8 (aF (jX rfl) (by rfl) T.n_sorted PyProof.Rows.boot_sorted (aa (pv 0) ae ag))) (λ_ _ _ _=>(di (i:=0) (show List.Nodup [("one" : Str),("ways" : Str)] by decide +kernel) rfl (by z_go))) (λ_ _ _ _=>(oh (aH (ww (K:=K) rfl hr.units) (cu hu (pv 1) (pv 0)) (bo ae) (aO _)))) (λ_ _ _ _=>(pv 0)));exact(PW.pt (gN (aH uH (aY f_law_levels hr (aa (pv 0) (aa (pv 1) ae ag) ag)) c7 rfl) (eP (aH iF (aF aJ (by rfl) T.n_len QG (aa (pv 2) ae ag)) ad (aO _)))));exact(aK c7);exact(aK (aB aI (pv 2) ad))
 x_go;have few:=met.few7 ok;obtain⟨hF,lls,hls⟩:=id wd;have lys:=pm.length_eq;have ndy:=pm.nodup_iff.mpr met.nd;kt_k;refine bI (cN (s_list (i_cb (aq (ak rfl (aM ⟨F,ys,rfl,vz (.inl hF) lls,by omega,λp ss hp pm2 so=>?_⟩))))));ctx_has H p H1 S1 q1 aG hp;have lss:=pm2.length_eq;refine⟨p,rfl,⟨_,SqL.of q1⟩,λL hL=>?_⟩;let I37:IvC:=λm H' us=>am H1 H'/\H' L=some (.lst us)/\us=((ss.take m).filter λh=>decide ((au ins gs h).length=0)).map V.str;refine jR (xs:=ss.map V.str) I37 ⟨ai hL,af,by simp⟩ (λm H' ys p=>⟨p.2.1,SqL.of (p.1 _ _ q1)⟩) (λm v H' us e p=>?_) (λH2 us p=>?_)
 ·obtain⟨Sm,hd,rfl⟩:=p;rw[Qi]at e
  cases ex:ss[m]? with
  | none=>rw[ex]at e;cases e
  | some x =>
  rw[ex]at e;cases e;have hm:m<ss.length:=(Qe.mp ex).1;obtain⟨i,hi,exi⟩:=Qq.mp (pm2.mem_iff.mp (Qj ex));have e1:ys[i]?=some x:=by rw[Qd hi,exi]
  obtain⟨b,e2⟩:∃b,ls[i]?=some b:=⟨_,Qd (by omega)⟩;have S0m:=S1.trans Sm;refine aA ⟨by repeat' (first|exact trivial|refine⟨rfl,?_⟩),?_⟩;refine i_test (bE (i_dget (ak rfl (ak rfl ⟨F,_,rfl,eW (.inl (S0m _ _ hF)) ndy e1 e2,r_eqNil (S0m _ _ (hls i x b e1 e2)) λH3 S3=>⟨_,rfl,?_⟩⟩))));have tk:(ss.take (m+1)).filter (λh=>decide ((au ins gs h).length=0))=(ss.take m).filter (λh=>decide ((au ins gs h).length=0))++[x].filter (λh=>decide ((au ins gs h).length=0)):=by rw[Q6,ex,List.filter_append];rfl
  have ln:((nxS ins gs x).map V.str).length=(au ins gs x).length:=by unfold nxS;rw[Qa,Qa]
  rw[ln];by_cases c:(au ins gs x).length=0
  ·refine ifT (by rw[c];rfl) ?_;refine ak rfl (cA.mk (S3 _ _ hd) (by rw[Qa];exact hm) ?_ ⟨ba (Sm.trans S3) hL,af,?_⟩)
   ·rw[Qa];have:=List.length_filter_le (λh=>decide ((au ins gs h).length=0)) (ss.take m);rw[Qs]at this;omega
   rw[tk,Qx,List.filter_cons_of_pos (by simpa using c)];rfl
  refine ifF (by simpa using c) ?_;rw[Qa];refine⟨ss.length-(m+1),by omega,rfl,by omega,Sm.trans S3,S3 _ _ hd,?_⟩;rw[tk,List.filter_cons_of_neg (by simpa using c),List.filter_nil,Xm]
 obtain⟨Sm,hd,rfl⟩:=p;rw[Qa,Qw (Qf _)]at hd;obtain⟨ndr,rmem⟩:=ig met (pm2.trans pm);generalize (ss.filter λh=>decide ((au ins gs h).length=0))=rs at *;have S02:=S1.trans Sm
 have non:∀{r},fh ins gs z r->rs=[r]/\∃n,cX ins gs z n:=λ{r} ⟨ys,m',h,l⟩=>by
  have:=met.one m';subst this;exact⟨gP ndr λx=>(rmem x).trans (h x),l⟩
 refine aA ?_;kt_k;kt_k;kt_k;refine i_test (bE (i_call (aq (ak rfl (aq (ak rfl (aM ⟨F,ins,gs,z,ys,xs,ls,rfl,⟨S02 _ _ hF,lls,λi y l e1 e2=>S02 _ _ (hls i y l e1 e2)⟩,met,ok,pm,λd H3 S3 lg=>?_,λH3 S3 no=>?_⟩)))))))
 ·refine i_c ⟨rfl,⟨_,rfl,ifF rfl ?_⟩⟩;refine i_test (bE (i_cb (aq (ak rfl (aM ⟨L,_,rfl,.inl (SqL.of (S3 _ _ hd)),i_c (i_ne rfl ⟨_,rfl,?_⟩)⟩)))));rw[Qa];by_cases c:rs.length=1
  ·refine ifF (by rw[c];rfl) ?_;kt_k;obtain⟨r,er⟩:∃r,rs=[r]:=List.length_eq_one_iff.mp c;subst er;exact s_ret (bE (ak rfl (i_c (bB (SqL.of (S3 _ _ hd)) (bU (j:=0) rfl) (k1 r H3 (S02.trans S3) ⟨xs,met,λx=>(rmem x).symm.trans QI,lg⟩)))))
  refine ifT (by simpa using λz=>c (by omega)) ?_;exact s_ret (i_c (k2 H3 (S02.trans S3) λr o=>c (by rw[(non o).1];rfl)))
 refine i_c ⟨rfl,⟨_,rfl,ifT rfl ?_⟩⟩;exact s_ret (i_c (k2 H3 (S02.trans S3) λr o=>no (non o).2))
end
theorem r8 {K:PySem.W.Frag} {t:Value} (h:TyOf K H v t) (S:am H H'):TyOf K H' v t:=by
 cases h with
 | non=>exact .non
 | bl x=>exact .bl x
 | int i=>exact .int i
 | str x=>exact .str x
 | flt x=>exact .flt x
 | lst e=>exact .lst (S _ _ e)
 | frz e=>exact .frz (S _ _ e)
 | tup e=>exact .tup (S _ _ e)
 | dK e=>exact .dK (S _ _ e)
 | dT e=>exact .dT (S _ _ e)
 | ins e cl ha hn htk hm=>exact .ins (S _ _ e) cl ha hn htk hm
def lP (K:PySem.W.Frag) (H:Hp) (v:V):Prop:=∃t,TyOf K H v t/\PySem.W.kitOne K t (.type "str")=some false
theorem lP.same {K:PySem.W.Frag} (h:lP K H v) (S:am H H'):lP K H' v:=let ⟨t,a,b⟩:=h;⟨t,r8 a S,b⟩
def fZ (K:PySem.W.Frag) (H:Hp) (n:Nat) (v:V):Prop:=lP K H v\/∃z:Str,v=.str z/\z.length<=1000/\(z.length≠n\/∃j,j<z.length/\z.cps.getD j 0≠48/\z.cps.getD j 0≠49)
theorem fZ.same {K:PySem.W.Frag} (h:fZ K H n v) (S:am H H'):fZ K H' n v:=h.imp (·.same S) id
def nO (K:PySem.W.Frag) (C:Addr):Sp:=λvs H Q E=>∃a li lg ins gvs gs v,vs=[.ref a,v]/\NAt H a li lg ins gvs gs/\NetOk ins gs/\fZ K H (ao ins gs).length v/\∀H' e,dw C H H' e->E (.ref C) (some e) H'
theorem w9 (h:z.length≠n\/∃j,j<z.length/\z.cps.getD j 0≠48/\z.cps.getD j 0≠49):stB n z=false:=by
 refine Bool.eq_false_iff.mpr λq=>?_;have st:=lU.mp q;rcases h with h|⟨j,hj,h0,h1⟩
 ·exact h st.len
 have hj':j<z.cps.size:=hj;have e:z.cps.getD j 0=z.cps[j]'hj':=by unfold Array.getD;rw[dif_pos hj',Array.getInternal_eq_getElem]
 rcases st.signs (z.cps[j]'hj') (by rw[<-Array.getElem_toList];exact Xr _) with q|q
 ·exact h0 (by rw[e,q])
 exact h1 (by rw[e,q])
def pd (K:PySem.W.Frag):Sp:=λvs H Q _=>∃(v:V) (m:Nat),vs=[v,.int (m:Int)]/\lP K H v/\∀H',am H H'->Q (.bl false) H'
def we (K:PySem.W.Frag):Sp:=λvs H Q _=>∃a li lg ins gvs gs v,vs=[.ref a,v]/\NAt H a li lg ins gvs gs/\NetOk ins gs/\lP K H v/\∀H',am H H'->Q (.bl false) H'
def lW (K:PySem.W.Frag):Sp:=λvs H Q _=>∃a li lg ins gvs gs v,vs=[.ref a,v]/\NAt H a li lg ins gvs gs/\NetOk ins gs/\fZ K H (ao ins gs).length v/\∀H',am H H'->Q (.bl false) H'
variable {sp sp':Sp} {fd:FuncData}
theorem FnOk.sub {P:Program} {w:World} {K:PySem.W.Frag} {mg:E3} {base:Heap} {CX:CXT} {k:Nat} {ps:List Str} (F:FnOk P w K mg base CX k f fd ps sp) (h:∀vs H Q E,sp' vs H Q E->sp vs H Q E):FnOk P w K mg base CX k f fd ps sp' :=
 ⟨λvs H Q E q=>F.len vs H Q E (h vs H Q E q),λA outer s H args us vs Q E hr e0 hb r q=>F.run A outer s H args us vs Q E hr e0 hb r (h vs H Q E q)⟩
theorem FnOk.either {P:Program} {w:World} {K:PySem.W.Frag} {mg:E3} {base:Heap} {CX:CXT} {k:Nat} {ps:List Str} (F:FnOk P w K mg base CX k f fd ps sp) (G:FnOk P w K mg base CX k f fd ps sp'):FnOk P w K mg base CX k f fd ps (λvs H Q E=>sp vs H Q E\/sp' vs H Q E) :=
 ⟨λvs H Q E q=>q.elim (F.len vs H Q E) (G.len vs H Q E),λA outer s H args us vs Q E hr e0 hb r q=>q.elim (F.run A outer s H args us vs Q E hr e0 hb r) (G.run A outer s H args us vs Q E hr e0 hb r)⟩
theorem FnOk.cx1 {P:Program} {w:World} {K:PySem.W.Frag} {mg:E3} {base:Heap} {k:Nat} {ps:List Str} (F:FnOk P w K mg base CX0 k f fd ps sp):FnOk P w K mg base (CX1 P w) k f fd ps (λvs H Q _=>sp vs H Q E0) :=
 ⟨fun vs H Q E q=>F.len vs H Q E0 q,fun A outer s H args us vs Q E hr e0 hb r q=>codeAny_mono (F.run A outer s H args us vs Q E0 hr e0 hb r q) fun rr s' z=>by
  cases rr with
  | ok fl=>cases fl <;> exact z
  | error e=>exact z.elim⟩
def nN (K:PySem.W.Frag) (c0:Addr):Sp:=λvs H Q E=>lY .non vs H Q E0\/nO K c0 vs H Q E
def hX (K:PySem.W.Frag) (C:Addr):Sp:=λvs H Q E=>∃a li lg ins gvs gs v,vs=[.ref a,v]/\NAt H a li lg ins gvs gs/\NetOk ins gs/\fZ K H (ao ins gs).length v/\∀H' e,dw C H H' e->E (.ref C) (some e) H'
def ue (K:PySem.W.Frag) (C:Addr):Sp:=λvs H Q E=>∃a li lg ins gvs gs v x y,vs=[.ref a,v,x,y]/\NAt H a li lg ins gvs gs/\NetOk ins gs/\fZ K H (ao ins gs).length v/\∀H' e,dw C H H' e->E (.ref C) (some e) H'
section
variable {fd:FuncData} {f C0 NE:Addr}
theorem wC (Fu:Fun K "is_row" "is_row" (top 12) f fd) (T:Txt K mg TT):FnOk P w K mg base CX0 1 f fd ["thing", "many"] (pd K):=by
 have S:=k_;refine Fu.ok S (by room) (λcdv A outer s H vs Q E hr h=>?_);obtain⟨v,m,rfl,⟨t,ty,kt⟩,k⟩:=h
 refine⟨_,(aN (ps_if (PW.pt (gN (gt (fm (aF fD (by rfl) T.n_isinstance Q0 (aa (pv 0) (aa (iX (v:=.ty "str") (by rfl) T.n_str PyProof.Rows.boot_str rfl) ae))))) (eP (aH iF (aF du (by rfl) T.n_len QG (aa (pv 0) ae)) (pv 1) (aO _))))) (aR (aK f_)) pss_nil)
  (aR (aK (aF (oS rfl) (by rfl) T.n_all PyProof.Rows.boot_all (aa (f9 "sign" [] (uv (pv 0)) (λ_ _ _ _=>(dq (lm T.tab) (pv 0) (dj (v:=.ref TT) (by rfl) T.tURNED rfl) rfl))) ae))))),?_⟩
 x_go;lk;refine⟨_,_,_,_,rfl,ty,kt,?_⟩;refine⟨_,rfl,cT ?_⟩;lk;exact k H (am.refl _)
theorem uU (Fu:Fun K "is_standing" "is_standing" (top 15) f fd) (T:Txt K mg TT) (f_is_row:Fn P w K mg base "is_row" ["thing", "many"] 1 (pd K)):FnOk P w K mg base CX0 2 f fd ["net", "thing"] (we K):=by
 have S:=fj;refine Fu.ok S (by room) (λcdv A outer s H vs Q E hr h=>?_);obtain⟨a,li,lg,ins,gvs,gs,v,rfl,NA,ok,st,k⟩:=h;obtain⟨ha,hi,hg,gts⟩:=id NA;refine⟨_,(aR (aK (aY f_is_row hr (aa (pv 1) (aa (ap aW (aF aJ (by rfl) T.n_len QG (aa (aB a_ (pv 0) ad) ae)) (aF aJ (by rfl) T.n_len QG (aa (aB a_ (pv 0) ad) ae))) ae))))),?_⟩;x_go
 have hz:(ao ins gs).length=ins.length+gs.length:=by
  unfold ao;rw[Qg,Qa]
 have lg:=aU NA.gates;lk;refine⟨v,(ao ins gs).length,?_,st,λH' Sm=>k H' Sm⟩;rw[Qa,lg,hz];rfl
theorem uT (Fu:Fun K "is_standing" "is_standing" (top 15) f fd) (T:Txt K mg TT) (fN:Fn P w K mg base "is_row" ["thing", "many"] 1 (pd K)) (fR:Fn P w K mg base "is_row" ["thing", "many"] 1 ua):FnOk P w K mg base CX0 2 f fd ["net", "thing"] (lW K) :=
 FnOk.sub (FnOk.either (uU Fu T fN) (rc Fu T fR)) λvs H Q E h=>by
  obtain⟨a,li,lg,ins,gvs,gs,v,rfl,NA,ok,st,k⟩:=h;rcases st with st|⟨z,rfl,zl,hb⟩
  ·exact .inl ⟨a,li,lg,ins,gvs,gs,v,rfl,NA,ok,st,k⟩
  exact .inr ⟨a,li,lg,ins,gvs,gs,z,rfl,NA,ok,zl,by rw[w9 hb];exact k⟩
theorem sO (Fu:Fun K "check_standing" "check_standing" (top 16) f fd) (T:Txt K mg TT) (N0:ExcB K mg "NoStanding" C0 NE) (f_is_standing:Fn P w K mg base "is_standing" ["net", "thing"] 2 (lW K)):FnOk P w K mg base (CX1 P w) 3 f fd ["net", "thing"] (nO K C0):=by
 have S:=dP;obtain⟨oc,od,kV,doc,pm,an,cdv,ct,osl,rfl,lk,hcd⟩:=Fu.ex;refine jN lk hcd S (λvs H Q E h=>?_) (λA outer s H vs Q E hr h=>?_)
 ·obtain⟨a,li,lg,ins,gvs,gs,z,rfl,_⟩:=h;rfl
 obtain⟨a,li,lg,ins,gvs,gs,v,rfl,NA,ok,st,k⟩:=h;refine⟨_,(aR (ps_if (gt (fm (aY f_is_standing hr (aa (pv 0) (aa (pv 1) ae))))) (aR (uk (R:=λe d H1=>E (.ref C0) (some e) (upd H1 e (XO e C0 d false))) N0.xm rfl (su N0.xm N0.init (by rfl) N0.m (aa aP ae)) (λ_ _ _ _ _ _ I eo r=>rX I eo r))) pss_nil)),?_⟩;x_go;lk;refine⟨a,li,lg,ins,gvs,gs,v,rfl,NA,ok,st,λH' Sm=>⟨_,rfl,cT ?_⟩⟩;refine vm (aq (i_c (aM ⟨by simp[sizeLine],λx hx=>⟨x,none,rfl,af,k _ x ⟨λb o e=>?_,af⟩⟩⟩)));have nbx:b≠x:=λz=>by rw[z]at e;rw[Sm _ _ e]at hx;cases hx
 rw[aj nbx,aj nbx];exact Sm _ _ e
theorem zt (Fu:Fun K "check_standing" "check_standing" (top 16) f fd) (T:Txt K mg TT) (N0:ExcB K mg "NoStanding" C0 NE) (f_is_standing:Fn P w K mg base "is_standing" ["net", "thing"] 2 lX) (hi:Fn P w K mg base "is_standing" ["net", "thing"] 2 (lW K)):FnOk P w K mg base (CX1 P w) 3 f fd ["net", "thing"] (nN K C0) :=
 FnOk.either (FnOk.cx1 (oo Fu T f_is_standing)) (sO Fu T N0 hi)
theorem sQ (Fu:Fun K "one_rest" "one_rest" (top 33) f fd) (T:Txt K mg TT) (fc:Fn1 P w K mg base "check_standing" ["net", "thing"] 3 (nN K C0)):FnOk P w K mg base (CX1 P w) 16 f fd ["net", "standing"] (hX K C0):=by
 have S:=iE;obtain⟨oc,od,kV,doc,pm,an,cdv,ct,osl,rfl,lk,hcd⟩:=Fu.ex;refine jN lk hcd S (λvs H Q E h=>?_) (λA outer s H vs Q E hr h=>?_)
 ·obtain⟨a,li,lg,ins,gvs,gs,v,rfl,_⟩:=h;rfl
 obtain⟨a,li,lg,ins,gvs,gs,v,rfl,NA,ok,st,k⟩:=h;refine⟨_,(aN (bD (mC fc (hr.mono (by first|decide|omega)) (by rfl) iY (aa (pv 0) (aa (pv 1) ae)))) d9),?_⟩;walk_at "d";refine s_seq (i_call (aq (ak rfl (aq (ak rfl (aM ?_))))));exact .inr ⟨a,li,lg,ins,gvs,gs,v,rfl,NA,ok,st,k⟩
theorem sP (Fu:Fun K "rest_paper" "rest_paper" (top 34) f fd) (T:Txt K mg TT) (fc:Fn1 P w K mg base "check_standing" ["net", "thing"] 3 (nN K C0)):FnOk P w K mg base (CX1 P w) 16 f fd ["net", "standing"] (hX K C0):=by
 have S:=f8;obtain⟨oc,od,kV,doc,pm,an,cdv,ct,osl,rfl,lk,hcd⟩:=Fu.ex;refine jN lk hcd S (λvs H Q E h=>?_) (λA outer s H vs Q E hr h=>?_)
 ·obtain⟨a,li,lg,ins,gvs,gs,v,rfl,_⟩:=h;rfl
 obtain⟨a,li,lg,ins,gvs,gs,v,rfl,NA,ok,st,k⟩:=h;refine⟨_,(aN (bD (mC fc (hr.mono (by first|decide|omega)) (by rfl) iY (aa (pv 0) (aa (pv 1) ae)))) d9),?_⟩;walk_at "d";refine s_seq (i_call (aq (ak rfl (aq (ak rfl (aM ?_))))));exact .inr ⟨a,li,lg,ins,gvs,gs,v,rfl,NA,ok,st,k⟩
theorem iM:FnScope ["net", "standing", "found", "rests", "numbers"] ["net", "standing"] (az (top 40)):=by fin2
theorem pK (Fu:Fun K "told_parting" "told_parting" (top 40) f fd) (T:Txt K mg TT) (fc:Fn1 P w K mg base "check_standing" ["net", "thing"] 3 (nN K C0)):FnOk P w K mg base (CX1 P w) 16 f fd ["net", "standing"] (hX K C0):=by
 have S:=iM;obtain⟨oc,od,kV,doc,pm,an,cdv,ct,osl,rfl,lk,hcd⟩:=Fu.ex;refine jN lk hcd S (λvs H Q E h=>?_) (λA outer s H vs Q E hr h=>?_)
 ·obtain⟨a,li,lg,ins,gvs,gs,v,rfl,_⟩:=h;rfl
 obtain⟨a,li,lg,ins,gvs,gs,v,rfl,NA,ok,st,k⟩:=h;refine⟨_,(aN (bD (mC fc (hr.mono (by first|decide|omega)) (by rfl) iY (aa (pv 0) (aa (pv 1) ae)))) d9),?_⟩;walk_at "d";refine s_seq (i_call (aq (ak rfl (aq (ak rfl (aM ?_))))));exact .inr ⟨a,li,lg,ins,gvs,gs,v,rfl,NA,ok,st,k⟩
theorem oq (Fu:Fun K "rest_shows" "rest_shows" (top 38) f fd) (T:Txt K mg TT) (fc:Fn1 P w K mg base "check_standing" ["net", "thing"] 3 (nN K C0)):FnOk P w K mg base (CX1 P w) 16 f fd ["net", "standing", "rest", "paper"] (ue K C0):=by
 have S:=kH;obtain⟨oc,od,kV,doc,pm,an,cdv,ct,osl,rfl,lk,hcd⟩:=Fu.ex;refine jN lk hcd S (λvs H Q E h=>?_) (λA outer s H vs Q E hr h=>?_)
 ·obtain⟨a,li,lg,ins,gvs,gs,v,x,y,rfl,_⟩:=h;rfl
 obtain⟨a,li,lg,ins,gvs,gs,v,x,y,rfl,NA,ok,st,k⟩:=h;refine⟨_,(aN (bD (mC fc (hr.mono (by first|decide|omega)) (by rfl) iY (aa (pv 0) (aa (pv 1) ae)))) d9),?_⟩;walk_at "d";refine s_seq (i_call (aq (ak rfl (aq (ak rfl (aM ?_))))));exact .inr ⟨a,li,lg,ins,gvs,gs,v,rfl,NA,ok,st,k⟩
end
def nM (c0 CS:Addr):Sp:=λvs H Q _=>∃(e C:Addr) (i due:Nat),vs=[.ref e,.int (due:Int)]/\Held6 C H e/\((C=c0/\i=0)\/(C=CS/\i=1))/\due<=1/\∀H',am H H'->Q (.bl (decide (i=due))) H'
theorem tm {K:PySem.W.Frag} {as bs:List Bool} {b:Bool} (h1:H p=some (.lst (as.map V.bl))) (h2:H q=some (.lst (bs.map V.bl))) (hl:as.length=bs.length) (hb:((List.range as.length).all λj=>as.getD j false==bs.getD j false)=b) (k:Q (.bl b) H):sj K false (.ref p) (.ref q) H Q:=by
 refine⟨p,q,_,_,λj=>as.getD j false==bs.getD j false,rfl,rfl,SqL.of h1,SqL.of h2,λj x y e1 e2=>?_,?_⟩
 ·rw[Qi]at e1 e2;obtain⟨u,hu,rfl⟩:=Option.map_eq_some_iff.mp e1;obtain⟨v,hv,rfl⟩:=Option.map_eq_some_iff.mp e2;have h:=EqD.flat (K:=K) (H:=H) (n:=8) (x:=.bl u) (y:=.bl v) rfl rfl;have e:eqV (.bl u) (.bl v)=(u==v):=by cases u <;> cases v <;> rfl
  rw[e]at h;show EqD K H 8 _ _ (as.getD j false==bs.getD j false);rw[QR,QR,hu,hv];exact h
 rw[QA (by decide),Qa,Qa,hl,beq_self_eq_true,Bool.true_and,<-hl,hb];exact k
section
theorem ma:FnScope ["caught", "due", "kinds"] ["caught", "due"] (az (top 56)):=by fin2
theorem sM {f:Addr} {fd:FuncData} (Fu:Fun K "_law_kinds" "_law_kinds" (top 56) f fd) (T:Txt K mg TT) {CS NE c0 c2 c3 c4 c5:Addr} (N:NmE mg CS NE) (KD:KindsM mg c0 c2 c3 c4 c5) (dst:c0≠CS/\c0≠c2/\c0≠c3/\c0≠c4/\c0≠c5/\CS≠c2/\CS≠c3/\CS≠c4/\CS≠c5) (Z:KinB K c0 NE c0 CS c2 c3 c4 c5) (W:KinB K CS NE c0 CS c2 c3 c4 c5):FnOk P w K mg base CX0 1 f fd ["caught", "due"] (nM c0 CS):=by
 have S:=ma;refine Fu.ok S (by room) (λcdv A outer s H vs Q E hr h=>?_);obtain⟨e,C,i,due,rfl,hd,hC,d1,k⟩:=h;obtain⟨n1,n2,n3,n4,n5,n6,n7,n8,n9⟩:=dst
 obtain⟨Y,hbs⟩:KinB K C NE c0 CS c2 c3 c4 c5/\[decide (C=c0),decide (C=CS),decide (C=c2),decide (C=c3),decide (C=c4),decide (C=c5)]=(List.range 6).map λj=>decide (j=i):=by
  rcases hC with⟨rfl,rfl⟩|⟨rfl,rfl⟩
  ·refine⟨Z,?_⟩;simp[n1,n2,n3,n4,n5,List.range_succ]
  refine⟨W,?_⟩;simp[n1.symm,n6,n7,n8,n9,List.range_succ]
 have i1:i<=1:=by rcases hC with⟨_,rfl⟩|⟨_,rfl⟩ <;> decide
 refine⟨_,(aN (aC 2 S.nd (bo (aa (aF bQ (by rfl) T.n_isinstance Q0 (aa (pv 0) (aa (dj (v:=.ref c0) (by rfl) KD.m0 rfl) ae))) (aa (aF bQ (by rfl) T.n_isinstance Q0 (aa (pv 0) (aa (dj (v:=.ref CS) (by rfl) N.mS rfl) ae))) (aa (aF bQ (by rfl) T.n_isinstance Q0 (aa (pv 0) (aa (dj (v:=.ref c2) (by rfl) KD.m2 rfl) ae))) ae)))))
  (aN (aC 2 S.nd (ap fu (pv 2) (bo (aa (aF bQ (by rfl) T.n_isinstance Q0 (aa (pv 0) (aa (dj (v:=.ref c3) (by rfl) KD.m3 rfl) ae))) (aa (aF bQ (by rfl) T.n_isinstance Q0 (aa (pv 0) (aa (dj (v:=.ref c4) (by rfl) KD.m4 rfl) ae))) (aa (aF bQ (by rfl) T.n_isinstance Q0 (aa (pv 0) (aa (dj (v:=.ref c5) (by rfl) KD.m5 rfl) ae))) ae))))))
  (aR (aK (mD (dq iZ (pv 0) c7 rfl) (mD (aF bQ (by rfl) T.n_isinstance Q0 (aa (pv 0) (aa (iX (v:=.ty "ValueError") (by rfl) KD.mV PyProof.Rows.Boot.«ValueError» rfl) ae))) (jv (dq (pF hr.units) (pv 2) (f9 "k" [("due", 1)] (bY (by rfl) T.n_range (aa ad ae)) (λ_ _ _ _=>(dq bZ (pv 0) (pv 1) (aO _)))) (aO _))))))))),?_⟩
 x_go;lk;refine gv hd Y.kl (.inl ⟨_,rfl⟩) Y.k0 ?_;lk;refine gv hd Y.kl (.inl ⟨_,rfl⟩) Y.k1 ?_;lk;refine gv hd Y.kl (.inl ⟨_,rfl⟩) Y.k2 ?_;lk;refine⟨by simp[sizeLine],λp hp=>?_⟩;ctx_has H p H1 S1 q1 aG hp;have hd1:=hd.same S1;lk;refine gv hd1 Y.kl (.inl ⟨_,rfl⟩) Y.k3 ?_;lk;refine gv hd1 Y.kl (.inl ⟨_,rfl⟩) Y.k4 ?_;lk;refine gv hd1 Y.kl (.inl ⟨_,rfl⟩) Y.k5 ?_;lk;refine⟨by simp[sizeLine],λp2 hp2=>?_⟩;ctx_has H1 p2 H2 S2 q2 aG hp2;refine iH (S2 _ _ q1) q2 (by simp[sizeLine]) λp3 hp3=>?_;ctx_has H2 p3 H3 S3 q3 aG hp3;have q3:H3 p3=some (.lst (((List.range 6).map λj=>decide (j=i)).map V.bl)):=by rw[q3,<-hbs];rfl
 have hd3:=hd1.same (S2.trans S3);have S03:=S1.trans (S2.trans S3);lk;refine⟨rfl,_,rfl,ifT (by simp) ?_⟩;lk;refine gv hd3 Y.kl (.inr ⟨_,rfl⟩) Y.kV ?_;refine⟨_,rfl,cT ?_⟩;refine bE (ak rfl (cN ?_));lk;refine⟨by decide,by decide,λD hD=>?_⟩;refine eX (n:=6) (λn H' ys=>am H3 H'/\H' D=some (.lst ys)/\ys=((List.range n).map λj=>decide (j=due)).map V.bl) ⟨ai hD,af,rfl⟩ (λi H' ys p=>p.2.1) (λi H' ys hi p=>?_) (λH' ys p=>?_)
 ·obtain⟨Sm,hl,rfl⟩:=p;refine aA ⟨⟨rfl,trivial⟩,i_yes (cT ?_)⟩;refine bE (ak rfl (ak rfl (i_eq rfl ?_)));refine cA.mk hl hi (by simp;omega) ⟨ba Sm hD,af,?_⟩;rw[List.range_succ,Qx,Qx];congr 1
  have:decide (V.int (0+(i:Nat))=V.int (due:Int))=decide (i=due):=by
   rw[decide_eq_decide]
   constructor
   ·intro h;injection h with h;omega
   intro h;subst h;simp
  simp[this]
  try omega
 obtain⟨Sm,hl,rfl⟩:=p;refine tm (b:=decide (i=due)) (Sm _ _ q3) hl (by simp) ?_ (k H' (S03.trans Sm));rcases hC with⟨_,rfl⟩|⟨_,rfl⟩
 ·rcases(by omega:due=0\/due=1) with rfl|rfl <;> rfl
 rcases(by omega:due=0\/due=1) with rfl|rfl <;> rfl
end
def qL (K:PySem.W.Frag):Sp:=λvs H Q _=>∃(way:Nat) (a li lg:Addr) (ins:List Str) (gvs:List V) (gs:E5) (v x y:V),vs=[.int (way:Int),.ref a,v,x,y]/\NAt H a li lg ins gvs gs/\NetOk ins gs/\way<=3/\fZ K H (ao ins gs).length v/\∀H',am H H'->Q (.bl true) H'
section
theorem jl:FnScope ["way", "net", "bad", "rest", "paper", "caught", "e"] ["way", "net", "bad", "rest", "paper"] (az (top 58)):=by fin2
theorem uR {f:Addr} {fd:FuncData} (Fu:Fun K "_law_refused" "_law_refused" (top 58) f fd) (T:Txt K mg TT) {CS NE c0 c2 c3 c4 c5:Addr} (N:NmE mg CS NE) (Z:KinB K c0 NE c0 CS c2 c3 c4 c5) (f_one_rest:Fn1 P w K mg base "one_rest" ["net", "standing"] 16 (hX K c0)) (f_rest_paper:Fn1 P w K mg base "rest_paper" ["net", "standing"] 16 (hX K c0)) (f_told_parting:Fn1 P w K mg base "told_parting" ["net", "standing"] 16 (hX K c0)) (f_rest_shows:Fn1 P w K mg base "rest_shows" ["net", "standing", "rest", "paper"] 16 (ue K c0)) (f_law_kinds:Fn P w K mg base "_law_kinds" ["caught", "due"] 1 (nM c0 CS)):FnOk P w K mg base CX0 17 f fd ["way", "net", "bad", "rest", "paper"] (qL K):=by
 have S:=jl;refine Fu.ok S (by room) (λcdv A outer s H vs Q E hr h=>?_);obtain⟨way,a,li,lg,ins,gvs,gs,v,x,y,rfl,NA,ok,w3,bad,k⟩:=h
 refine⟨_,(aN (pE (i:=5) S.nd rfl (by z_go) c7)
  (aN (wm (i:=6) (uf (aH bZ (pv 0) ad (aO _)) (mw f_one_rest (hr.mono (by first|decide|omega)) (by rfl) (aa (pv 1) (aa (pv 2) ae))) (uf (aH bZ (pv 0) ad (aO _)) (mw f_rest_paper (hr.mono (by first|decide|omega)) (by rfl) (aa (pv 1) (aa (pv 2) ae))) (uf (aH bZ (pv 0) ad (aO _)) (mw f_told_parting (hr.mono (by first|decide|omega)) (by rfl) (aa (pv 1) (aa (pv 2) ae))) (mw f_rest_shows (hr.mono (by first|decide|omega)) (by rfl) (aa (pv 1) (aa (pv 2) (aa (pv 3) (aa (pv 4) ae)))))))) (by rfl) N.mE S.nd rfl (by rfl) (λ_=>(aR (aC 5 S.nd (pv 6)))) rfl)
  (aR (aK (aY f_law_kinds hr (aa (pv 5) (aa ad ae))))))),?_⟩
 x_go;kt_k;with_reducible refine bI ?_
 with_reducible refine i_c ?_
 kt_k;kt_k;with_reducible refine zS ?_
 generalize hTS:(λ(cls:Value) (ea:Option Addr) (H2:Hp)=>_)=EE
 have after:∀H' e,dw c0 H H' e->EE (.ref c0) (some e) H':=λH' e r=>by
  subst hTS;have S1:=r.1;have hd:=r.held;refine⟨e,rfl,Z.ex,?_⟩;refine bI (ak rfl (aA ?_));dsimp only;lk;refine⟨e,c0,0,0,rfl,hd,.inl ⟨rfl,rfl⟩,by decide,λH2 S2=>?_⟩;exact k H2 (S1.trans S2)
 clear hTS;refine vn ?_;lk
 have ne:∀{j:Nat},way≠j->decide (V.int (way:Int)=V.int (j:Int))=false:=λ{j} h=>by
  rw[decide_eq_false_iff_not];intro q;injection q with q;omega
 by_cases w0:way=0
 ·subst w0;refine ifT (by decide) (i5 ?_);lk;exact⟨a,li,lg,ins,gvs,gs,v,rfl,NA,ok,bad,after⟩
 refine ifF (ne w0) (vn ?_);lk;by_cases w1:way=1
 ·subst w1;refine ifT (by decide) (i5 ?_);lk;exact⟨a,li,lg,ins,gvs,gs,v,rfl,NA,ok,bad,after⟩
 refine ifF (ne w1) (vn ?_);lk;by_cases w2:way=2
 ·subst w2;refine ifT (by decide) (i5 ?_);lk;exact⟨a,li,lg,ins,gvs,gs,v,rfl,NA,ok,bad,after⟩
 refine ifF (ne w2) (i5 ?_);lk;exact⟨a,li,lg,ins,gvs,gs,v,x,y,rfl,NA,ok,bad,after⟩
end
theorem pY (a b:Str):(a++b).length=a.length+b.length:=by show (a.cps++b.cps).size=_;rw[Xd];rfl
theorem zD {z:Str} {j:Nat} (h:j<=z.length):(Txt.slice z none (some (j:Int))).length=j:=by
 have e:=congrArg List.length (gL (z:=z) (j:=j) h);rw[Qo,Qs,Qo]at e;have h':z.length=z.cps.size:=rfl;show (Txt.slice z none (some (j:Int))).cps.size=j;omega
theorem oD {z:Str} {j:Nat} (h:j<=z.length):(Txt.slice z (some (j:Int)) none).length=z.length-j:=by
 have e:=congrArg List.length (gk (z:=z) (a:=j) h);rw[Qo,Q4,Qo]at e;exact e
theorem u8 {c:Str} (hx:x.length<=100) (hz:z=(x++c)++y) (hc:c.length=1):z.cps.getD x.length 0=c.cps.getD 0 0:=by
 subst hz;have e:((x++c)++y).cps=(x.cps++c.cps)++y.cps:=rfl;rw[e];have h1:x.length=x.cps.size:=rfl;have h2:c.length=c.cps.size:=rfl;unfold Array.getD;simp only[Xd];rw[dif_pos (by omega),dif_pos (by omega)];rw[Array.getInternal_eq_getElem,Array.getInternal_eq_getElem,Array.getElem_append_left (by rw[Xd];omega),Array.getElem_append_right (by omega)];congr 1;omega
theorem mW {K:PySem.W.Frag} (h:z.length<=1000) (ne:z.length≠n):fZ K H n (.str z):=.inr ⟨z,rfl,h,.inl ne⟩
theorem w_ {K:PySem.W.Frag} {c:Str} (hx:x.length<=100) (hy:y.length<=100) (hc:c.length=1) (h0:c.cps.getD 0 0≠48) (h1:c.cps.getD 0 0≠49):fZ K H n (.str ((x++c)++y)):=by
 have e:=u8 hx rfl hc (y:=y);refine .inr ⟨_,rfl,by rw[pY,pY];omega,.inr ⟨x.length,by rw[pY,pY];omega,?_,?_⟩⟩
 ·rw[e];exact h0
 rw[e];exact h1
theorem gz {K:PySem.W.Frag} {t:Value} (a:TyOf K H v t) (b:PySem.W.kitOne K t (.type "str")=some false):fZ K H n v:=.inl ⟨t,a,b⟩
structure NoStr (K:PySem.W.Frag):Prop where
 non:PySem.W.kitOne K (.type "NoneType") (.type "str")=some false
 int:PySem.W.kitOne K (.type "int") (.type "str")=some false
 bl:PySem.W.kitOne K (.type "bool") (.type "str")=some false
 lst:PySem.W.kitOne K (.type "list") (.type "str")=some false
 tup:PySem.W.kitOne K (.type "tuple") (.type "str")=some false
 dct:PySem.W.kitOne K (.type "dict") (.type "str")=some false
theorem Db (K:PySem.W.Frag):NoStr K:=⟨rfl,rfl,rfl,rfl,rfl,rfl⟩
theorem Aa {i:Int} (h0:0<=i) (h1:i<6):∃c,atI ("2 ~ab\n" : Str).cps.toList i=some c/\c≠48/\c≠49:=by
 have key:∀k:Fin 6,∃c,("2 ~ab\n" : Str).cps.toList[k.1]?=some c/\c≠48/\c≠49:=λk=>by
  have h:((("2 ~ab\n" : Str).cps.toList[k.1]?).any λc=>decide (c≠48/\c≠49))=true:=by revert k;decide +kernel
  cases e:("2 ~ab\n" : Str).cps.toList[k.1]? with
  | none=>rw[e]at h;cases h
  | some c=>rw[e]at h;exact⟨c,rfl,of_decide_eq_true h⟩
 obtain⟨n,rfl⟩:=Int.eq_ofNat_of_zero_le h0;obtain⟨c,e,h⟩:=key ⟨n,by omega⟩;exact⟨c,bU e,h⟩
def qP (K:PySem.W.Frag):Sp:=λvs H Q _=>∃(x:Int) (z:Str) (n:Nat),vs=[.int x,.str z]/\1<=n/\n<=11/\StOk n z/\∀v H',am H H'->fZ K H' n v->Q v H'
section
theorem pC:FnScope ["x", "standing", "sign", "at", "some"] ["x", "standing"] (az (top 57)):=by fin2
theorem uY {f:Addr} {fd:FuncData} (Fu:Fun K "_law_bad" "_law_bad" (top 57) f fd) (T:Txt K mg TT):FnOk P w K mg base CX0 2 f fd ["x", "standing"] (qP K):=by
 have S:=pC;have nT:=T.n_tuple;have NS:=Db K;refine Fu.ok S (by room) (λcdv A outer s H vs Q E hr h=>?_);obtain⟨x,z,n,rfl,n1,n11,st,k⟩:=h;refine'⟨?_,?bb,?_⟩
 case bb =>
  walk_at "b";exact aC 2 S.nd (aB dL aP (ap aV (ap cw (pv 0) ad) ad));exact aC 3 S.nd (ap aV (ap cw (pv 0) ad) (aF du (by rfl) T.n_len QG (aa (pv 1) ae ag)));refine' aC 4 S.nd ?e
  case e =>
   walk_at "q";exact c7;exact f_;exact(dB (kO rfl) (by rfl) T.n_list PyProof.Rows.boot_list (aa (pv 1) ae ag));exact(pv 1);exact(ap bt (pv 1) aP);exact(bx dE (pv 1) (bJ ad) bK);exact fq;exact(ap jx aP ad)
  exact aC 4 S.nd (ap fu (pv 4) (bo (aa (ap bt (ap bt (bx dE (pv 1) bK (bJ (pv 3))) (pv 2)) (bx dE (pv 1) (bJ (ap aW (pv 3) ad)) bK)) (aa (ap bt (pv 1) (pv 2)) (aa (ap bt (pv 2) (pv 1)) (aa (bo (aa (pv 1) ae ag)) (aa (oj ja ad) ae se_un) se_lst) se_bin) se_bin) se_bin)));exact aC 4 S.nd (ap fu (pv 4) (bo (aa (ap uF ad ad) ae se_bin)));exact(aK (aB aI (pv 4) (ap aV (pv 0) ad)))
 x_go;have zl:z.length=n:=st.len;lk;obtain⟨sc,esc,s48,s49⟩:=Aa (i:=x / 16 % 6) (by omega) (by omega);refine fz (by decide) esc ?_;lk;refine⟨_,rfl,by omega,?_⟩;have zp:0<z.length:=by omega
 have il0:0<=x / 96 % (z.length:Int):=Int.emod_nonneg _ (by omega);have il1:x / 96 % (z.length:Int)<z.length:=Int.emod_lt_of_pos _ (by omega);obtain⟨i,ei⟩:∃i:Nat,x / 96 % (z.length:Int)=(i:Int):=⟨(x / 96 % (z.length:Int)).toNat,by omega⟩;rw[ei]at il0 il1;refine i_rI (by show (0:Int)<(z.length:Int);omega) ?_;rw[ei];lk;have il:i<z.length:=by omega
 have c0:("0" : Str).length=1:=by decide +kernel
 have c1:("1" : Str).length=1:=by decide +kernel
 have cs:(⟨#[sc]⟩:Str).length=1:=rfl;have g0:(⟨#[sc]⟩:Str).cps.getD 0 0≠48:=s48;have g1:(⟨#[sc]⟩:Str).cps.getD 0 0≠49:=s49;have lt:=zD (z:=z) (j:=i) (by omega);have lf:=oD (z:=z) (j:=i+1) (by omega);rw[show ((i+1:Nat):Int)=(i:Int)+1 from by omega]at lf;have lf1:=oD (z:=z) (j:=1) (by omega);rw[show ((1:Nat):Int)=1 from rfl]at lf1;refine⟨z,rfl,by omega,λp2 hp2=>?_⟩;ctx_has H p2 H3 S3 q3 aG hp2;lk;refine⟨by simp[sizeLine],λp3 hp3=>?_⟩;ctx_has H3 p3 H4 S4 q4 aG hp3;lk;refine⟨_,_,rfl,rfl,by omega,?_⟩;lk;refine fw (by omega) ?_;lk;intro p4 hp4;ctx_has H4 p4 H5 S5 q5 aG hp4;lk;refine⟨_,12,rfl,rfl,PyProof.Rows.mulOk_of 40 12 (by rw[c1];decide) (by decide) (by decide) (by decide) (by decide),?_⟩;lk;refine⟨by simp[sizeLine],λL1 hL1=>?_⟩;ctx_has H5 L1 H6 S6 q6 aG hL1;lk;refine fw (by omega) ?_;lk;refine⟨_,_,rfl,rfl,by omega,?_⟩;lk;refine fw (by omega) ?_;refine⟨_,_,rfl,rfl,by rw[pY];omega,?_⟩;lk;refine⟨_,_,rfl,rfl,by omega,?_⟩;lk;refine⟨_,_,rfl,rfl,by omega,?_⟩;lk;refine⟨by simp[sizeLine],λp7 hp7=>?_⟩;ctx_has H6 p7 H7 S7 q7 aG hp7;lk;refine⟨by simp[sizeLine],λL2 hL2=>?_⟩;ctx_has H7 L2 H8 S8 q8 aG hL2;refine iH ((S7.trans S8) _ _ q6) q8 (by simp[sizeLine]) λL3 hL3=>?_;ctx_has H8 L3 H9 S9 q9 aG hL3;lk;refine⟨by simp[sizeLine],λL4 hL4=>?_⟩;ctx_has H9 L4 Hb Sb qb aG hL4;refine iH (Sb _ _ q9) qb (by simp[sizeLine]) λL5 hL5=>?_;generalize hxs:((([V.non,_,_,_,_,_,_,_,_,_]++[_,_,_,_,_])++[_]:List V))=xs;ctx_has Hb L5 Hc Sc qc aG hL5;have xl:xs.length=16:=by rw[<-hxs];rfl
 have Sac:=Sb.trans Sc;have S9c:=S9.trans Sac;have S7c:=(S7.trans S8).trans S9c;have S6c:=S6.trans S7c;have r2:=(S4.trans (S5.trans S6c)) _ _ q3;have r3:=(S5.trans S6c) _ _ q4;have r4:=S6c _ _ q5;have r7:=(S8.trans S9c) _ _ q7;have S0:=S3.trans (S4.trans (S5.trans S6c));have lm1:=PyProof.Rows.len_mul ("1" : Str) 12;rw[QA (by decide),c1]at lm1;have e0:("" : Str).length=0:=by decide +kernel
 have all:∀x∈xs,fZ K Hc n x:=by
  rw[<-hxs];simp only[List.forall_mem_append,List.forall_mem_cons,List.forall_mem_nil,and_true]
  repeat' (with_reducible apply And.intro)
  all_goals first
   | exact λx h=>absurd h List.not_mem_nil
   | exact gz .non NS.non
   | exact gz (.int _) NS.int
   | exact gz (.bl _) NS.bl
   | exact gz (.lst r2) NS.lst
   | exact gz (.tup r3) NS.tup
   | exact gz (.dK r4) NS.dct
   | exact gz (.lst r7) NS.lst
   | exact mW (by rw[e0];omega) (by rw[e0];omega)
   | exact mW (by omega) (by omega)
   | exact mW (by rw[pY];omega) (by rw[pY];omega)
   | (refine w_ ?_ ?_ ?_ ?_ ?_)
  all_goals first|omega|assumption|decide +kernel
 clear hxs;lk;obtain⟨j,ej⟩:∃j:Nat,x % 16=(j:Int):=⟨(x % 16).toNat,by omega⟩;have hj:j<xs.length:=by omega
 rw[ej];refine bB (v:=xs[j]) (SqL.of qc) (bU (Qd hj)) ?_;exact k _ Hc S0 (all _ (Xr hj))
end
theorem fZ.tk {K:PySem.W.Frag} (h:fZ K H n v) (t:fF TL d_ H) (k:Tk TL H H'):fZ K H' n v:=by
 refine h.imp (λ⟨t',a,b⟩=>⟨t',?_,b⟩) id
 cases a with
 | non=>exact .non
 | bl x=>exact .bl x
 | int i=>exact .int i
 | str x=>exact .str x
 | flt x=>exact .flt x
 | lst e=>exact .lst (k.old _ _ e (f6 t e λ_ z=>nomatch z))
 | frz e=>exact .frz (k.old _ _ e (f6 t e λ_ z=>nomatch z))
 | tup e=>exact .tup (k.old _ _ e (f6 t e λ_ z=>nomatch z))
 | dK e=>exact .dK (k.old _ _ e (f6 t e λ_ z=>nomatch z))
 | dT e=>exact .dT (k.old _ _ e (f6 t e λ_ z=>nomatch z))
 | ins e cl ha hn htk hm=>exact .ins (k.old _ _ e (f6 t e λ_ z=>nomatch z)) cl ha hn htk hm
theorem sv {E:Value->Option Addr->Hp->Prop} (NA:NAt H a li lg ins gvs gs) (ok:NetOk ins gs) (st:StOk (ao ins gs).length z) (tb:fF TL d_ H) (k:∀x H',Tk TL H H'->Q x H'):jf TL [.ref a,.str z] H Q E :=
 ⟨a,li,lg,ins,gvs,gs,z,rfl,NA,ok,st,tb,λ_ p _ _ H' t _ _ _ _ _=>k _ H' t,λH' t _=>k _ H' t⟩
section
theorem yN:FnScope ["script", "d", "net", "handed", "first", "other", "standing", "due", "found", "k", "bad", "way", "some", "rest", "paper"] ["script"] (az (top 59)):=by fin2
theorem uS {TL:Addr} {f:Addr} {fd:FuncData} (Fu:Fun K "law" "law" (top 59) f fd) (T:Txt K mg TT) (f_law_draws:Fn P w K mg base "_law_draws" ["script", "many"] 1 (qO K)) (f_law_net:Fn P w K mg base "_law_net" ["d", "spot"] 12 ub) (f_law_copy:Fn P w K mg base "_law_copy" ["net"] 1 ud) (f_law_standing:Fn P w K mg base "_law_standing" ["x", "net"] 1 nH)
  (f_law_ways:Fn P w K mg base "_law_ways" ["net", "standing"] 12 t_) (f_law_one:Fn P w K mg base "_law_one" ["ways", "standing"] 2 uc) (f_rest_paper:Fn P w K mg base "rest_paper" ["net", "standing"] 16 (jf TL)) (f_one_rest:Fn P w K mg base "one_rest" ["net", "standing"] 16 (xB TL)) (f_law_bad:Fn P w K mg base "_law_bad" ["x", "standing"] 2 (qP K)) (f_law_refused:Fn P w K mg base "_law_refused" ["way", "net", "bad", "rest", "paper"] 17 (qL K)):FnOk P w K mg base CX0 18 f fd ["script"] (qM K TL):=by
 have S:=yN;refine Fu.ok S (by room) (λcdv A outer s H vs Q E hr h=>?_);obtain⟨sc,cells,rfl,hS,hlen,tb,k⟩:=h;have hu:=dS hr;refine'⟨?_,?bb,?_⟩
 case bb =>
  walk_at "b";exact aC 1 S.nd (aY f_law_draws hr (aa (pv 0) (aa ad ae aL) ag));exact aC 2 S.nd (aY f_law_net hr (aa (pv 1) (aa ad ae aL) ag));exact aC 3 S.nd (aY f_law_copy hr (aa (pv 2) ae ag));exact aC 4 S.nd (aY f_law_standing hr (aa (aB aI (pv 1) ad) (aa (pv 2) ae ag)));exact aC 5 S.nd (aY f_law_standing hr (aa (aB aI (pv 1) ad) (aa (pv 2) ae ag)));walk_at "f";exact(b8 (bo (aa (pv 4) (aa (pv 5) (aa (pv 4) ae ag) ag) ag)));exact(b9 6 S.nd);walk_at "p";exact aC 7 S.nd (aY f_law_one hr (aa (aY f_law_ways hr (aa (pv 2) (aa (pv 6) ae ag) ag)) (aa (pv 6) ae ag) se_call));exact aC 8 S.nd (aY f_one_rest hr (aa (pv 3) (aa (pv 6) ae ag) ag));exact(PW.pt (gN (PW.pt (gr (aH uH (pv 7) c7 rfl) (eQ (aH iZ (pv 8) c7 rfl)))) (eP (aH (y8 hr.units) (pv 3) (pv 2) (aO _)))));exact(aK f_);exact(PW.pt (gr (aH iZ (pv 7) c7 rfl) (eQ (PW.pt (gN (gt (fm (aF fD (by rfl) T.n_isinstance Q0 (aa (pv 8) (aa (iX (v:=.ty "str") (by rfl) T.n_str PyProof.Rows.boot_str rfl) ae ag) ag)))) (eP (aH iF (pv 8) (pv 7) (aO _))))))));exact(aK f_);walk_at "f";exact(bY (by rfl) T.n_range (aa ad ae aL));exact(b9 9 S.nd);walk_at "p";exact aC 10 S.nd (aY f_law_bad hr (aa (aB aI (pv 1) (ap aW ad (pv 9))) (aa (pv 4) ae ag)));walk_at "f";exact(bY (by rfl) T.n_range (aa ad ae aL));exact(b9 11 S.nd);walk_at "p";exact(gt (fm (aY f_law_refused hr (aa (pv 11) (aa (pv 3) (aa (pv 10) (aa aP (aa (bo ae) ae se_lst) aL) ag) ag) ag))));exact(aK f_);refine' aC 12 S.nd ?e
  case e =>
   walk_at "q";exact(pv 4);exact(aY f_rest_paper hr (aa (pv 3) (aa (pv 4) ae ag) ag));exact(oj ja ad);exact(pv 4);exact(pv 4)
  walk_at "f";exact(b8 (pv 12));exact(im rfl (bM (b9 13 S.nd) (bM (b9 14 S.nd) eR)));walk_at "p";exact(PW.pt (gr (aH iZ (pv 14) c7 rfl) (eQ (gt (fm (aY f_law_refused hr (aa ad (aa (pv 3) (aa (pv 10) (aa (pv 13) (aa (pv 14) ae ag) ag) ag) ag) aL)))))));exact(aK f_);exact(aK (dq (y9 hr.units) (pv 3) (pv 2) (aO _)))
 x_go;lk;refine⟨sc,cells,rfl,hS,hlen,λd ds H1 S1 nd hd dok=>?_⟩;lk;refine⟨d,ds,0,rfl,hd,dok,by omega,by omega,λa li lg ins gvs gs H2 S2 NA ok=>?_⟩;have hd2:=S2 _ _ hd;lk;refine⟨a,li,lg,ins,gvs,gs,rfl,NA,λa' li' lg' H3 S3 n1 n2 n3 NB=>?_⟩;have hd3:=S3 _ _ hd2;have NA3:=NA.same S3;have tb3:=eM tb (S1.trans (S2.trans S3));have w11:(ao ins gs).length<=11:=by rw[bO];have:=ok.i4;have:=ok.g7;omega
 have w1:1<=(ao ins gs).length:=by rw[bO];have:=ok.g1;omega
 obtain⟨y1,_,_,e1⟩:=fY dok (i:=120) (by omega) (by omega);obtain⟨y2,_,_,e2⟩:=fY dok (i:=121) (by omega) (by omega);refine aA ?_;kt_k;refine bI (i_call (aq (bE (ak rfl (i_c (bB (SqL.of hd3) e1 (aq (ak rfl (aM ?_)))))))));refine⟨y1,a,li,lg,ins,gvs,gs,rfl,NA3,ok,λz1 H4 st1 S4=>aA ?_⟩;kt_k;refine bI (i_call (aq (bE (ak rfl (i_c (bB (SqL.of (S4 _ _ hd3)) e2 (aq (ak rfl (aM ?_)))))))));refine⟨y2,a,li,lg,ins,gvs,gs,rfl,NA3.same S4,ok,λz2 H5 st2 S5=>aA ?_⟩;kt_k;refine s_for (s_list (i_lst (aq (ak rfl (aq (ak rfl (aq (ak rfl (aM ⟨by simp[sizeLine],λp hp=>?_⟩)))))))));ctx_has H5 p H6 S6 q6 aG hp;have S36:=S4.trans (S5.trans S6);have tb6:=eM tb3 S36;have NA6:=NA3.same S36;have NB6:=NB.same S36;have hd6:=S36 _ _ hd3;refine⟨p,rfl,⟨_,SqL.of q6⟩,?_⟩;let I38:IvF:=λj σ' G=>(∃x6 x7 x8:Option V,σ'=[some (.ref sc),some (.ref d),some (.ref a),some (.ref a'),some (.str z1),some (.str z2),x6,x7,x8,none,none,none,none,none,none])/\Tk TL H6 G;refine cY (xs:=[V.str z1,V.str z2,V.str z1]) I38 ⟨⟨_,_,_,rfl⟩,Tk.of tb6 (am.refl _)⟩ (λj σ' G _ pv=>SqL.of (pv.2.lst tb6 _ _ q6)) (λj v σ' G hv pv=>?_) (λσ' G pv=>?_)
 ·obtain⟨⟨x6,x7,x8,rfl⟩,tk⟩:=pv
  obtain⟨z,rfl,st⟩:∃z,v=.str z/\StOk (ao ins gs).length z:=by
   have:=Qj hv;simp only[QV,List.not_mem_nil,or_false]at this;rcases this with rfl|rfl|rfl
   ·exact⟨_,rfl,st1⟩
   ·exact⟨_,rfl,st2⟩
   exact⟨_,rfl,st1⟩
  have tbG:=tk.tab;have NAG:=NA6.mono (tk.lst tb6) (tk.tup tb6);refine aA ?_;kt_k;refine bI (i_call (aq (i_call (aq (ak rfl (aq (ak rfl (aM ?_))))))));refine⟨a,li,lg,ins,gvs,gs,z,rfl,NAG,ok,st,λF ys xs ls H7 S7 hF met pm wd=>aq (ak rfl (aM ?_))⟩;refine⟨F,ins,gs,z,ys,xs,ls,rfl,wd,met,ok,pm,λr H8 S8 one=>aA ?_,λH8 S8 no=>aA ?_⟩;rotate_left
  ·have t8:=tk.trans (Tk.of tbG (S7.trans S8));have tb8:=t8.tab;have NB8:=NB6.mono (t8.lst tb6) (t8.tup tb6);kt_k;refine bI (i_call (aq (ak rfl (aq (ak rfl (aM ?_))))));refine⟨a',li',lg',ins,gvs,gs,z,rfl,NB8,ok,st,tb8,λr xs H9 t9 _ one=>absurd one (no r),λxs H9 t9 _ _=>aA ?_⟩;have t69:=t8.trans t9;have NA9:=NA6.mono (t69.lst tb6) (t69.tup tb6);have NB9:=NB6.mono (t69.lst tb6) (t69.tup tb6);kt_k;kt_k;kt_k;with_reducible refine i_and ?_
   refine i_test (bE (ak rfl (i_c ⟨rfl,⟨_,rfl,cT ?_⟩⟩)));refine i_test (bE (ak rfl (i_c ⟨rfl,⟨_,rfl,cU ?_⟩⟩)));refine i_test (bE (ak rfl (ak rfl (yq (SqT.of NB9.ha) (SqT.of NA9.ha) rfl (jB NA9 NB9) ⟨_,rfl,cU ?_⟩))));kt_k;kt_k;with_reducible refine i_and ?_
   refine i_test (bE (ak rfl (i_c ⟨rfl,⟨_,rfl,cU (cU ?_)⟩⟩)));kt_k;exact⟨⟨_,_,_,rfl⟩,t69⟩
  have t8:=tk.trans (Tk.of tbG (S7.trans S8));have tb8:=t8.tab;have NB8:=NB6.mono (t8.lst tb6) (t8.tup tb6);kt_k;refine bI (i_call (aq (ak rfl (aq (ak rfl (aM ?_))))));refine⟨a',li',lg',ins,gvs,gs,z,rfl,NB8,ok,st,tb8,λr' xs H9 t9 _ one'=>aA ?_,λxs H9 t9 _ no=>absurd one (no r)⟩;have er:=one'.one one;subst er;have t69:=t8.trans t9;have NA9:=NA6.mono (t69.lst tb6) (t69.tup tb6);have NB9:=NB6.mono (t69.lst tb6) (t69.tup tb6);kt_k;kt_k;kt_k;with_reducible refine i_and ?_
  refine i_test (bE (ak rfl (i_c ⟨rfl,⟨_,rfl,cU (cU ?_)⟩⟩)));refine i_test (bE (ak rfl (ak rfl (yq (SqT.of NB9.ha) (SqT.of NA9.ha) rfl (jB NA9 NB9) ⟨_,rfl,cU ?_⟩))));kt_k;kt_k;with_reducible refine i_and ?_
  refine i_test (bE (ak rfl (i_c ⟨rfl,⟨_,rfl,cT ?_⟩⟩)));kt_k;refine i_not (i_tB (i_cb (aq (ak rfl (aq (i_c (aM ⟨_,_,_,_,rfl,TyOf.str _,oE "str", ⟨_,rfl,cU ?_⟩⟩)))))));refine i_test (bE (ak rfl (ak rfl (i_ne rfl ⟨_,rfl,ifF (by simp) ?_⟩))));kt_k;exact⟨⟨_,_,_,rfl⟩,t69⟩
 obtain⟨⟨x6,x7,x8,rfl⟩,tk⟩:=pv
 try dsimp only
 have tbG:=tk.tab;have NAG:=NA6.mono (tk.lst tb6) (tk.tup tb6);have NBG:=NB6.mono (tk.lst tb6) (tk.tup tb6);have hdG:=tk.lst tb6 _ _ hd6;clear tk;lk;refine⟨by decide,by decide,?_⟩;let I39:IvF:=λi U H'=>(∃x6 x7 x8 x9 x10 x11 x12 x13 x14:Option V,U=[some (.ref sc),some (.ref d),some (.ref a),some (.ref a'),some (.str z1),some (.str z2),x6,x7,x8,x9,x10,x11,x12,x13,x14])/\Tk TL G H';refine cH (n:=3) I39 ⟨⟨_,_,_,_,_,_,_,_,_,rfl⟩,Tk.of tbG (am.refl _)⟩ (λi U H' hi pv=>?_) (λU H' pv=>?_);rotate_left
 ·obtain⟨⟨x6,x7,x8,x9,x10,x11,x12,x13,x14,rfl⟩,tk⟩:=pv
  try dsimp only
  have NAe:=NAG.mono (tk.lst tbG) (tk.tup tbG);have NBe:=NBG.mono (tk.lst tbG) (tk.tup tbG);refine s_ret (bE (ak rfl (ak rfl (Dj (SqT.of NBe.ha) (SqT.of NAe.ha) rfl (jB NAe NBe) (k _)))))
 obtain⟨⟨x6,x7,x8,x9,x10,x11,x12,x13,x14,rfl⟩,tk⟩:=pv;have tbH:=tk.tab;have NBH:=NBG.mono (tk.lst tbG) (tk.tup tbG);have hdH:=tk.lst tbG _ _ hdG;obtain⟨y,_,_,ey⟩:=fY dok (i:=122+(0+(i:Int))) (by omega) (by omega);refine aA ?_;kt_k;refine bI (i_call (aq (bE (ak rfl (bE (i_c (ak rfl (i_rI0 (bB (SqL.of hdH) ey (aq (ak rfl (aM ?_))))))))))));refine⟨y,z1,(ao ins gs).length,rfl,w1,w11,st1,λv Hb Sb bad=>aA ?_⟩;have tHb:=tk.trans (Tk.of tbH Sb);have tbb:=tHb.tab;have NBb:=NBH.same Sb;kt_k;lk;refine⟨by decide,by decide,?_⟩;let I40:IvF:=λj U H'=>(∃x11:Option V,U=[some (.ref sc),some (.ref d),some (.ref a),some (.ref a'),some (.str z1),some (.str z2),x6,x7,x8,some (.int (0+(i:Int))),some v,x11,x12,x13,x14])/\am Hb H';refine cH (n:=3) I40 ⟨⟨_,rfl⟩,am.refl _⟩ (λj U H' hj pv=>?_) (λU H' pv=>?_)
 ·obtain⟨⟨x11,rfl⟩,SG⟩:=pv;refine aA ?_;kt_k;refine i_not (i_tB (i_call (aq (ak rfl (aq (ak rfl (aq (ak rfl (aq (i_c (aq (i_lst (aM ⟨by simp[sizeLine],λq hq=>aM ?_⟩)))))))))))));ctx_has H' q Hc Sc qc aG hq;have Sbc:=SG.trans Sc;refine⟨j,a',li',lg',ins,gvs,gs,v,.str _,.ref q,by rw[Int.zero_add],NBb.same Sbc,ok,by omega,bad.same Sbc,λHd Sd=>⟨_,rfl,cU ?_⟩⟩;kt_k;exact⟨⟨_,rfl⟩,Sbc.trans Sd⟩
 obtain⟨⟨x11,rfl⟩,SG⟩:=pv
 try dsimp only
 have tbc:=eM tbb SG;have NBc:=NBb.same SG;have badc:=bad.same SG;have tHc:=tHb.trans (Tk.of tbb SG);kt_k;refine bI (i_lst (aq (i_tup (aq (ak rfl (aq (i_call (aq (ak rfl (aq (ak rfl (aM ?_))))))))))));refine sv NBc ok st1 tbc λx H1p t1p=>aM ⟨by simp[sizeLine],λq1 hq1=>?_⟩;ctx_has H1p q1 Hd Sd qd aG hq1;have tGd:=tHc.trans (t1p.trans (Tk.of t1p.tab Sd));have bd:=(badc.tk tbc t1p).same Sd;have NBd:=(NBc.mono (t1p.lst tbc) (t1p.tup tbc)).same Sd;lk;refine⟨by simp[sizeLine],λq2 hq2=>?_⟩;ctx_has Hd q2 Ha2 SHa2 eq2 aG hq2;lk;refine⟨by simp[sizeLine],λq3 hq3=>?_⟩;ctx_has Ha2 q3 Ha3 SHa3 eq3 aG hq3;lk;refine⟨by simp[sizeLine],λq4 hq4=>?_⟩;ctx_has Ha3 q4 Ha4 SHa4 eq4 aG hq4;lk;refine⟨by simp[sizeLine],λq5 hq5=>?_⟩;ctx_has Ha4 q5 Ha5 SHa5 eq5 aG hq5;lk;refine⟨by simp[sizeLine],λq6 hq6=>?_⟩;ctx_has Ha5 q6 Ha6 SHa6 eq6 aG hq6;lk;refine⟨by simp[sizeLine],λq7 hq7=>?_⟩;ctx_has Ha6 q7 Ha7 SHa7 eq7 aG hq7;lk;refine⟨by simp[sizeLine],λq8 hq8=>?_⟩;ctx_has Ha7 q8 Ha8 SHa8 eq8 aG hq8;lk;have S78:=SHa8;have S48:=SHa5.trans (SHa6.trans (SHa7.trans SHa8));have Sd8:=SHa2.trans (SHa3.trans (SHa4.trans S48));have e1h:=Sd8 _ _ qd;have e4h:=S48 _ _ eq4;have e7h:=S78 _ _ eq7;have bh:=bd.same Sd8;have NBh:=NBd.same Sd8;refine⟨q8,rfl,⟨_,SqL.of eq8⟩,?_⟩;let I41:IvF:=λj σ' G'=>(∃x13 x14:Option V,σ'=[some (.ref sc),some (.ref d),some (.ref a),some (.ref a'),some (.str z1),some (.str z2),x6,x7,x8,some (.int (0+(i:Int))),some v,x11,some (.ref q8),x13,x14])/\am Ha8 G';refine cY (xs:=[V.ref q1,V.ref q4,V.ref q7]) I41 ⟨⟨_,_,rfl⟩,am.refl _⟩ (λj σ' G' _ pv=>SqL.of (pv.2 _ _ eq8)) (λj u σ' G' hv pv=>?_) (λσ' G' pv=>?_)
 ·obtain⟨⟨x13,x14,rfl⟩,SG2⟩:=pv
  obtain⟨b,u1,u2,rfl,hb⟩:∃b u1 u2,u=.ref b/\Ha8 b=some (.tup [u1,u2]):=by
   have:=Qj hv;simp only[QV,List.not_mem_nil,or_false]at this;rcases this with rfl|rfl|rfl
   ·exact⟨_,_,_,rfl,e1h⟩
   ·exact⟨_,_,_,rfl,e4h⟩
   exact⟨_,_,_,rfl,e7h⟩
  have hbG:=SG2 _ _ hb;refine⟨b,_,rfl,SqT.of hbG,rfl,?_⟩;refine⟨_,_,rfl,aA ⟨_,_,rfl,aA ⟨rfl,?_⟩⟩⟩;kt_k;with_reducible refine i_and ?_
  refine i_test (bE (ak rfl (i_c ⟨rfl,⟨_,rfl,dZ (λ_=>?_) (λ_=>?_)⟩⟩)))
  ·refine i_not (i_tB (i_call (aq (i_c (aq (ak rfl (aq (ak rfl (aq (ak rfl (aq (ak rfl (aM ?_)))))))))))));refine⟨3,a',li',lg',ins,gvs,gs,v,u1,u2,rfl,NBh.same SG2,ok,by decide,bh.same SG2,λHe Se=>⟨_,rfl,cU ?_⟩⟩;kt_k;exact⟨⟨_,_,rfl⟩,SG2.trans Se⟩
  refine cU ?_;kt_k;exact⟨⟨_,_,rfl⟩,SG2⟩
 obtain⟨⟨x13,x14,rfl⟩,SG2⟩:=pv;exact⟨⟨_,_,_,_,_,_,_,_,_,rfl⟩,tGd.trans (Tk.of tGd.tab (Sd8.trans SG2))⟩
end
end K2
namespace K2
open PySem L2 PySem.Spec PyProof.Rows
variable {A:Type}
theorem yp {us:List A} (h:us.length=1):∃a0,us=[a0]:=by
 match us,h with
 | [a0],_=>exact⟨_,rfl⟩
theorem yo {us:List A} (h:us.length=2):∃a0 a1,us=[a0,a1]:=by
 match us,h with
 | [a0,a1],_=>exact⟨_,_,rfl⟩
theorem Dg {us:List A} (h:us.length=3):∃a0 a1 a2,us=[a0,a1,a2]:=by
 match us,h with
 | [a0,a1,a2],_=>exact⟨_,_,_,rfl⟩
theorem Df {us:List A} (h:us.length=4):∃a0 a1 a2 a3,us=[a0,a1,a2,a3]:=by
 match us,h with
 | [a0,a1,a2,a3],_=>exact⟨_,_,_,_,rfl⟩
theorem De {us:List A} (h:us.length=5):∃a0 a1 a2 a3 a4,us=[a0,a1,a2,a3,a4]:=by
 match us,h with
 | [a0,a1,a2,a3,a4],_=>exact⟨_,_,_,_,_,rfl⟩
structure FX (K:PySem.W.Frag) (n:Str) (i:Nat) (f:Addr) (cd:Value):Prop where
 a:PySem.W.nsIn K mainGlobals n=some (some (.ref f))
 l:∃oc od kV dc pm an ct sl,K.lookup f=some ⟨oc,od,.func (PySem.W.fnOf n n (cO (top i)) (ck (top i)) (az (top i)) .none kV dc pm an cd ct),sl⟩
 c:PySem.W.codeIn K cd n=true
 k:PySem.W.keepIn K (.ref f)=true
variable {h:Heap} {cd:Value} {f fa TL0:Addr}
theorem FX.fn {K:PySem.W.Frag} {n:Str} {i:Nat} {mg:E3} (X:K.In h) (G:h.Ns mainGlobals mg) (x:FX K n i f cd):∃fd,Fun K n n (top i) f fd/\mg n=some (.ref f):=by
 obtain⟨a,⟨_,_,_,_,_,_,_,_,l⟩,c,k⟩:=x;exact⟨_,qh (st:=top i) l c k,Xq X G a⟩
abbrev ZN (K:PySem.W.Frag) (n:Str):Prop:=PySem.W.nsIn K mainGlobals n=some none
variable {p:List Value->Prop}
theorem bn1 (h:∀a0,p [a0]) (us:List Value) (hl:us.length=1):p us:=by
 obtain⟨a0,e⟩:=yp hl;subst e;exact h a0
theorem bn2 (h:∀a0 a1,p [a0,a1]) (us:List Value) (hl:us.length=2):p us:=by
 obtain⟨a0,a1,e⟩:=yo hl;subst e;exact h a0 a1
theorem bn3 (h:∀a0 a1 a2,p [a0,a1,a2]) (us:List Value) (hl:us.length=3):p us:=by
 obtain⟨a0,a1,a2,e⟩:=Dg hl;subst e;exact h a0 a1 a2
theorem bn4 (h:∀a0 a1 a2 a3,p [a0,a1,a2,a3]) (us:List Value) (hl:us.length=4):p us:=by
 obtain⟨a0,a1,a2,a3,e⟩:=Df hl;subst e;exact h a0 a1 a2 a3
theorem bn5 (h:∀a0 a1 a2 a3 a4,p [a0,a1,a2,a3,a4]) (us:List Value) (hl:us.length=5):p us:=by
 obtain⟨a0,a1,a2,a3,a4,e⟩:=De hl;subst e;exact h a0 a1 a2 a3 a4
variable {ps loose:List Str}
theorem FX.go (P:Program) (w:World) (base:Heap) {K:PySem.W.Frag} {n:Str} {i k:Nat} {mg:E3} {sp:Sp} (X:K.In h) (G:h.Ns mainGlobals mg) (x:FX K n i f cd) (o:∀fd,Fun K n n (top i) f fd->mg n=some (.ref f)->dW K fd ps []->FnOk P w K mg base CX0 k f fd ps sp)
  (hb:∀(kV doc pm:Value) (an:Option Addr) (cdv ct:Value) (us:List Value),us.length=ps.length->bindArgs (PySem.W.fnOf n n (cO (top i)) (ck (top i)) (az (top i)) .none kV doc pm an cdv ct) ⟨us,[]⟩=pure (ps.zip us):=by intro _ _ _ _ _ _;first|exact bn1 λ_=>rfl|exact bn2 λ_ _=>rfl|exact bn3 λ_ _ _=>rfl|exact bn4 λ_ _ _ _=>rfl|exact bn5 λ_ _ _ _ _=>rfl):Fn P w K mg base n ps k sp:=by
 obtain⟨fd,F,m⟩:=x.fn X G;have b:=F.binds hb;exact⟨f,fd,o fd F m b,m,x.k,b⟩
theorem FX.go1 (P:Program) (w:World) (base:Heap) {K:PySem.W.Frag} {n:Str} {i k:Nat} {mg:E3} {sp:Sp} (X:K.In h) (G:h.Ns mainGlobals mg) (x:FX K n i f cd) (o:∀fd,Fun K n n (top i) f fd->mg n=some (.ref f)->dW K fd ps []->FnOk P w K mg base (CX1 P w) k f fd ps sp)
  (hb:∀(kV doc pm:Value) (an:Option Addr) (cdv ct:Value) (us:List Value),us.length=ps.length->bindArgs (PySem.W.fnOf n n (cO (top i)) (ck (top i)) (az (top i)) .none kV doc pm an cdv ct) ⟨us,[]⟩=pure (ps.zip us):=by intro _ _ _ _ _ _;first|exact bn1 λ_=>rfl|exact bn2 λ_ _=>rfl|exact bn3 λ_ _ _=>rfl|exact bn4 λ_ _ _ _=>rfl|exact bn5 λ_ _ _ _ _=>rfl):Fn1 P w K mg base n ps k sp:=by
 obtain⟨fd,F,m⟩:=x.fn X G;have b:=F.binds hb;exact⟨f,fd,o fd F m b,m,x.k,b⟩
theorem Ab {l:PySem.W.OpenLaw} {w:World} {K:PySem.W.Frag} {mg:E3} (X:K.In h) (G:h.Ns mainGlobals mg) (hfa:mg "law" = some (.ref fa))
  (aT:PySem.W.nsIn K mainGlobals "TURNED" = some (some (.ref 108))) (tab:qD K 108 [("0", .flat (.str "1")),("1", .flat (.str "0"))])
  (x0:FX K "is_row" 12 127 (.ref 126)) (x1:FX K "gates_of" 13 132 (.ref 131)) (x2:FX K "wires_of" 14 139 (.ref 138)) (x3:FX K "is_standing" 15 146 (.ref 145)) (x4:FX K "check_standing" 16 153 (.ref 152)) (x5:FX K "rule_holds" 17 160 (.ref 159)) (x6:FX K "rule_worth" 18 167 (.ref 166)) (x7:FX K "signs_in" 19 174 (.ref 173)) (x8:FX K "turned_at" 20 181 (.ref 180)) (x9:FX K "steps_from" 21 188 (.ref 187)) (x10:FX K "found_from" 23 195 (.ref 194)) (x11:FX K "steps_found" 24 202 (.ref 201))(h11:PySem.W.codeHdIn K 201 197=true) (x12:FX K "rests_in" 26 214 (.ref 213)) (x13:FX K "standings_ahead" 31 229 (.ref 228)) (x14:FX K "most_switchings" 32 234 (.ref 233)) (x15:FX K "one_rest" 33 241 (.ref 240)) (x16:FX K "rest_paper" 34 248 (.ref 247)) (x17:FX K "rest_shows" 38 270 (.ref 269)) (x18:FX K "told_parting" 40 282 (.ref 281)) (x19:FX K "_law_draws" 42 289 (.ref 288)) (x20:FX K "_law_names" 43 294 (.ref 293)) (x21:FX K "_law_rule" 44 301 (.ref 300)) (x22:FX K "_law_held" 45 308 (.ref 307)) (x23:FX K "_law_known" 46 313 (.ref 312)) (x24:FX K "_law_deeper" 47 320 (.ref 319)) (x25:FX K "_law_net" 48 327 (.ref 326)) (x26:FX K "_law_standing" 49 332 (.ref 331)) (x27:FX K "_law_holds" 50 339 (.ref 338)) (x28:FX K "_law_asked" 51 344 (.ref 343)) (x29:FX K "_law_ways" 52 349 (.ref 348)) (x30:FX K "_law_levels" 53 356 (.ref 355)) (x31:FX K "_law_one" 54 361 (.ref 360)) (x32:FX K "_law_copy" 55 368 (.ref 367)) (x33:FX K "_law_kinds" 56 373 (.ref 372)) (x34:FX K "_law_bad" 57 380 (.ref 379)) (x35:FX K "_law_refused" 58 387 (.ref 386)) (x36:FX K "law" 59 394 (.ref 393))
  (z0:ZN K "len") (z1:ZN K "range") (z2:ZN K "max") (z3:ZN K "min") (z4:ZN K "int") (z5:ZN K "list") (z6:ZN K "str") (z7:ZN K "isinstance") (z8:ZN K "all") (z9:ZN K "set") (z10:ZN K "dict") (z11:ZN K "enumerate") (z12:ZN K "sorted") (z13:ZN K "tuple") (z14:ZN K "bool") (z15:ZN K "zip") (z16:ZN K "reversed") (z17:ZN K "abs")
  (nkNoStanding:PySem.W.nsIn K mainGlobals "NoStanding" = some (some (.ref 37)))
  (nkNoStep:PySem.W.nsIn K mainGlobals "NoStep" = some (some (.ref 57)))
  (nkNoFit:PySem.W.nsIn K mainGlobals "NoFit" = some (some (.ref 69)))
  (nkNoText:PySem.W.nsIn K mainGlobals "NoText" = some (some (.ref 81)))
  (nkNoName:PySem.W.nsIn K mainGlobals "NoName" = some (some (.ref 93)))
  (nkNoRow:PySem.W.nsIn K mainGlobals "NoRow" = some (some (.ref 105)))
  (nkNetError:PySem.W.nsIn K mainGlobals "NetError" = some (some (.ref 24)))
  (nkV:ZN K "ValueError")
  (xmN0:XMk K 37 24)
  (inN0:PySem.W.findIn K (.ref 37) "__init__" = some (some (.builtin "ValueError.__init__")))
  (Z0:KinB K 37 24 37 57 69 81 93 105)
  (ZS:KinB K 57 24 37 57 69 81 93 105)
  : ∃fd:FuncData,(∀(s:Shared) (v:Value),BindsTo s fd ⟨[v],[]⟩ [("script", v)])/\∀base:Heap,K.In base->base.Ns mainGlobals mg->L2.gg base mg->FnOk l.prog w K mg base CX0 18 fa fd ["script"] (qM K 197):=by
 have e:=hfa.symm.trans (Xq X G x36.a);cases e;have T:Txt K mg 108:=⟨QO X G z0,QO X G z1,QO X G z2,QO X G z3,QO X G z4,QO X G z5,QO X G z6,QO X G z7,QO X G z8,QO X G z9,QO X G z10,QO X G z11,QO X G z12,QO X G z13,QO X G z14,QO X G z15,QO X G z16,QO X G z17,Xq X G aT,tab⟩;have N0:ExcB K mg "NoStanding" 37 24:=⟨xmN0,inN0,Xq X G nkNoStanding⟩;have NM:NmE mg 57 24:=⟨Xq X G nkNoStep,Xq X G nkNetError⟩;have KD:KindsM mg 37 69 81 93 105:=⟨Xq X G nkNoStanding,Xq X G nkNoFit,Xq X G nkNoText,Xq X G nkNoName,Xq X G nkNoRow,QO X G nkV⟩;have DST:(37:Addr)≠57/\(37:Addr)≠69/\(37:Addr)≠81/\(37:Addr)≠93/\(37:Addr)≠105/\(57:Addr)≠69/\(57:Addr)≠81/\(57:Addr)≠93/\(57:Addr)≠105:=by decide
 obtain⟨a11,⟨_,_,_,_,_,_,_,_,l11⟩,c11,k11⟩:=x11;have m11:=Xq X G a11;have F11:=qh (st:=top 24) l11 c11 k11;have b11:=F11.binds (ps:=["net", "standing"]) λ_ _ _ _ _ _ us hl=>by obtain⟨_,_,rfl⟩:=yo hl;rfl
 obtain⟨a36,⟨_,_,kV,dc,pm,an,ct,_,l36⟩,c36,k36⟩:=x36;have m36:=Xq X G a36;have F36:=qh (st:=top 59) l36 c36 k36;have b36:=F36.binds (ps:=["script"]) λ_ _ _ _ _ _ us hl=>by obtain⟨_,rfl⟩:=yp hl;rfl
 refine⟨PySem.W.fnOf "law" "law" (cO (top 59)) (ck (top 59)) (az (top 59)) .none kV dc pm an (.ref 393) ct,λs v=>.of_eq rfl,λbase KB _ BM=>?_⟩;have CT0:=PySem.W.codeHd_of_K KB h11;have FC11:FunC K "steps_found" "steps_found" (top 24) 202 _ 201:=⟨_,_,_,_,_,_,_,_,rfl,l11,c11⟩;have g19:=x19.go l.prog w base X G λ_ F _ _=>uX F T;have g20:=x20.go l.prog w base X G λ_ F _ _=>sJ F T;have g22:=x22.go l.prog w base X G λ_ F _ _=>wG F T;have g23:=x23.go l.prog w base X G λ_ F _ _=>sL F T g22;have g21:=x21.go l.prog w base X G λ_ F m b=>ol F T m x21.k b 10;have g24:=x24.go l.prog w base X G λ_ F _ _=>sN F T;have g25:=x25.go l.prog w base X G λ_ F _ _=>wD F T g20 g23 g21 g24;have g32:=x32.go l.prog w base X G λ_ F _ _=>wH F T;have g26:=x26.go l.prog w base X G λ_ F _ _=>sH F T;have g27:=x27.go l.prog w base X G λ_ F m b=>lp F T m x27.k b 10;have g28:=x28.go l.prog w base X G λ_ F _ _=>pJ F T g27;have g29:=x29.go l.prog w base X G λ_ F _ _=>wB F T g28;have g30:=x30.go l.prog w base X G λ_ F _ _=>sK F T;have g31:=x31.go l.prog w base X G λ_ F _ _=>wF F T g30;have g0:=x0.go l.prog w base X G λ_ F _ _=>zo F T;have g3:=x3.go l.prog w base X G λ_ F _ _=>rc F T g0;have g4:=x4.go l.prog w base X G λ_ F _ _=>oo F T g3;have g10:=x10.go (sp:=(lZ l.prog w K mg base 13)) l.prog w base X G λ_ F _ _=>uW F T;have g1:=x1.go l.prog w base X G λ_ F _ _=>uV F T;have g2:=x2.go l.prog w base X G λ_ F _ _=>uP F T g1;have g7:=x7.go l.prog w base X G λ_ F _ _=>pH F T g2;have g5:=x5.go l.prog w base X G λ_ F m b=>om F T m x5.k b 10;have g6:=x6.go l.prog w base X G λ_ F _ _=>uO F T g5;have g8:=x8.go l.prog w base X G λ_ F _ _=>sG F T;have g9:=x9.go l.prog w base X G λ_ F _ _=>uQ F T g7 g6 g8;have g11:Fn l.prog w K mg base "steps_found" ["net", "standing"] 15 (fJ 197):=⟨_,_,pG FC11 T CT0 BM g10 g9,m11,k11,b11⟩;have g12:=x12.go l.prog w base X G λ_ F _ _=>pI F T;have g13:=x13.go l.prog w base X G λ_ F _ _=>uZ F T;have g14:=x14.go l.prog w base X G λ_ F _ _=>wE F T g13 g12;have g16:=x16.go l.prog w base X G λ_ F _ _=>sI F T g4 g11 g12 g14;have g15:=x15.go l.prog w base X G λ_ F _ _=>zq F T g4 g11 g12 g14;have g34:=x34.go l.prog w base X G λ_ F _ _=>uY F T;have g0qN:=x0.go l.prog w base X G λ_ F _ _=>wC F T;have g3qX:=x3.go l.prog w base X G λ_ F _ _=>uT F T g0qN g0;have g4qX:=x4.go1 l.prog w base X G λ_ F _ _=>zt F T N0 g3 g3qX;have g15qX:=x15.go1 l.prog w base X G λ_ F _ _=>sQ F T g4qX;have g16qX:=x16.go1 l.prog w base X G λ_ F _ _=>sP F T g4qX;have g18:=x18.go1 l.prog w base X G λ_ F _ _=>pK F T g4qX;have g17:=x17.go1 l.prog w base X G λ_ F _ _=>oq F T g4qX;have g33:=x33.go l.prog w base X G λ_ F _ _=>sM F T NM KD DST Z0 ZS;have g35:=x35.go l.prog w base X G λ_ F _ _=>uR F T NM Z0 g15qX g16qX g18 g17 g33;exact uS F36 T g19 g25 g32 g26 g29 g31 g16 g15 g34 g35
theorem DK {l:PySem.W.OpenLaw} {q:Program} {XP:E3->Heap->Prop} {d:DefRec} {K:Params->PySem.W.Frag} {as:E4} {e:∀P,as=(K P).map (·.1)} (hn:l.most=some 63) (hdf:d.params.defaults=[]) (ok:∀w:World,gR (K w.params) [TL0]=true)
  (F:∀(w:World) (mg:E3) (fa:Addr) (h:Heap),(K w.params).In h->h.Ns mainGlobals mg->mg d.name=some (.ref fa) ->
   ∃fd:FuncData,(∀(s:Shared) (u:Value),BindsTo s fd ⟨[u],[]⟩ [("script", u)])/\∀base:Heap,(K w.params).In base->base.Ns mainGlobals mg->L2.gg base mg->FnOk l.prog w (K w.params) mg base CX0 18 fa fd ["script"] (qM (K w.params) TL0)) :
  PySem.W.WalkO q loose XP (PySem.W.kmHook K as e [TL0]).says l.row.toRowW d [] (λf vs=>PySem.call f vs) :=
 L2.tT (n:=63) (k:=18) (x := "script") (CX:=λ_=>CX0) (sp:=λw=>qM (K w.params) TL0) hn (by decide) hdf ⟨rfl,by decide,by decide⟩ ok F (λ_ _ a ns hl hT hS=>⟨a,ns,rfl,hS,hl,(.inl (hT _ (by simp))),λ_=>rfl⟩) λ_ _ _ _ _ z=>z
end K2
open PySem PySem.W PyProof.Rows
set_option maxRecDepth 100000 in
set_option maxHeartbeats 0 in
theorem PySem.Challenge.cw_anydelay_k21_the_one_rest_holds : PySem.Challenge.rw_anydelay_k21_the_one_rest.Holds := by
 w_on;refine holds_law K2.sd λsaid=>?_
 refine holds_open (q:=K2.vw) (loose:=[("NoStep" : Str),("TURNED" : Str)]) (Xt:=λs=>xlAt K2.vw [] s&&recOk (RowW.records PySem.Challenge.rw_anydelay_k21_the_one_rest.row.toRowW) s) (XP:=XL K2.vw []) (Yf:=Hook.obs K2.hk) (Ya:=Hook.val K2.hk) (YP:=Hook.says K2.hk) (N:=6082) K2.left (Hook.of K2.hk) (Hook.keeps K2.hk) (λs e=>xl_of s (Bool.and_eq_true_iff.mp e).1) XL.keeps (by rfl) (by rfl) (by rfl) (λs e=>recFacts_of (Bool.and_eq_true_iff.mp e).2) (by rfl) (by first|assumption|decide +kernel) (by decide +kernel) ⟨rfl,rfl,rfl,rfl,rfl,by decide +kernel⟩ ?hw ?hc
 (case hw=>w_witness2)
 refine K2.DK (l:=PySem.Challenge.rw_anydelay_k21_the_one_rest) (K:=K2.KF) (as:=[3,23,24,36,37,56,57,68,69,80,81,92,93,104,105,108,114,115,121,122,126,127,131,132,138,139,145,146,152,153,159,160,166,167,173,174,180,181,187,188,194,195,201,202,208,209,213,214,218,219,223,224,228,229,233,234,240,241,247,248,254,255,259,260,264,265,269,270,274,275,281,282,288,289,293,294,300,301,307,308,312,313,319,320,326,327,331,332,338,339,343,344,348,349,355,356,360,361,367,368,372,373,379,380,386,387,393,394]) (e:=λ_=>rfl) rfl rfl (λw=>by kernel_rfl) ?F
 case F =>
  intro w mg fa h KX G hmg;refine' K2.Ab KX G hmg ?_ ?_ ?_ ?_ ?_ ?_ ?_ ?_ ?_ ?_ ?_ ?_ ?_ ?_ ?_ ?_ ?_ ?_ ?_ ?_ ?_ ?_ ?_ ?_ ?_ ?_ ?_ ?_ ?_ ?_ ?_ ?_ ?_ ?_ ?_ ?_ ?_ ?_ ?_ ?_ ?_ ?_ ?_ ?_ ?_ ?_ ?_ ?_ ?_ ?_ ?_ ?_ ?_ ?_ ?_ ?_ ?_ ?_ ?_ ?_ ?_ ?_ ?_ ?_ ?_ ?_ ?_ ?_ ?_ ?_
  all_goals first|exact⟨by kernel_rfl,⟨_,_,_,_,_,_,_,_,rfl⟩,by kernel_rfl,by kernel_rfl⟩|kernel_rfl|rfl|decide|decide +kernel|exact L2.yB (by kernel_rfl) (by kernel_rfl) (by kernel_rfl) (by constructor <;> kernel_rfl)|exact⟨_,⟨_,_,_,_,_,_,_,_,_,_,_,_,_,rfl,rfl,by kernel_rfl,rfl⟩⟩|(constructor <;> first|kernel_rfl|(constructor <;> kernel_rfl))
