import PyProof.Rows.All
import Wide.All
import OpenK.AllK
import Wide.FinOn
import Lean
import PyProof.EqAt
import PyProof.EqKinds
import PyProof.TupleCall
import PyProof.NeKinds
import KE.KTabLook
import KE.KIntText
import KE.KUnpack
import PyProof.StrBlock2
import KE.KLam
import KE.KDictLaws
import PyProof.DictWalks
import PyProof.Rows.StrInSeq3
import PyProof.FactsAll.list_1
import PyProof.Rows.SortShellK
import PyProof.Rows.SortKeyStr
import KE.KDictSum
import KE.KItemsList
import PyProof.Rows.SortStr
import PyProof.ZipIter
import PyProof.Draws
import PyProof.AttrMissHeap
import PyProof.DictUpdate
import PyProof.ListNew
import PyProof.FactsAll.dict_1
import PyProof.Rows.DictSet
import PyProof.ForAppend
import KE.KDictList
import PyProof.TupleIter
import PyProof.CompUse
import KE.KRevSl
import PyProof.Rows.StrNews
import PyProof.StrLawsTight
import PyProof.PureStr
import PyProof.FitsStr
import KE.KEqDict
import PyProof.StationsW
import PyProof.RulesAs
import PyProof.ExcClass2
import KE.KTryMore
import PyProof.InstStoreFacts
import PyProof.ExcBaseAll.ValueError
import PyProof.NsDelKeeps
import PyProof.SeqWrite
import PyProof.FactsAll.list_4
import PyProof.AutoListH
import PySem.Challenge.RW_anydelay_k76_rings_that_do_not_join
namespace PySem
abbrev C9:=Value->Shared->Prop
abbrev D0:=List (Addr × Obj)
abbrev D3:=Str->Option Value
abbrev D4:=List Addr
end PySem
set_option linter.all false
set_option maxRecDepth 100000
set_option Elab.async false
abbrev Qa:=@PySem.wpAny_bind
abbrev Qb:=@List.length_map
abbrev Qc:=@PySem.Heap.get?_push_of_some
abbrev Qd:=@List.getElem?_eq_getElem
abbrev Qe:=@PySem.wpAny_pure
abbrev Qf:=@List.getElem?_eq_some_iff
abbrev Qg:=@Array.length_toList
abbrev Qh:=@List.length_append
abbrev Qi:=@Nat.le_refl
abbrev Qj:=@List.mem_append
abbrev Qk:=@Bool.false_ne_true
abbrev Ql:=@List.size_toArray
abbrev Qm:=@PySem.Heap.lt_size
abbrev Qn:=@if_neg
abbrev Qo:=@List.mem_cons_of_mem
abbrev Qp:=@if_pos
abbrev Qq:=@PySem.Heap.get?_update_other
abbrev Qr:=@List.mem_map
abbrev Qs:=@PySem.Heap.get?_push_size
abbrev Qt:=@PyProof.Rows.wpS_bind
abbrev Qu:=@List.map_cons
abbrev Qv:=@Array.getElem?_toList
abbrev Qw:=@List.mem_cons
abbrev Qx:=@Array.getElem?_eq_some_iff
abbrev Qy:=@List.getElem?_map
abbrev Qz:=@PyProof.Rows.wpS_pure
abbrev QA:=@List.length_take
abbrev QB:=@Bool.false_eq_true
abbrev QC:=@List.mem_of_getElem?
abbrev QE:=@decide_eq_false
abbrev QF:=@List.mem_singleton
abbrev QG:=@decide_eq_true
abbrev QH:=@List.mem_append_left
abbrev QI:=@Array.getElem?_eq_getElem
abbrev QJ:=@List.mem_append_right
abbrev QK:=@Array.toList_append
abbrev QL:=@PySem.Obj.data_mapFields
abbrev QM:=@Nat.ne_of_lt
abbrev QN:=@Option.some.inj
abbrev QO:=@List.map_append
abbrev QP:=@PySem.wpAny_field
abbrev QQ:=@List.getD_eq_getElem?_getD
abbrev QR:=@Nat.le_trans
abbrev QS:=@Nat.lt_of_lt_of_le
abbrev QT:=@PySem.wpAny_holding
abbrev QU:=@PySem.Heap.get?_update_self
abbrev QV:=@PySem.F.plainAttrs_list
abbrev QW:=@PySem.W.mg_none_of
abbrev QX:=@List.take_append_drop
abbrev QY:=@List.not_mem_nil
abbrev QZ:=@List.getElem?_append_right
abbrev Q0:=@Nat.zero_le
abbrev Q1:=@List.take_of_length_le
abbrev Q2:=@List.length_cons
abbrev Q3:=@List.length_drop
abbrev Q4:=@List.nodup_cons
abbrev Q5:=@List.pairwise_append
abbrev Q6:=@List.mem_iff_getElem
abbrev Q7:=@PyProof.Rows.callWith_type1
abbrev Q8:=@PySem.Heap.size_push
abbrev Q9:=@Int.toNat_natCast
abbrev Xa:=@List.append_assoc
abbrev Xb:=@PySem.Obj.isFreed_of_fields
abbrev Xc:=@PySem.wpAny_setField_rec
abbrev Xd:=@List.getElem?_append_left
abbrev Xe:=@PySem.boot_len
abbrev Xf:=@PySem.Around.under_plainId
abbrev Xg:=@Nat.le_add_right
abbrev Xh:=@PySem.wpAny_call_entry
abbrev Xi:=@List.lookup_cons
abbrev Xj:=@List.nodup_append
abbrev Xk:=@PySem.wpAny_seqItems
abbrev Xl:=@List.mem_cons_self
abbrev Xm:=@PySem.wpAny_mono
abbrev Xn:=@PySem.wpAny_callSpecial?_slot
abbrev Xo:=@Ne.symm
abbrev Xp:=@if_false
abbrev Xq:=@Bool.and_eq_true
abbrev Xr:=@Array.size_append
abbrev Xs:=@List.pairwise_map
abbrev Xu:=@Bool.eq_false_iff
abbrev Xv:=@PySem.W.mg_of
abbrev Xw:=@List.eq_nil_of_length_eq_zero
abbrev Xx:=@Nat.lt_of_le_of_lt
abbrev Xy:=@Option.map_eq_some_iff
abbrev Xz:=@PyProof.Rows.wpS_forRange
abbrev XA:=@List.map_map
abbrev XB:=@PySem.codeAny_builtin
abbrev XD:=@PySem.F.slot_list_append
abbrev XG:=@PySem.F.type_list_append
abbrev XH:=@List.getElem_of_mem
abbrev XI:=@PySem.wpAny_rule
abbrev XJ:=@PyProof.Rows.boot_int
abbrev XM:=@PySem.Heap.get?_none_of_le
abbrev XQ:=@List.getElem?_of_mem
abbrev XR:=@List.forIn_cons
abbrev XS:=@List.all_eq_true
abbrev XT:=@List.getElem_mem
abbrev XU:=@List.pairwise_iff_getElem
abbrev XV:=@List.getElem?_zip_eq_some
abbrev XW:=@PySem.Heap.SameBut.update
abbrev XX:=@of_decide_eq_true
abbrev XY:=@List.length_singleton
abbrev XZ:=@List.take_succ
abbrev X0:=@List.append_nil
abbrev X1:=@PyProof.Rows.KeyOrd.kle_refl
abbrev X2:=@PySem.F.slot_zip_next
abbrev X3:=@PySem.F.slot_dict_keyiterator_next
abbrev X4:=@Nat.add_sub_cancel
abbrev X5:=@Nat.add_sub_cancel_left
abbrev X6:=@PyProof.Rows.F.plain_set_update_loop
abbrev X7:=@List.idxOf_lt_length_of_mem
abbrev X8:=@PySem.Paired.length
local macro_rules|`(tactic|z_go)=>`(tactic|first|exact .inl rfl|exact .inr rfl|assumption)
noncomputable section
namespace L2
open PySem
def cu (s:Stmt):Arguments:=match s with
 | .FunctionDef _ a _ _ _ _ _ _ _ _=>a
 | _=>{ posonlyargs:=[],args:=[],vararg:=none,kwonlyargs:=[],kw_defaults:=[],kwarg:=none,defaults:=[] }
def bN (s:Stmt):List Stmt:=match s with
 | .FunctionDef _ _ b _ _ _ _ _ _ _=>b
 | _=>[]
def aA (s:Stmt):Scope:=match s with
 | .FunctionDef _ _ _ _ _ _ sc _ _ _=>sc
 | _=>{ kind:=.function,names:=[],isGenerator:=false,isCoroutine:=false }
end L2
namespace K2
open PySem L2 PySem.W
def top (i:Nat):Stmt:=PySem.Challenge.pw_anydelay_k76_rings_that_do_not_join.main.body.getD i (.Pass ⟨0,0,0,0⟩)
noncomputable def kC (n:Str) (t:Nat) (l a fl:Int) (r:Addr) (x y:Value) (z:Addr) (u:Nat):Obj:={ cls:=.type "code", data:=.fields #[.str n t,.str n (t+1),.str "/claim/cut.py" (t+2),.int l 0,.int a 0,.int 0 0,.int 0 0,.int 3 0,.ref r,.bool true,.int fl 0,.ref (r+1),.none,x,y,.ref z,.int u 0,.int l 0,.str "/claim/cut.py" (u+1)] }
noncomputable def kF (n:Str) (i:Nat) (m:Str) (t:Nat) (c:Addr):Obj:={ cls:=.type "function", data:=.func { name:=n,qualname:=n,params:=cu (top i),body:=.stmts (bN (top i)),scope:=aA (top i),globals:=3,closure:=[],defaults:=.none,kwdefaults:=.none,pyModule:=.str m t,code:=.ref c } }
def kE (P:Params) (x:Str) (t:Nat) (v:Value):DictEntry:={ hash:=PyData.keyHash P x,key:=.str x t,val:=v }
noncomputable def kX (n:Str) (b m:List Value) (d:Addr) (u:List Value) (s:Addr) (t1 t2:Nat) (c:Value):Obj:={ cls:=.type "type", data:=.cls { name:=n,bases:=b,mro:=m,ns:=d,qualname:=n,subclasses:=u },slots:=#[some (.ref s),none,some (.str n t1),some (.str n t2),some c,some (.bool true)] }
noncomputable def KF (P:Params):Frag:=[(3,{ cls:=.type "dict", data:=.dict #[kE P "__name__" 165 (.str "law_anydelay_k76_rings_that_do_not_join" 547),kE P "__doc__" 166 .none,kE P "__package__" 167 .none,kE P "__loader__" 168 (.builtin "__main__.__loader__#opaque"),kE P "__spec__" 169 .none,kE P "__annotations__" 170 (.ref 6),kE P "__builtins__" 171 (.ref 4),kE P "__file__" 173 (.str "/claim/cut.py" 172),kE P "__cached__" 174 .none,kE P "NetError" 206 (.ref 24),kE P "NoStanding" 222 (.ref 37),kE P "NoStep" 248 (.ref 57),kE P "NoFit" 264 (.ref 69),kE P "NoText" 280 (.ref 81),kE P "NoName" 296 (.ref 93),kE P "NoRow" 312 (.ref 105),kE P "TURNED" 321 (.ref 108),kE P "row_of" 327 (.ref 113),kE P "turned_at" 335 (.ref 120),kE P "inputs_left" 347 (.ref 127),kE P "found_from" 364 (.ref 134),kE P "order_to" 378 (.ref 141),kE P "MOST_NODES" 382 (.int 40 381),kE P "row_behind" 391 (.ref 148),kE P "MOST_WIRES" 395 (.int 5 394),kE P "SIGNS_AHEAD" 402 (.ref 149),kE P "waiting_turns" 408 (.ref 154),kE P "first_marks" 414 (.ref 159),kE P "may_come" 420 (.ref 164),kE P "mark_behind" 429 (.ref 171),kE P "marks_behind" 435 (.ref 176),kE P "steps_at" 446 (.ref 183),kE P "odd_word" 457 (.ref 190),kE P "unfolded" 472 (.ref 197),kE P "unfolded_sheet" 480 (.ref 204),kE P "arcs_joined" 488 (.ref 209),kE P "signs_joined" 497 (.ref 216),kE P "rings_joined" 508 (.ref 223),kE P "steps_of_both" 519 (.ref 230),kE P "is_refused" 531 (.ref 237),kE P "first_refused" 546 (.ref 244),kE P "_law_cell_at" 556 (.ref 251),kE P "_law_numbers" 569 (.ref 258),kE P "_law_deck" 577 (.ref 265),kE P "_law_take" 585 (.ref 272),kE P "_law_wire_names" 598 (.ref 279),kE P "_law_order" 610 (.ref 286),kE P "_law_ring" 616 (.ref 291),kE P "_law_two" 622 (.ref 296),kE P "_law_signs" 632 (.ref 303),kE P "_law_joined" 638 (.ref 308),kE P "_law_fits" 649 (.ref 315),kE P "_law_copy" 656 (.ref 322),kE P "_law_spoilt" 662 (.ref 327),kE P "_law_word" 673 (.ref 334),kE P "law" 688 (.ref 341)] 56 }),
 (23,{ cls:=.type "dict", data:=.dict #[kE P "__module__" 196 (.str "anydelay.errors" 187),kE P "__firstlineno__" 200 (.int 2 199),kE P "__static_attributes__" 201 (.ref 22),kE P "__weakref__" 203 (.ref 25),kE P "__doc__" 204 .none] 3 }),
 (24,kX "NetError" [.type "ValueError"] [.ref 24,.type "ValueError", .type "Exception", .type "BaseException", .type "object"] 23 [.ref 37,.ref 57,.ref 69,.ref 81,.ref 93,.ref 105] 15 189 197 (.builtin "ValueError.__new__")),
 (36,{ cls:=.type "dict", data:=.dict #[kE P "__module__" 214 (.str "anydelay.errors" 187),kE P "__firstlineno__" 218 (.int 4 217),kE P "__static_attributes__" 219 (.ref 35),kE P "__doc__" 220 .none] 2 }),
 (37,kX "NoStanding" [.ref 24] [.ref 37,.ref 24,.type "ValueError", .type "Exception", .type "BaseException", .type "object"] 36 [] 28 207 215 (.builtin "ValueError.__new__")),
 (56,{ cls:=.type "dict", data:=.dict #[kE P "__module__" 230 (.str "anydelay.errors" 187),kE P "__firstlineno__" 234 (.int 6 233),kE P "__init__" 243 (.ref 54),kE P "__static_attributes__" 245 (.ref 55),kE P "__doc__" 246 .none] 2 }),
 (57,kX "NoStep" [.ref 24] [.ref 57,.ref 24,.type "ValueError", .type "Exception", .type "BaseException", .type "object"] 56 [] 40 223 231 (.builtin "ValueError.__new__")),
 (68,{ cls:=.type "dict", data:=.dict #[kE P "__module__" 256 (.str "anydelay.errors" 187),kE P "__firstlineno__" 260 (.int 11 259),kE P "__static_attributes__" 261 (.ref 67),kE P "__doc__" 262 .none] 2 }),
 (69,kX "NoFit" [.ref 24] [.ref 69,.ref 24,.type "ValueError", .type "Exception", .type "BaseException", .type "object"] 68 [] 60 249 257 (.builtin "ValueError.__new__")),
 (80,{ cls:=.type "dict", data:=.dict #[kE P "__module__" 272 (.str "anydelay.errors" 187),kE P "__firstlineno__" 276 (.int 13 275),kE P "__static_attributes__" 277 (.ref 79),kE P "__doc__" 278 .none] 2 }),
 (81,kX "NoText" [.ref 24] [.ref 81,.ref 24,.type "ValueError", .type "Exception", .type "BaseException", .type "object"] 80 [] 72 265 273 (.builtin "ValueError.__new__")),
 (92,{ cls:=.type "dict", data:=.dict #[kE P "__module__" 288 (.str "anydelay.errors" 187),kE P "__firstlineno__" 292 (.int 15 291),kE P "__static_attributes__" 293 (.ref 91),kE P "__doc__" 294 .none] 2 }),
 (93,kX "NoName" [.ref 24] [.ref 93,.ref 24,.type "ValueError", .type "Exception", .type "BaseException", .type "object"] 92 [] 84 281 289 (.builtin "ValueError.__new__")),
 (104,{ cls:=.type "dict", data:=.dict #[kE P "__module__" 304 (.str "anydelay.errors" 187),kE P "__firstlineno__" 308 (.int 17 307),kE P "__static_attributes__" 309 (.ref 103),kE P "__doc__" 310 .none] 2 }),
 (105,kX "NoRow" [.ref 24] [.ref 105,.ref 24,.type "ValueError", .type "Exception", .type "BaseException", .type "object"] 104 [] 96 297 305 (.builtin "ValueError.__new__")),
 (108,{ cls:=.type "dict", data:=.dict #[kE P "0" 315 (.str "1" 316),kE P "1" 317 (.str "0" 318)] 2 }),
 (112,kC "row_of" 322 21 2 181 109 .none .none 111 325),
 (113,kF "row_of" 10 "anydelay.nets" 313 112),
 (119,kC "turned_at" 328 23 2 181 114 (.ref 116) (.ref 117) 118 333),
 (120,kF "turned_at" 11 "anydelay.nets" 313 119),
 (126,kC "inputs_left" 338 26 2 181 121 (.ref 123) (.ref 124) 125 345),
 (127,kF "inputs_left" 13 "anydelay.joining" 336 126),
 (133,kC "found_from" 350 33 2 181 128 (.ref 130) (.ref 131) 132 362),
 (134,kF "found_from" 15 "anydelay.orders" 348 133),
 (140,kC "order_to" 365 48 3 181 135 (.ref 137) (.ref 138) 139 376),
 (141,kF "order_to" 16 "anydelay.orders" 348 140),
 (147,kC "row_behind" 383 61 3 181 142 (.ref 144) (.ref 145) 146 389),
 (148,kF "row_behind" 19 "anydelay.sheets" 379 147),
 (149,{ cls:=.type "dict", data:=.dict #[kE P "+" 396 (.str "0" 397),kE P "-" 398 (.str "1" 399)] 2 }),
 (153,kC "waiting_turns" 403 66 1 181 150 .none .none 152 406),
 (154,kF "waiting_turns" 23 "anydelay.turnsheets" 392 153),
 (158,kC "first_marks" 409 68 1 181 155 .none .none 157 412),
 (159,kF "first_marks" 24 "anydelay.turnsheets" 392 158),
 (163,kC "may_come" 415 70 3 181 160 .none .none 162 418),
 (164,kF "may_come" 25 "anydelay.turnsheets" 392 163),
 (170,kC "mark_behind" 421 72 3 181 165 (.ref 167) (.ref 168) 169 427),
 (171,kF "mark_behind" 26 "anydelay.turnsheets" 392 170),
 (175,kC "marks_behind" 430 76 3 181 172 .none .none 174 433),
 (176,kF "marks_behind" 27 "anydelay.turnsheets" 392 175),
 (182,kC "steps_at" 436 78 2 181 177 (.ref 179) (.ref 180) 181 444),
 (183,kF "steps_at" 28 "anydelay.turnsheets" 392 182),
 (189,kC "odd_word" 447 85 3 181 184 (.ref 186) (.ref 187) 188 455),
 (190,kF "odd_word" 29 "anydelay.turnsheets" 392 189),
 (196,kC "unfolded" 458 91 1 181 191 (.ref 193) (.ref 194) 195 470),
 (197,kF "unfolded" 30 "anydelay.turnsheets" 392 196),
 (203,kC "unfolded_sheet" 473 112 1 181 198 (.ref 200) (.ref 201) 202 478),
 (204,kF "unfolded_sheet" 31 "anydelay.turnsheets" 392 203),
 (208,kC "arcs_joined" 483 118 1 181 205 .none .none 207 486),
 (209,kF "arcs_joined" 33 "anydelay.ringsjoined" 481 208),
 (215,kC "signs_joined" 489 123 2 181 210 (.ref 212) (.ref 213) 214 495),
 (216,kF "signs_joined" 34 "anydelay.ringsjoined" 481 215),
 (222,kC "rings_joined" 498 129 2 181 217 (.ref 219) (.ref 220) 221 506),
 (223,kF "rings_joined" 35 "anydelay.ringsjoined" 481 222),
 (229,kC "steps_of_both" 509 136 3 181 224 (.ref 226) (.ref 227) 228 517),
 (230,kF "steps_of_both" 36 "anydelay.ringsjoined" 481 229),
 (236,kC "is_refused" 520 142 4 181 231 (.ref 233) (.ref 234) 235 529),
 (237,kF "is_refused" 37 "anydelay.ringsjoined" 481 236),
 (243,kC "first_refused" 532 146 2 181 238 (.ref 240) (.ref 241) 242 544),
 (244,kF "first_refused" 38 "anydelay.ringsjoined" 481 243),
 (250,kC "_law_cell_at" 549 157 2 181 245 (.ref 247) (.ref 248) 249 554),
 (251,kF "_law_cell_at" 40 "law_anydelay_k76_rings_that_do_not_join" 547 250),
 (257,kC "_law_numbers" 557 161 2 181 252 (.ref 254) (.ref 255) 256 567),
 (258,kF "_law_numbers" 41 "law_anydelay_k76_rings_that_do_not_join" 547 257),
 (264,kC "_law_deck" 570 174 2 181 259 (.ref 261) (.ref 262) 263 575),
 (265,kF "_law_deck" 42 "law_anydelay_k76_rings_that_do_not_join" 547 264),
 (271,kC "_law_take" 578 176 2 181 266 (.ref 268) (.ref 269) 270 583),
 (272,kF "_law_take" 43 "law_anydelay_k76_rings_that_do_not_join" 547 271),
 (278,kC "_law_wire_names" 586 180 2 181 273 (.ref 275) (.ref 276) 277 596),
 (279,kF "_law_wire_names" 44 "law_anydelay_k76_rings_that_do_not_join" 547 278),
 (285,kC "_law_order" 599 191 2 181 280 (.ref 282) (.ref 283) 284 608),
 (286,kF "_law_order" 45 "law_anydelay_k76_rings_that_do_not_join" 547 285),
 (290,kC "_law_ring" 611 203 5 181 287 .none .none 289 614),
 (291,kF "_law_ring" 46 "law_anydelay_k76_rings_that_do_not_join" 547 290),
 (295,kC "_law_two" 617 222 2 181 292 .none .none 294 620),
 (296,kF "_law_two" 47 "law_anydelay_k76_rings_that_do_not_join" 547 295),
 (302,kC "_law_signs" 623 235 1 181 297 (.ref 299) (.ref 300) 301 630),
 (303,kF "_law_signs" 48 "law_anydelay_k76_rings_that_do_not_join" 547 302),
 (314,kC "_law_fits" 639 255 2 181 309 (.ref 311) (.ref 312) 313 647),
 (315,kF "_law_fits" 50 "law_anydelay_k76_rings_that_do_not_join" 547 314),
 (321,kC "_law_copy" 650 262 1 181 316 (.ref 318) (.ref 319) 320 654),
 (322,kF "_law_copy" 51 "law_anydelay_k76_rings_that_do_not_join" 547 321),
 (326,kC "_law_spoilt" 657 264 3 181 323 .none .none 325 660),
 (327,kF "_law_spoilt" 52 "law_anydelay_k76_rings_that_do_not_join" 547 326),
 (333,kC "_law_word" 663 288 3 181 328 (.ref 330) (.ref 331) 332 671),
 (334,kF "_law_word" 53 "law_anydelay_k76_rings_that_do_not_join" 547 333),
 (340,kC "law" 674 302 1 181 335 (.ref 337) (.ref 338) 339 686),
 (341,kF "law" 54 "law_anydelay_k76_rings_that_do_not_join" 547 340)]
noncomputable def hk:Hook:=kmHook KF [3,23,24,36,37,56,57,68,69,80,81,92,93,104,105,108,112,113,119,120,126,127,133,134,140,141,147,148,149,153,154,158,159,163,164,170,171,175,176,182,183,189,190,196,197,203,204,208,209,215,216,222,223,229,230,236,237,243,244,250,251,257,258,264,265,271,272,278,279,285,286,290,291,295,296,302,303,314,315,321,322,326,327,333,334,340,341] (λ_=>rfl) []
noncomputable def vw:Program:={ PySem.Challenge.pw_anydelay_k76_rings_that_do_not_join with main:={ PySem.Challenge.pw_anydelay_k76_rings_that_do_not_join.main with body:=[1,2,3,4,5,6,7,9,10,11,13,15,16,18,19,21,22,23,24,25,26,27,28,29,30,31,33,34,35,36,37,38,40,41,42,43,44,45,46,47,48,49,50,51,52,53,54].map top } }
def LW (w:World):Prop:=(openEnds treeTable PySem.Challenge.rw_anydelay_k76_rings_that_do_not_join.prog w 5694).map (λs=>(openSeen vw [("NoStep" : Str),("TURNED" : Str),("SIGNS_AHEAD" : Str)] (importedModules PySem.Challenge.rw_anydelay_k76_rings_that_do_not_join.prog.main.body) (λs=>xlAt vw [] s&&recOk (RowW.records PySem.Challenge.rw_anydelay_k76_rings_that_do_not_join.row.toRowW) s) true s,Hook.obs hk s))=some (openGood vw [("NoStep" : Str),("TURNED" : Str),("SIGNS_AHEAD" : Str)],Hook.val hk w)
set_option maxHeartbeats 0 in
theorem sd:PySem.Challenge.rw_anydelay_k76_rings_that_do_not_join.wellSaid=true:=by kernel_rfl
set_option maxHeartbeats 0 in
theorem Bo:∀w:World,LW (w.withFollow "special-get-raises" false):=λw=>by unfold LW;kernel_rfl
set_option maxHeartbeats 0 in
theorem Bn:∀w:World,LW (w.withFollow "special-get-raises" true):=λw=>by unfold LW;kernel_rfl
theorem left:LeftO PySem.Challenge.rw_anydelay_k76_rings_that_do_not_join.prog vw [("NoStep" : Str),("TURNED" : Str),("SIGNS_AHEAD" : Str)] (λs=>xlAt vw [] s&&recOk (RowW.records PySem.Challenge.rw_anydelay_k76_rings_that_do_not_join.row.toRowW) s) (Hook.obs hk) (Hook.val hk) 5694:=λw=>byRow2 (P:=LW) "special-get-raises" Bo Bn w
end K2
section
variable {a b c d e f g h i j k l m n x r lo:Nat}
local macro_rules | `(tactic|kd_p) => `(tactic| (intros; first | solve_by_elim (maxDepth := 3) [Nat.le_of_lt, QS, Xx, QR, Nat.lt_of_not_ge, Nat.lt_of_not_le, Nat.le_of_not_lt, Nat.ge_of_not_lt, Xg, Nat.le_add_left, Nat.sub_le, Nat.lt_succ_self, Nat.le_succ, Nat.add_le_add_left, Nat.add_le_add_right, Nat.add_lt_add_left, Nat.add_lt_add_right, Nat.succ_le_of_lt, Nat.lt_of_succ_le, Nat.le_of_eq, Nat.le_antisymm, Nat.lt_of_le_of_ne, Qi, Q0, Nat.sub_lt, Nat.succ_le_succ, Nat.lt_succ_of_le, Nat.le_of_lt_succ, Eq.symm, Eq.trans] | (subst_vars; solve_by_elim (maxDepth := 3) [Nat.le_of_lt, QS, Xx, QR, Nat.lt_of_not_ge, Nat.lt_of_not_le, Nat.le_of_not_lt, Nat.ge_of_not_lt, Xg, Nat.le_add_left, Nat.sub_le, Nat.lt_succ_self, Nat.le_succ, Nat.add_le_add_left, Nat.add_le_add_right, Nat.add_lt_add_left, Nat.add_lt_add_right, Nat.succ_le_of_lt, Nat.lt_of_succ_le, Nat.le_of_eq, Nat.le_antisymm, Nat.lt_of_le_of_ne, Qi, Q0, Nat.sub_lt, Nat.succ_le_succ, Nat.lt_succ_of_le, Nat.le_of_lt_succ, Eq.symm, Eq.trans])))
theorem om0:a<=b->¬a<b->a=b:=by grind
theorem om1:a-b<=a-b:=by simp_all
theorem om2:¬b<a->a<=b:=by kd_p
theorem om4:c<=b->c=a->a<=b:=by kd_p
theorem om5:a+1≠a:=by simp_all
theorem om6:b<a->a-(b+1)<a-b:=by omega
theorem om7:c=d->c=a->d=b->a=b:=by kd_p
theorem om8:a+(c+1)<b->a<b:=by grind
theorem om9:b=c->b=d->c=e->a<d->a<b:=by intros;simp_all
theorem CG:c=b->c=d->b=e->a<d->a<b:=by intros;simp_all
theorem Bb:a+(b+1)<c->a+1+b<c:=by omega
theorem uu:b=c->a<c->a<b:=by kd_p
theorem AX:a<c->b=c->a<b:=by kd_p
theorem AL:c=a->d=b->c=d->a=b:=by kd_p
theorem ut:a+64<b->a<b:=by grind
theorem Aw:a+64<b->a+1+8<b:=by grind
theorem k_:c=b->a<c->a<b:=by kd_p
theorem CF:b<=a->a<=c->a-b<=c-0:=by grind
theorem CD:a<b->a+(b-a) / 2+1<=b:=by grind
theorem CC:a<b+(c-b) / 2+1->a<=b+(c-b) / 2:=by kd_p
theorem CB:b<=c->a<b->a+(b-a) / 2<c:=by grind
theorem CA:a<=a+(b-a) / 2:=by kd_p
theorem Cz:b<=c->a<b->a+(b-a) / 2<=c:=by omega
theorem zc:a<=b->b-a<=c-max 0 c->a=b:=by grind
theorem Cy:a<b->a+0<b:=by kd_p
theorem yX:a<c->¬b>=c-a->a+b<c:=by grind
theorem yS:a<2*a+1:=by grind
theorem Cw:a<d->b<c->a+b<d->a+b+1<=a+min c (d-a):=by grind
theorem Cv:a<c->a+min b (c-a)<=c:=by grind
theorem Cu:a<b+c+1->a<=b+c:=by kd_p
theorem Ct:a<d->a+min b (d-a)<=c->b<d-a->a+b<=c:=by grind
theorem xa:a<=b->a>=b->a=b:=by grind
theorem yR:b<=c->¬a>=b->a+(b-a) / 2<c:=by grind
theorem ur:¬a>=b->a<b:=by kd_p
theorem w_:0<=a:=by kd_p
theorem Cs:a<c->d<b->¬b>=a+1->a-b<c:=by grind
theorem Cr:¬a>=b+1->a<=b:=by kd_p
theorem Cq:c<b->c<=a->a+1-min b (a+1)<=a-c:=by omega
theorem Cp:a<c->b<=a->a-b<=c:=by grind
theorem Co:a<b+1-min c (b+1)->c<b+1->a<=b-c:=by grind
theorem Cn:a<c->d<b->b<a+1->a-b<c:=by grind
theorem Cm:a+1=b->a<b:=by kd_p
theorem Cl:a+b+1=a+(b+1):=by kd_p
theorem rP:a<=b->a+1<=b+1:=by kd_p
theorem Ck:a+b+1=a+1+b:=by grind
theorem yQ:a<min b c->a<min b c:=by kd_p
theorem uq:a<min b c->a<b:=by grind
theorem yP:a+b<=c->min (a+b) c-a=b:=by intros;simp_all
theorem Cj:a+b+c=a+c+b:=by grind
theorem yO:c=d->a<=b->a<=b+c:=by grind
theorem Ci:a+b+c=a+(b+c):=by grind
theorem yN:a<=b->¬a=b->a<b:=by grind
theorem yM:a+d<=c->b<d->a+b<c:=by grind
theorem Ch:a+d<=c->b<=e->e<d->a+b<c:=by grind
theorem rO:a<=a+b:=by kd_p
theorem Cg:b<=c->a+b<=a+c:=by kd_p
theorem Cf:b<c->a+b<a+c:=by kd_p
theorem rN:1<=a->0<a:=by kd_p
theorem yL:1<=a->0<=a:=by kd_p
theorem Ce:1<=a->¬0+1=a->0+1<a:=by grind
theorem Cd:1<=b->1<=a->¬1=a->¬0+1=b->1<a:=by grind
theorem w9:a+1<b->a<b:=by kd_p
theorem w6:a<b->¬a+1=b->a+1<b:=by omega
theorem uo:a+1+(b+1)<=a+1+b+1:=by kd_p
theorem yK:a+1<b->¬a+1+1=b->a+1+1<b:=by omega
theorem Cc:a+1<b->a+(b-a)<=b:=by grind
theorem Cb:b+1<a->0<a-b:=by grind
theorem Ca:a<b->a+1+(b-(a+1))<=b:=by omega
theorem B_:b<a->¬b+1=a->0<a-(b+1):=by omega
theorem yJ:a+1+(b+1)<=a+1+b+1+1:=by kd_p
theorem B9:a<c->b<=c-(a+1)->a+1+b<=c:=by grind
theorem yI:¬a>0->a=0:=by simp
theorem B8:b<a->¬b+1=a->0<=a-(b+1)->0<a-(b+1):=by grind
theorem B7:a+1<c->b<=c-a->a+b<=c:=by grind
theorem B6:b+1<a->0<=a-b->0<a-b:=by omega
theorem B5:1<=a->a=a-1+1:=by intros;simp_all
theorem yH:1<=a->a<=b->a-1<=b:=by grind
theorem B4:1<=b->a+b+c=d+e->a+1+(b-1)+c=d+e:=by grind
theorem B3:1<=c->a+b+c=d+e->a+1+b+(c-1)=d+e:=by grind
theorem B2:a<min b c-d->a<min b c-d:=by intros;simp_all
theorem yG:b<min c d-a->a+b<c:=by omega
theorem yF:c<=a->a<=b->min a b-c=a-c:=by intros;simp_all
theorem yE:a<=c->c<=b->a<=b:=by grind
theorem yD:c=d-e->a<=b->a<=b+c:=by grind
theorem pL:1<=a->a-1<a:=by grind
theorem B1:1<=b->1<=c->¬a=0->¬c=1->1<=a:=by grind
theorem w4:1<=a->a<=b->a-1<b:=by omega
theorem wZ:2<=a->a<=b->a-1<b:=by grind
theorem rM:2<=a->1<=a:=by kd_p
theorem yt:1<=a->¬a-1=0->1<=a-1:=by omega
theorem yr:2<=a->¬a-1=1->2<=a-1:=by grind
theorem B0:a<=b->0+a<=b:=by grind
theorem BZ:2<=a->a<=b->0+(a-1)<=b:=by grind
theorem BY:2<=a->a-1-1<a-1:=by grind
theorem BX:a<=b-1->a<=b-1:=by kd_p
theorem BW:¬a=1->¬a=0->2<=a:=by grind
theorem BV:2<=a->c=a-1-b->¬c>0->a-1-1<b:=by omega
theorem wY:a<=b->a<=b:=by simp
theorem Bh:¬a=0->1<=a:=by grind
theorem Bg:1<=a->c=a-b->¬c>0->a-1<b:=by omega
theorem Be:a<=b->b<1->a=b:=by intros;simp_all
theorem vN:a<b+1->¬a<b->a=b:=by grind
theorem vM:a<=b->1<=b->¬a=b->a<=b-1:=by grind
theorem vL:1<=b->b<=a->1<=a:=by omega
theorem rS:a<b->a<=b:=by kd_p
theorem Bd:a<=b->max a b=b:=by intros;simp_all
theorem Bc:d<=a->b<d->¬(a<=b/\b<c):=by grind
theorem vK:1<=b->a+b-1=a+(b-1):=by grind
theorem Ba:a<=b->¬a=b->max (a+1) b=b:=by grind
theorem oj:a+d<=e->b<d->c=e->a+b<c:=by omega
theorem A_:c+1<=b->a+b-1=a+(b-1):=by grind
theorem rR:b+1<=a->1<=a:=by grind
theorem vJ:c+1<=b->a<=a+b-(c+1):=by omega
theorem A9:a+d<=e->b<d->c=e->a+b<=c:=by grind
theorem vI:0+1<=a+1:=by kd_p
theorem A8:b+1-(0+1)<=a->a<b+1->a=b+1-1:=by grind
theorem A7:a+1<=b->a+1+1<=b+1:=by kd_p
theorem A6:a+1-1=a:=by kd_p
theorem A5:a<b+1->¬a=b->a<b:=by omega
theorem A4:a+d<=e->b<=d->f=e->c=e->a+b<=c:=by grind
theorem A3:b<=d->d<c->a<=a+b/\a+b<a+c:=by grind
theorem A2:b<c->a<=a+b/\a+b<a+c:=by intros;simp_all
theorem A1:c<=b->b<a->a-1-b<=a-1-c:=by omega
theorem A0:b<=c->c<a->a-1-b<a:=by grind
theorem AZ:b+1<=c->c<=a->1<=a:=by grind
theorem AY:a+d<=e->b<=d->c=e->a+b<=c:=by grind
theorem AW:1<=c->a+c<=b->a<b:=by grind
theorem AV:b>1->a+b-1=a+(b-1):=by grind
theorem AU:b>1->a<b->a<=b-1:=by grind
theorem AT:a>1->a-1<a:=by omega
theorem AS:a+d<=c->b<=d->a+b<=c:=by grind
theorem AR:a<=c->c<b->a<b:=by grind
theorem AQ:1<=c->¬c>1->a<=b->b<c->a=b:=by grind
theorem AO:a<=b->b<min (max c 1) d->c=0->a=b:=by grind
theorem AN:b<=c->a<min (max b 1) c->¬b=0->a<b:=by grind
theorem AM:min (max (max a 1) b) b=b:=by grind
theorem AK:a<b->min a b=a:=by grind
theorem AJ:a<=a:=by simp
theorem AI:a-0<=a-0:=by kd_p
theorem AH:¬a>=b->a<=(a+b) / 2:=by grind
theorem AG:b<=c->¬a>=b->(a+b) / 2<=c:=by grind
theorem AF:¬a>=b->(a+b) / 2+1<=b:=by omega
theorem AE:a<(b+c) / 2+1->a<=(b+c) / 2:=by kd_p
theorem AD:b<=c->¬a>=b->(a+b) / 2<c:=by omega
theorem AC:c<=b->d<a->a+b-(a+c)<=a+b:=by kd_p
theorem AB:d<=c->a<b->¬a=b+c-(b+c-(b+d)):=by omega
theorem AA:a<b->min (a+1) b=a+1:=by grind
theorem vH:c<=b->a+b-(a+c)<=a+b:=by kd_p
theorem Az:c<=b->a+b-(a+b-(a+c))=a+c:=by grind
theorem Ay:c<b->a+b-1=a+(b-1):=by grind
theorem vG:b<c->¬a+b=a+c:=by grind
theorem vF:c<b->¬(a+b<a+c/\a+c<=a+d):=by grind
theorem Ax:c<=b->a<b+1->a<c->a<b:=by grind
theorem vE:b=c->a+b=a+c:=by kd_p
theorem vD:¬b=c->¬a+b=a+c:=by simp
theorem vC:¬b<a->¬b=a->a<b:=by grind
theorem Av:a<=b->a<c->¬b<c->a<=b-1:=by grind
theorem Au:c<=b->d<=a->a<b+1->d<c->a-1<b:=by omega
theorem As:d=c->b=c->a+b=a+c:=by kd_p
theorem Ar:d=c->¬b=c->¬a+b=a+c:=by intros;simp_all
theorem Aq:c<=b->c=a->¬b=a->a<b:=by omega
theorem Ap:c<=b->c=a->¬b=a->a<=b-1:=by grind
theorem Ao:c<=a->a<b+1->c=d->¬a=d->a-1<b:=by grind
theorem An:d<=b->¬d<c->¬d=c->¬a+b=a+c:=by grind
theorem Am:c<=b->¬c<a->¬c=a->a<b:=by grind
theorem Ak:a<=b->a-1<=b-1:=by omega
theorem Aj:c<=a->a<b+1->¬c<d->¬c=d->a-1<b:=by grind
theorem Ai:c=a+b->¬a+b<c:=by intros;simp_all
theorem Ah:c=a+b->a+b-c=0:=by intros;simp_all
theorem Ag:a=b+c->a+1=b+(c+1):=by kd_p
theorem Af:¬a+1<a:=by simp
theorem Ae:1<=b->d=a+(b+(e+f))->a<=a+b+c:=by grind
theorem Ad:1<=a->d=b+(a+(e+f))->a<=b+a+c-b:=by grind
theorem Ac:a+b+c-a-b=c:=by grind
theorem Ab:1<=b->c=d+(b+(e+f))->a<b->a<=b-1:=by grind
theorem Aa:1<=d->c=a+(b+(d+e))->a+b<=c:=by kd_p
theorem z_:1<=a->b=c+(a+(d+e))->0<a:=by kd_p
theorem zZ:a<=b->a+(b-a)=b:=by intros;simp_all
theorem zY:a<=c->c<=b->a+(b-a)=b:=by grind
theorem zX:b<=a->a<=c->a-b<=c-b:=by grind
theorem zW:c=d+(b+(e+f))->g<=b->a<g->a<b:=by grind
theorem zV:1<=a->b=c+(a+(d+e))->a-1<a:=by grind
theorem zU:d=a+(b+(c+e))->a+b+c<=d:=by grind
theorem rQ:c<=b->a<c->a<b:=by grind
theorem zS:a=0->a<=b:=by intros;simp_all
theorem zR:d=a+(c+(e+f))->b<=c->a+min b c=a+b+0:=by intros;simp_all
theorem zQ:c<=d->e=c->a-b+min c d=a-b+c:=by intros;simp_all
theorem zP:c=d->d<=b->a<d->a<=b:=by grind
theorem zO:a<c->c<=b->a<=b:=by grind
theorem vB:a<min b (c-d)->a<b:=by grind
theorem zN:a+1<b->min a b=a:=by grind
theorem zM:b=c+a->max 0 b<=c->a=0:=by grind
theorem zL:b=c->c=d+a->d>=c->a=0:=by grind
theorem zK:c=d->¬b>=d->d=b->a<=b:=by kd_p
theorem zJ:c=a->a=b+d->¬b>=a->1<=a-b:=by grind
theorem zI:c=b->b=a+d->¬a>=b->a+(b-a)<=c:=by intros;simp_all
theorem zH:a<=c->1<=d->e=c->b=c+d->a+1<=b:=by grind
theorem zF:a=b->a>1->a-2+1<b:=by grind
theorem zE:a=c+d->a+b=c+(d+b):=by grind
theorem zD:a<=c->b≠0->a+1<=b+c:=by grind
theorem zC:b=c->a<=c->a+0<=b+1:=by kd_p
theorem zB:b=a->b<=1->a<=1:=by kd_p
theorem zw:b=c->a+max 0 b<=b+1->a<=1:=by grind
theorem vA:a<=100000->a<=16777216:=by grind
theorem zv:a<=100000->b=a->b<2->a<=16777216+1:=by grind
theorem zu:a<=100000->b=a->¬b<2->2<=a:=by kd_p
theorem zt:a<=100000->b=a->¬b<2->a<=16777216+1:=by grind
theorem zq:a<=d+c->d<=b+1->a<=b+(c+1):=by grind
theorem zp:a+2≠a+4:=by simp
theorem zo:a+3≠a+4:=by simp_all
theorem zn:a≠a+4:=by grind
theorem zm:a+1≠a+4:=by simp_all
theorem zk:a+2≠a+3:=by simp
theorem zj:a+2≠a:=by grind
theorem zi:a+2≠a+1:=by simp
theorem zh:a+3≠a:=by simp
theorem zg:a+3≠a+1:=by simp
theorem ze:a≠a+1:=by simp
theorem zd:b=a+5->a<=b:=by intros;simp_all
theorem zb:a<=a+1:=by simp
theorem za:b-a=0->a<=b->a=b:=by grind
theorem y_:a-b=0->0=a-b:=by kd_p
theorem yZ:b-a=c+1->a<=b->a<b:=by grind
theorem yY:c<=b->a<=d->d<c->a<=b:=by grind
theorem yW:a-b=c+1->b<a->a-(b+1)=c:=by grind
theorem yV:a<b->a+1<=b:=by kd_p
theorem yU:a-b=c+1->b<a->a-(b+1)+1=a-b:=by omega
theorem yT:a+(b+1)=a+1+b:=by grind
theorem yC (h:k-l<=n-x):k-(l+(k-l)/2+1)<=n-(x+1):=by rw[Nat.add_assoc,<-Nat.sub_sub,<-Nat.sub_sub n x 1];exact QR (Nat.sub_le_sub_left (Nat.le_add_left 1 _) _) (Nat.sub_le_sub_right h 1)
theorem yB (h:k-l<=n-x) (e:l<k):l+(k-l)/2-l<=n-(x+1):=by rw[X5,<-Nat.sub_sub n x 1];exact QR (Nat.le_sub_one_of_lt (Nat.div_lt_self (Nat.sub_pos_of_lt e) (by decide))) (Nat.sub_le_sub_right h 1)
theorem yA (h:r-l<=k-x) (c:¬l>=r):r-((l+r)/2+1)<=k-(x+1):=by rw[<-Nat.sub_sub,<-Nat.sub_sub k x 1];exact Nat.sub_le_sub_right (QR (Nat.sub_le_sub_left ((Nat.le_div_iff_mul_le (by decide)).mpr (by rw[Nat.mul_two];exact Nat.add_le_add_left (Nat.le_of_lt (Nat.lt_of_not_ge c)) _)) _) h) 1
theorem yz (h:r-l<=k-x) (c:¬l>=r):(l+r)/2-l<=k-(x+1):=by rw[<-Nat.sub_sub k x 1];refine QR ?_ (Nat.sub_le_sub_right h 1);rw[Nat.sub_sub,Nat.add_comm l 1,<-Nat.sub_sub];exact Nat.sub_le_sub_right (Nat.le_sub_one_of_lt ((Nat.div_lt_iff_lt_mul (by decide)).mpr (by rw[Nat.mul_two];exact Nat.add_lt_add_right (Nat.lt_of_not_ge c) _))) _
theorem vz (h:d<=x) (q:lo+x-d<=lo+i/\lo+i<lo+x):lo+x-d+(lo+x)-1-(lo+i)=lo+(x-d+x-1-i)/\x-d<=x-d+x-1-i/\x-d+x-1-i<x/\x-d<=i/\i<x:=by obtain⟨y,rfl⟩:∃y,x=y+d:=⟨x-d,(Nat.sub_add_cancel h).symm⟩;have e:lo+(y+d)-d=lo+y:=(by rw[<-Nat.add_assoc,X4]);rw[e]at q;rw[e,X4];obtain⟨p,rfl⟩:∃p,i=y+p:=⟨i-y,(Nat.add_sub_of_le (Nat.le_of_add_le_add_left q.1)).symm⟩;have l:=Nat.lt_of_add_lt_add_left (Nat.lt_of_add_lt_add_left q.2);obtain⟨z,rfl⟩:∃z,d=p+1+z:=⟨d-(p+1),(Nat.add_sub_of_le l).symm⟩;have t:∀u:Nat,u+y+(u+(y+(p+1+z)))-1-(u+(y+p))=u+(y+z):=(λu=>by rw[show u+y+(u+(y+(p+1+z)))=u+(y+p)+(u+(y+z))+1 by ac_rfl,X4,X5]);have t0:=t 0;simp only[Nat.zero_add]at t0;rw[t,t0];exact⟨rfl,Xg _ _,by omega,Xg _ _,Nat.add_lt_add_left l _⟩
theorem rL (q:i<n):lo+(lo+n)-1-(lo+i)=lo+(n-1-i):=by obtain⟨p,rfl⟩:∃p,n=i+1+p:=⟨n-(i+1),(Nat.add_sub_of_le q).symm⟩;rw[show lo+(lo+(i+1+p))=lo+i+(lo+p)+1 by ac_rfl,X4,X5,Nat.sub_sub,Nat.add_comm 1 i,X5]
theorem yy (h:k<=x):f+k+(x-k)-1=f+(x-1)\/x=0:=by obtain⟨y,rfl⟩:∃y,x=k+y:=⟨x-k,(Nat.add_sub_of_le h).symm⟩;rw[X5,Nat.add_assoc];cases (k+y);exact .inr rfl;exact .inl rfl
theorem yx (h:k<=x) (q:¬x-k=0) (z:m=x-k):k+(m-1)=x-1:=by subst z;rw[<-Nat.add_sub_assoc (Nat.pos_of_ne_zero q),Nat.add_sub_of_le h]
theorem yw (h:2<=n) (q:¬n-1=1):2<=n-1:=Nat.le_sub_one_of_lt (Nat.lt_of_le_of_ne h λz=>q (by rw[<-z]))
theorem yu (h:j=n-2-1\/j=n-2) (q:¬n<=1) (e:n=m):j+1<m:=by subst e;obtain⟨z,rfl⟩:∃z,n=z+2:=⟨n-2,(Nat.sub_add_cancel (Nat.lt_of_not_le q)).symm⟩;rw[X4]at h;rcases h with rfl|rfl;exact Nat.lt_succ_of_le (Nat.add_le_add_right (Nat.sub_le _ _) 1);exact Nat.lt_succ_self _
end
set_option maxHeartbeats 4000000
namespace TK
open PySem
section
variable {prog:Program} {w:World} {K:Type} [DecidableEq K] (knd:KeyKind prog w K)
def It (h:Heap):K ⊕ List K->Value->Prop
 | .inl k,v=>knd.is k v=true
 | .inr ks,v=>∃a,v=.ref a/\IsTupleKey knd h ks a
inductive Its (h:Heap):List (K ⊕ List K)->List Value->Prop
 | nil:Its h [] []
 | cons {k:K ⊕ List K} {v:Value} {ks:List (K ⊕ List K)} {vs:List Value}:It knd h k v->Its h ks vs->Its h (k::ks) (v::vs)
def IsT (h:Heap) (ks:List (K ⊕ List K)) (a:Addr):Prop:=∃o items n,h.get? a=some o/\o.cls=.type "tuple" /\ o.data=.seq items n/\Its knd h ks items.toList
def hsh:K ⊕ List K->Int
 | .inl k=>knd.hash k
 | .inr ks=>tupleKeyHash knd ks
def drw:K ⊕ List K->Nat
 | .inl _=>1
 | .inr ks=>ks.length+1
def mZ (ks:List (K ⊕ List K)):Nat:=(ks.map drw).sum
def xD (ks:List (K ⊕ List K)):Int:=reduceHash (Builtin.Tuple.tupleHashOf (ks.map (hsh knd)))
variable {knd}
variable {v u:Value} {h h':Heap}
theorem It.inj {x y:K ⊕ List K} (hx:It knd h x v) (hy:It knd h y v):x=y:=by
 cases x with
 | inl k =>
  cases y with
  | inl j=>rw[knd.inj _ _ _ hx hy]
  | inr js =>
  obtain⟨a,rfl,_⟩:=hy;exact absurd (knd.byValue _ _ hx) (by simp[carriedByValue])
 | inr ks =>
 obtain⟨a,rfl,hx⟩:=hx
 cases y with
 | inl j=>exact absurd (knd.byValue _ _ hy) (by simp[carriedByValue])
 | inr js =>
 obtain⟨b,e,hy⟩:=hy;cases e;rw[hx.inj hy]
variable {x y ks:List (K ⊕ List K)}
theorem Its.inj {vs:List Value} (hx:Its knd h x vs) (hy:Its knd h y vs):x=y:=by
 induction hx generalizing y with
 | nil=>cases hy;rfl
 | cons h1 _ ih =>
 cases hy with
 | cons h2 t2=>rw[h1.inj h2,ih t2]
variable {d a b:Addr}
theorem It.keeps {k:K ⊕ List K} {o:Obj} {es ep} (x:It knd h k v) (ho:h.get? d=some o) (hd:o.data=.dict es ep) (hs:Heap.SameBut d h h'):It knd h' k v:=by
 cases k with
 | inl k=>exact x
 | inr ks=>obtain⟨a,e,x⟩:=x;exact⟨a,e,x.keeps ho hd hs⟩
theorem Its.imp {vs:List Value} (f:∀k v,It knd h k v->It knd h' k v) (x:Its knd h ks vs):Its knd h' ks vs:=by
 induction x with
 | nil=>exact .nil
 | cons h1 _ ih=>exact .cons (f _ _ h1) ih
theorem IsT.typeIs {s:Shared} (x:IsT knd s.heap ks a):s.TypeIs (.ref a) "tuple" := let ⟨o,_,_,ho,hc,_⟩:=x;⟨o,ho,hc⟩
theorem IsT.inj (hx:IsT knd h x a) (hy:IsT knd h y a):x=y:=by
 obtain⟨o,items,n,ho,_,hd,hi⟩:=hx;obtain⟨o',items',n',ho',_,hd',hi'⟩:=hy;obtain rfl:o=o':=QN (ho.symm.trans ho');rw[hd]at hd';injection hd' with h1 _;subst h1;exact hi.inj hi'
theorem IsT.keeps {o:Obj} {es ep} (x:IsT knd h ks a) (ho:h.get? d=some o) (hd:o.data=.dict es ep) (hs:Heap.SameBut d h h'):IsT knd h' ks a:=by
 obtain⟨o',items,n,ho',hc,hd',hi⟩:=x
 have hne:a≠d:=by
  rintro rfl;obtain rfl:o'=o:=QN (ho'.symm.trans ho);rw[hd]at hd';exact nomatch hd'
 exact⟨o',items,n,(hs.2 a hne).trans ho',hc,hd',hi.imp λk v x=>x.keeps ho hd hs⟩
variable {A:Around} {E:C9} {s:Shared}
theorem It.toks {k:K ⊕ List K} {v:Value} {t:Nat} (x:It knd s.heap k v):It knd { s with toks:=t }.heap k v:=x
theorem uR {k:K ⊕ List K} {Q:Int->Shared->Prop} (hu:A.units<cLine) (hk:It knd s.heap k v) (h:Q (hsh knd k) { s with toks:=s.toks+drw k }):wpAny (model prog w) A (pyHash v) Q E s:=by
 cases k with
 | inl k=>exact knd.pyHash hk h
 | inr ks=>obtain⟨a,rfl,hk⟩:=hk;exact wpAny_pyHash_tuple hu hk h
theorem wm {Q:Int->Shared->Prop} (hu:A.units+1<cLine) (hk:IsT knd s.heap ks a) (h:Q (xD knd ks) { s with toks:=s.toks+(mZ ks+1) }) :
  wpAny (model prog w) A (pyHash (.ref a)) Q E s:=by
 have hT:=hk.typeIs;obtain⟨o,items,n,ho,_,hd,hi⟩:=hk;unfold pyHash
 first|unfold pyHashByItsType|skip
 first|refine Qa (wpAny_cRoomFor_or (.inr (Nat.lt_of_succ_lt hu)) ?_)|skip
 refine Qa (wpAny_specialOf hT F.slot_tuple_hash.lookup ?_);show wpAny _ _ (if (some (Value.builtin "tuple.__hash__")==some Value.none)=true then _ else _) Q E s;rw[Qn (by rw[beq_builtin_none];exact Qk)];refine Qa (wpAny_specialOf hT F.slot_tuple_hash.lookup ?_);show wpAny _ _ (callSpecialIfBoundUnlessNone? (.ref a) "__hash__" _ >>= _) Q E s;refine Qa (wpAny_callSpecialIfBoundUnlessNone?_slot hT F.slot_tuple_hash (Xh F.slot_tuple_hash hT F.entry_tuple_hash ?_ (F.args_tuple_hash_1 _)));show wpAny _ _ (Builtin.Tuple.tupleItemsOf (.ref a) >>= _) _ _ s;refine Qa (wpAny_tupleItemsOf ho hd ?_);refine Qa ?_;rw[<-Array.forIn_toList]
 refine wpAny_forIn_list _
  (λrest (b:Array Int) s'=>∃done left,ks=done++left/\Its knd s.heap left rest/\b.toList=done.map (hsh knd)/\s'={ s with toks:=s.toks+mZ done })
  _ ?_ ?_ _ _ ⟨[],ks,rfl,hi,rfl,rfl⟩
 ·rintro x rest b s' ⟨done,left,rfl,hl,hb,rfl⟩
  cases hl with
  | @cons k _ ks' _ h1 hl' =>
  have e:mZ (done++[k])=mZ done+drw k:=by simp[mZ]
  refine Qa (uR (s:={ s with toks:=s.toks+mZ done }) hu h1 ?_)
  first
   | exact Qe ⟨done++[k],ks',by simp,hl',by simp[hb],by simp[e,Nat.add_assoc]⟩
   | exact Qa (Qe (Qe ⟨done++[k],ks',by simp,hl',by simp[hb],by simp[e,Nat.add_assoc]⟩))
 rintro b s' ⟨done,left,rfl,hl,hb,rfl⟩;cases hl;rw[X0]at h;show wpAny _ _ (retInt (Builtin.Tuple.tupleHashOf b.toList)) _ _ _;rw[hb];refine wpAny_ret_mkInt ?_;show wpAny _ _ (if (decide (-(2:Int) ^ 63<=Builtin.Tuple.tupleHashOf (done.map (hsh knd)))&&decide (Builtin.Tuple.tupleHashOf (done.map (hsh knd))<2 ^ 63))=true then _ else _) Q E _;unfold xD reduceHash at h;by_cases hr:(decide (-(2:Int) ^ 63<=Builtin.Tuple.tupleHashOf (done.map (hsh knd)))&&decide (Builtin.Tuple.tupleHashOf (done.map (hsh knd))<2 ^ 63))=true
 ·rw[Qp hr];rw[Qp hr]at h;exact Qe (by simpa[Nat.add_assoc] using h)
 rw[Qn hr];rw[Qn hr]at h;exact Qa (XI (Qe (by simpa[Nat.add_assoc] using h)))
def Apt (knd:KeyKind prog w K):Prop:=∀{A:Around} {E:C9} {s:Shared} {k:K} {u:Value} {a:Addr} {items:Array Value} {Q:Bool->Shared->Prop},A.units<cLine->knd.is k u=true->s.heap.IsTuple a items->Q false s ->
 wpAny (model prog w) A (eqBool u (.ref a)) Q E s/\wpAny (model prog w) A (eqBool (.ref a) u) Q E s
theorem qL {ks:List K} (x:IsTupleKey knd h ks a):∃items,h.IsTuple a items:=let ⟨o,items,n,h1,h2,h3,_⟩:=x;⟨items,o,h1,h2,n,h3⟩
variable {Q:Bool->Shared->Prop}
theorem it_eq {x y:K ⊕ List K} (ap:Apt knd) (hu:A.units<cLine) (hx:It knd s.heap x u) (hy:It knd s.heap y v) (h:Q (decide (x=y)) s):wpAny (model prog w) A (eqBool u v) Q E s:=by
 cases x with
 | inl k =>
  cases y with
  | inl j=>exact knd.eqBool hx hy (by simpa using h)
  | inr js=>obtain⟨b,rfl,hy⟩:=hy;obtain⟨_,t⟩:=qL hy;exact(ap hu hx t (by simpa using h)).1
 | inr ks =>
 obtain⟨a,rfl,hx⟩:=hx
 cases y with
 | inl j=>obtain⟨_,t⟩:=qL hx;exact(ap hu hy t (by simpa using h)).2
 | inr js=>obtain⟨b,rfl,hy⟩:=hy;exact wpAny_eqBool_tuple hu hx hy (by simpa using h)
theorem pj {P:Fin->Shared->Prop} (ap:Apt knd) (hu:A.units<cLine) (hx:IsT knd s.heap x a) (hy:IsT knd s.heap y b) (h:P (.done (.ret (.bool (decide (x=y))))) s) :
  wpAny (model prog w) A (Builtin.«tuple.__eq__» ⟨[.ref a,.ref b],[]⟩) P E s:=by
 have hTb:=hy.typeIs;obtain⟨oa,xs,na,hoa,_,hda,hia⟩:=hx;obtain⟨ob,ys,nb,hob,_,hdb,hib⟩:=hy;show wpAny _ _ (isInstance (.ref b) (.type "tuple") >>= _) _ _ s;refine Qa (wpAny_isInstance hTb isSubtype_tuple_tuple ?_);simp only[Bool.not_true,QB,Xp];refine Qa (wpAny_tupleItemsOf hoa hda ?_);refine Qa (wpAny_tupleItemsOf hob hdb ?_);refine Qa ?_
 refine wpAny_forIn_list _
  (λrest r s'=>r.1=none/\s'=s/\∃x' y' xs' ys',rest=List.zip xs' ys'/\Its knd s.heap x' xs'/\Its knd s.heap y' ys'/\decide (x'=y')=decide (x=y)/\(xs'.length==ys'.length)=(xs.size==ys.size))
  _ ?_ ?_ _ _ ⟨rfl,rfl,x,y,xs.toList,ys.toList,rfl,hia,hib,rfl,by simp⟩
 ·rintro⟨u,v⟩ rest r s' ⟨hr,rfl,x',y',xs',ys',hz,hx',hy',hdec,hlen⟩
  cases hx' with
  | nil=>simp at hz
  | @cons k1 u' x'' xs'' h1 hx'' =>
  cases hy' with
  | nil=>simp at hz
  | @cons k2 v' y'' ys'' h2 hy'' =>
  simp only[List.zip_cons_cons,List.cons.injEq,Prod.mk.injEq]at hz;obtain⟨⟨rfl,rfl⟩,rfl⟩:=hz;refine Qa (it_eq ap hu h1 h2 ?_);by_cases hk:k1=k2
  ·subst hk;rw[QG rfl];simp only[Bool.not_true,QB,Xp];refine Qe ⟨rfl,rfl,x'',y'',xs'',ys'',rfl,hx'',hy'',?_,by simpa using hlen⟩;rw[<-hdec];by_cases hxy:x''=y''
   ·simp[hxy]
   simp[hxy]
  rw[QE hk];simp only[Bool.not_false,if_true];have hf:decide (x=y)=false:=by rw[<-hdec];simp[hk]
  rw[hf]at h;exact Qa (Qe (Qe (Qe h)))
 rintro⟨r1,r2⟩ s' ⟨hr,rfl,x',y',xs',ys',hz,hx',hy',hdec,hlen⟩;simp only at hr;subst hr;refine Qe ?_
 have hfin:(xs.size==ys.size)=decide (x=y):=by
  rw[<-hdec,<-hlen]
  cases hx' with
  | nil =>
   cases hy' with
   | nil=>simp
   | cons _ _=>simp
  | cons _ _ =>
  cases hy' with
  | nil=>simp
  | cons _ _=>simp at hz
 show P (.done (.ret (.bool (xs.size==ys.size)))) s';rw[hfin];exact h
theorem t_eq (ap:Apt knd) (hu:A.units+1<cLine) (hx:IsT knd s.heap x a) (hy:IsT knd s.heap y b) (h:Q (decide (x=y)) s) :
  wpAny (model prog w) A (eqBool (.ref a) (.ref b)) Q E s:=by
 unfold eqBool
 try with_reducible refine QT ?_
 show wpAny _ _ (if (Value.ref a==Value.ref b)=true then _ else _) Q E s;by_cases hab:(Value.ref a==Value.ref b)=true
 ·rw[Qp hab];have e:a=b:=by have:=eq_of_beq hab;injection this
  subst e;obtain rfl:=hx.inj hy;exact Qa (XI (Qe (by simpa using h)))
 rw[Qn hab]
 exact Qa (wpAny_richCompare_same_room (op:=.Eq) hx.typeIs hy.typeIs F.slot_tuple_eq
  (Xh F.slot_tuple_eq hx.typeIs F.entry_tuple_eq (pj ap hu hx hy ⟨_,rfl,(λe=>nomatch e),wpAny_truthy_bool h⟩) (F.args_tuple_eq_2 _ _)) (Nat.lt_of_succ_lt hu))
theorem ph {ks:List K} {m:Nat} (hk:IsTupleKey knd s.heap ks a) (h:Q true s):wpAny (model prog w) A (eqIsQuiet (m+1) (.ref a)) Q E s:=by
 have hT:=hk.typeIs;obtain⟨o,items,n,ho,_,hd,hi⟩:=hk;unfold eqIsQuiet;refine Qa (wpAny_specialOf hT F.slot_tuple_eq.lookup ?_);show wpAny _ _ (isInstance (.ref a) (.type "tuple") >>= _) _ _ s;refine Qa (wpAny_isInstance hT isSubtype_tuple_tuple ?_);simp only[Bool.not_true,QB,Xp];refine Qa (Xk ho hd ?_);refine Qa ?_;show wpAny _ _ (forIn items _ _) _ _ s;rw[<-Array.forIn_toList];refine wpAny_forIn_list _ (λrest r s'=>r.1=none/\s'=s/\∀v∈rest,carriedByValue v=true) _ ?_ ?_ _ _ ⟨rfl,rfl,hi.byValue⟩
 ·rintro v rest r s' ⟨hr,rfl,hall⟩;rw[eqIsQuiet_byValue _ (hall v Xl)];refine Qa (Qe ?_);simp only[Bool.not_true,QB,Xp];exact Qe ⟨rfl,rfl,λu hu'=>hall u (Qo _ hu')⟩
 rintro⟨r1,r2⟩ s' ⟨hr,rfl,_⟩;simp only at hr;subst hr;exact Qe h
theorem sH {k:K ⊕ List K} {m:Nat} (hk:It knd s.heap k v) (h:Q true s):wpAny (model prog w) A (eqIsQuiet (m+1) v) Q E s:=by
 cases k with
 | inl k=>rw[eqIsQuiet_byValue _ (knd.byValue _ _ hk)];exact Qe h
 | inr ks=>obtain⟨a,rfl,hk⟩:=hk;exact ph hk h
theorem t_quiet (hk:IsT knd s.heap ks a) (h:Q true s):wpAny (model prog w) A (eqIsQuiet 8 (.ref a)) Q E s:=by
 have hT:=hk.typeIs;obtain⟨o,items,n,ho,_,hd,hi⟩:=hk;unfold eqIsQuiet;refine Qa (wpAny_specialOf hT F.slot_tuple_eq.lookup ?_);show wpAny _ _ (isInstance (.ref a) (.type "tuple") >>= _) _ _ s;refine Qa (wpAny_isInstance hT isSubtype_tuple_tuple ?_);simp only[Bool.not_true,QB,Xp];refine Qa (Xk ho hd ?_);refine Qa ?_;show wpAny _ _ (forIn items _ _) _ _ s;rw[<-Array.forIn_toList];refine wpAny_forIn_list _ (λrest r s'=>r.1=none/\s'=s/\∃ks,Its knd s.heap ks rest) _ ?_ ?_ _ _ ⟨rfl,rfl,_,hi⟩
 ·rintro v rest r s' ⟨hr,rfl,ks',hall⟩
  cases hall with
  | cons h1 h2 =>
  refine Qa (sH h1 ?_);simp only[Bool.not_true,QB,Xp];exact Qe ⟨rfl,rfl,_,h2⟩
 rintro⟨r1,r2⟩ s' ⟨hr,rfl,_⟩;simp only at hr;subst hr;exact Qe h
noncomputable def kind (knd:KeyKind prog w K) (ap:Apt knd):HeapKind prog w (List (K ⊕ List K)) where
 is:=IsT knd
 hash:=xD knd
 draws:=λks=>mZ ks+1
 room:=λA=>A.units+1<cLine
 inj:=λhx hy=>hx.inj hy
 keeps:=λx ho hd hs=>x.keeps ho hd hs
 pyHash:=λhu hk h=>wm hu hk h
 eqBool:=λhu hx hy h=>t_eq ap hu hx hy h
 quiet:=λhk h=>t_quiet hk h
end
end TK
-- CHANGE: your row's module here,as the last of these rows
namespace L2
open PySem PySem.Spec PyProof.Rows
abbrev Key:=Sum Int Str
def dh:Key->Value->Bool
 | .inl k,v=>Value.isInt k v
 | .inr x,v=>Value.isStrOf x v
def CH (w:World):Key->Int
 | .inl k=>hashInt k
 | .inr x=>hashStr w x
theorem aK:∀{k:Key} {v:Value},dh k v=true->(∃i t,k=Sum.inl i/\v=Value.int i t)\/(∃x t,k=Sum.inr x/\v=Value.str x t)
 | .inl i,v,h=>by
  obtain⟨t,e⟩:=Value.isInt_shape (k:=i) (v:=v) h;exact .inl ⟨i,t,rfl,e⟩
 | .inr x,v,h=>by
  obtain⟨t,e⟩:=Value.isStrOf_shape (x:=x) (v:=v) h;exact .inr ⟨x,t,rfl,e⟩
theorem p8 (i:Int) (t:Tok):dh (.inl i) (.int i t)=true:=by simp[dh,Value.isInt]
theorem p7 (x:Str) (t:Tok):dh (.inr x) (.str x t)=true:=by simp[dh,Value.isStrOf]
theorem xp (a b:Int):decide ((Sum.inl a:Key)=Sum.inl b)=(a==b):=by
 by_cases e:a=b
 ·subst e;simp
 have h:¬(Sum.inl a:Key)=Sum.inl b:=λq=>e (Sum.inl.inj q);rw[QE h];exact(beq_eq_false_iff_ne.mpr e).symm
theorem xj (a b:Str):decide ((Sum.inr a:Key)=Sum.inr b)=decide (a=b):=by
 by_cases e:a=b
 ·subst e;simp
 have h:¬(Sum.inr a:Key)=Sum.inr b:=λq=>e (Sum.inr.inj q);rw[QE h,QE e]
theorem xn (a:Int) (b:Str):decide ((Sum.inl a:Key)=Sum.inr b)=false:=QE (λq=>nomatch q)
theorem xk (a:Str) (b:Int):decide ((Sum.inr a:Key)=Sum.inl b)=false:=QE (λq=>nomatch q)
noncomputable def ax (prog:Program) (w:World):PySem.KeyKind prog w Key where
 is:=dh
 hash:=CH w
 inj:=λv a b ha hb=>by
  rcases aK ha with⟨i,t,rfl,rfl⟩|⟨x,t,rfl,rfl⟩
  ·rcases aK hb with⟨j,u,rfl,e⟩|⟨y,u,rfl,e⟩
   ·injection e with e1 _;rw[e1]
   exact nomatch e
  rcases aK hb with⟨j,u,rfl,e⟩|⟨y,u,rfl,e⟩
  ·exact nomatch e
  injection e with e1 _;rw[e1]
 byValue:=λk v h=>by
  rcases aK h with⟨i,t,rfl,rfl⟩|⟨x,t,rfl,rfl⟩ <;> rfl
 pyHash:=λhv h=>by
  rcases aK hv with⟨i,t,rfl,rfl⟩|⟨x,t,rfl,rfl⟩
  ·exact wpAny_pyHash_int h
  exact wpAny_pyHash_str h
 eqBool:=λhu hv h=>by
  rcases aK hu with⟨i,t,rfl,rfl⟩|⟨x,t,rfl,rfl⟩
  ·rcases aK hv with⟨j,u,rfl,rfl⟩|⟨y,u,rfl,rfl⟩
   ·rw[xp]at h;exact wpAny_eqBool_int h
   rw[xn]at h;exact SeqAt.EqAt.int_str i t y u _ _ _ _ h
  rcases aK hv with⟨j,u,rfl,rfl⟩|⟨y,u,rfl,rfl⟩
  ·rw[xk]at h;exact SeqAt.EqAt.str_int x t j u _ _ _ _ h
  rw[xj]at h;exact wpAny_eqBool_str h
 «strs»:=λk x t v h=>by
  rcases aK h with⟨i,u,rfl,e⟩|⟨y,u,rfl,e⟩
  ·exact nomatch e
  injection e with e1 _;subst e1;cases v <;> rfl
theorem lr (prog:Program) (w:World) (i:Int) (t:Tok):(ax prog w).is (.inl i) (.int i t)=true:=p8 i t
theorem f8 (prog:Program) (w:World) (x:Str) (t:Tok):(ax prog w).is (.inr x) (.str x t)=true:=p7 x t
theorem jG (prog:Program) (w:World):TK.Apt (ax prog w):=λhu hk t h=>by
 rcases aK hk with⟨i,u,rfl,rfl⟩|⟨x,u,rfl,rfl⟩
 ·exact⟨SeqAt.EqAt.int_tuple _ _ t hu _ _ _ _ h,SeqAt.EqAt.tuple_int _ _ t hu _ _ _ _ h⟩
 exact⟨SeqAt.EqAt.str_tuple _ _ t hu _ _ _ _ h,SeqAt.EqAt.tuple_str _ _ t hu _ _ _ _ h⟩
abbrev ay:=List (Key ⊕ List Key)
abbrev bq (P:Program) (w:World):HeapKind P w ay:=TK.kind (ax P w) (jG P w)
variable {A:Around}
theorem gp {P:Program} {w:World} (hu:A.units+8<cLine):(bq P w).room A.in1:=show A.units+1+1<cLine by omega
inductive V where
 | non|bl (b:Bool)|int (i:Int)|str (x:Str)|byt (b:Array UInt8)|flt (b:UInt64)|ref (a:Addr)|ty (n:String)
 deriving DecidableEq
noncomputable def aR:V->Value->Prop
 | .non,u=>u=Value.none
 | .bl b,u=>u=Value.bool b
 | .int i,u=>∃t,u=Value.int i t
 | .str x,u=>∃t,u=Value.str x t
 | .byt b,u=>∃t,u=Value.bytes b t
 | .flt b,u=>∃t,u=Value.float b t
 | .ref a,u=>u=Value.ref a
 | .ty n,u=>u=Value.type n
abbrev aJ:List V->List Value->Prop:=Paired aR
theorem aJ.length {xs:List V} {us:List Value} (r:aJ xs us):xs.length=us.length:=X8 r
theorem aJ.get:∀{xs:List V} {us:List Value} {i:Nat} {x:V},aJ xs us->xs[i]?=some x->∃u,us[i]?=some u/\aR x u
 | _,_,_,_,.nil,e=>by simp at e
 | _,_,0,_,.cons r _,e=>by simp at e;subst e;exact⟨_,rfl,r⟩
 | _,_,i+1,x,.cons _ t,e=>by
  obtain⟨u,h1,h2⟩:=aJ.get (i:=i) (x:=x) t (by simpa using e);exact⟨u,by simpa using h1,h2⟩
variable {u cd dV doc pm cdv ct oc:Value}
theorem aJ.set {x:V} (r:aR x u):∀{xs:List V} {us:List Value} (i:Nat),aJ xs us->aJ (xs.set i x) (us.set i u)
 | _,_,_,.nil=>.nil
 | _,_,0,.cons _ t=>.cons r t
 | _,_,i+1,.cons q t=>.cons q (aJ.set r i t)
theorem aJ.append:∀{xs ys:List V} {us ws:List Value},aJ xs us->aJ ys ws->aJ (xs++ys) (us++ws)
 | _,_,_,_,.nil,s=>s
 | _,_,_,_,.cons r t,s=>.cons r (aJ.append t s)
theorem aJ.take:∀{xs:List V} {us:List Value} (n:Nat),aJ xs us->aJ (xs.take n) (us.take n)
 | _,_,0,_=>.nil
 | _,_,_+1,.nil=>.nil
 | _,_,n+1,.cons r t=>.cons r (aJ.take n t)
theorem aJ.none_of:∀{xs:List V} {us:List Value} {i:Nat},aJ xs us->xs[i]?=none->us[i]?=none:=λ{xs us i} r e=>by
 have h1:=r.length;have h2:xs.length<=i:=List.getElem?_eq_none_iff.mp e;exact List.getElem?_eq_none_iff.mpr (by omega)
def eQ:Option V->Option Value->Prop
 | some v,some u=>aR v u
 | none,none=>True
 | _,_=>False
def KV {κ:Type}:List (κ × V)->List (κ × Value)->Prop:=Paired λ(p:κ × V) (q:κ × Value)=>p.1=q.1/\aR p.2 q.2
def kV:Key->V
 | .inl i=>.int i
 | .inr x=>.str x
inductive HO where
 /-- a list -/
 | lst (xs:List V)
 /-- a tuple (never changes) -/
 | tup (xs:List V)
 /-- a dict whose keys are ints and texts;one whose keys are tuples of ints and texts (the empty one is both) -/
 | dK (kvs:List (Key × V))|dT (kvs:List (ay × V))
 /-- a set of ints: its members,its size -/
 | set (S:Int->Bool) (n:Nat)
 /-- an instance of the class at C,its dict at dx,its attributes -/
 | ins (C dx:Addr) (fs:List (Str × V))
 /-- the dict of the instance at x -/
 | own (x:Addr)
 /-- the dict of an exception -/
 | xd (fs:List (Str × V))
 /-- a bound method,f of x -/
 | met (f x:Addr)
 /-- a range object lo,lo+1,.. below hi -/
 | rng (lo hi:Int)
 /-- a thing that is known to the object (the script;a dict while a loop u_ it): read,never written while it is so -/
 | frz (o:Obj) (u:HO)
 /-- a code object's table -/
 | tbl (ps:Array Value)
 /-- any other thing,by what is true of its one object (a def of one's own: SetO a S n:=HO.ext λh=>..) -/
 | ext (φ:Heap->Prop)
abbrev Hp:=Addr->Option HO
def upd (H:Hp) (a:Addr) (o:HO):Hp:=λb=>if b=a then some o else H b
variable {a b it dx C f:Addr} {H H':Hp}
theorem ah {o:HO}:upd H a o a=some o:=by unfold upd;rw[Qp rfl]
theorem am {o:HO} (h:b≠a):upd H a o b=H b:=by unfold upd;rw[Qn h]
theorem hU {o u:HO} (h:H a=some o) (h':H b=some u) (d:o≠u):a≠b:=by
 intro e;subst e;rw[h]at h';exact d (QN h')
theorem aB {o:HO} (h:H a=some o) (h':H b=none):a≠b:=by
 intro e;subst e;rw[h]at h';cases h'
def KIt (H:Hp):Key ⊕ List Key->V->Prop
 | .inl k,v=>v=kV k
 | .inr ks,v=>∃c,v=.ref c/\H c=some (.tup (ks.map kV))
def cv (H:Hp) (k:ay) (b:Addr):Prop:=∃vs,H b=some (.tup vs)/\Paired (KIt H) k vs
theorem KIt.keeps {k:Key ⊕ List Key} {v:V} (ht:∀b xs,H b=some (.tup xs)->H' b=some (.tup xs)) (h:KIt H k v):KIt H' k v:=by
 cases k with
 | inl k=>exact h
 | inr ks=>obtain⟨c,e,h⟩:=h;exact⟨c,e,ht _ _ h⟩
theorem Paired.mapT {α β:Type} {F G:α->β->Prop}:∀{l₁:List α} {l₂:List β},Paired F l₁ l₂->(∀a b,F a b->G a b)->Paired G l₁ l₂
 | _,_,.nil,_=>.nil
 | _,_,.cons r t,f=>.cons (f _ _ r) (Paired.mapT t f)
theorem cv.keeps {k:ay} (h:cv H k b) (ht:∀b xs,H b=some (.tup xs)->H' b=some (.tup xs)):cv H' k b:=by
 obtain⟨vs,h1,h2⟩:=h;exact⟨vs,ht _ _ h1,Paired.mapT h2 λ_ _ z=>z.keeps ht⟩
section
variable (P:Program) (w:World)
noncomputable def bp (H:Hp) (h:Heap) (a:Addr):HO->Prop
 | .lst xs=>xs.length<=sizeLine/\∃(its:List Value) (n:Nat),aJ xs its/\h.get? a=some { cls:=.type "list", data:=.seq its.toArray n }
 | .tup xs=>xs.length<=sizeLine/\∃its:List Value,aJ xs its/\IsTup h a its.toArray
 | .dK kvs=>kvs.length<=sizeLine/\(a==sysModules)=false/\∃vs,KV kvs vs/\h.DictOf (ax P w) a vs
 | .dT kvs=>kvs.length<=sizeLine/\(a==sysModules)=false/\∃xs:List (ay × Addr × Value),
   Paired (λ(p:ay × V) (q:ay × Addr × Value)=>p.1=q.1/\cv H p.1 q.2.1/\aR p.2 q.2.2) kvs xs /\
   ∃o es ep,h.get? a=some o/\o.ExactDict/\o.data=.dict es ep/\es.toList=xs.map (entryOfKey (bq P w))/\(xs.map (·.1)).Nodup
 | .set S n=>h.SetOf (intKind P w) a S n
 | .ins C dx fs=>H dx=some (.own a)/\fs.length<=1000/\dx≠a/\h.get? a=some (PySem.W.instObj C dx) /\
   ∃mA,h.Ns1 dx mA/\(∀f,eQ (fs.lookup f) (mA f))/\PySem.Within mA (fs.map (·.1))
 | .own _=>∃o,h.get? a=some o
 | .xd fs=>∃mA,h.Ns1 a mA/\∀f,eQ (fs.lookup f) (mA f)
 | .rng lo hi=>∃t u v,h.get? a=some { cls:=.type "range", data:=.fields #[.int lo t,.int hi u,.int 1 v] }
 | .frz o u=>h.get? a=some o/\bp H h a u
 | .tbl ps=>h.get? a=some { cls:=.none,data:=.fields ps }
 | .met f x=>h.get? a=some (PySem.W.methodObj (.ref f) (.ref x))
 | .ext φ=>φ h/\(∃o,h.get? a=some o)/\∀h1 h2:Heap,φ h1->(∀o,h1.get? a=some o->h2.get? a=some o)->φ h2
def HOk (H:Hp) (h:Heap):Prop:=∀a o,H a=some o->bp P w H h a o
end
section
variable {P:Program} {w:World} {H H':Hp} {h h':Heap} {a:Addr} {o:HO}
theorem bp.lt (x:bp P w H h a o):a<h.objs.size:=by
 cases o with
 | lst xs=>obtain⟨_,_,_,_,e⟩:=x;exact Qm e
 | tup xs=>obtain⟨_,_,_,p⟩:=x;exact p.lt
 | dK kvs=>obtain⟨_,_,_,_,o,_,_,e,_⟩:=x;exact Qm e
 | dT kvs=>obtain⟨_,_,_,_,o,_,_,e,_⟩:=x;exact Qm e
 | set S n=>obtain⟨o,_,_,_,e,_⟩:=x;exact Qm e
 | ins C dx fs=>obtain⟨_,_,_,e,_⟩:=x;exact Qm e
 | own y=>obtain⟨_,e⟩:=x;exact Qm e
 | xd fs=>obtain⟨_,⟨_,_,_,e,_⟩,_⟩:=x;exact Qm e
 | rng lo hi=>obtain⟨_,_,_,e⟩:=x;exact Qm e
 | frz ob u=>obtain⟨e,_⟩:=x;exact Qm e
 | tbl ps=>exact Qm (show h.get? a=some _ from x)
 | met f y=>exact Qm (show h.get? a=some _ from x)
 | ext φ=>obtain⟨_,⟨_,e⟩,_⟩:=x;exact Qm e
theorem Paired.mapP {α β:Type} {F G:α->β->Prop}:∀{l₁:List α} {l₂:List β},Paired F l₁ l₂->(∀a b,F a b->G a b)->Paired G l₁ l₂
 | _,_,.nil,_=>.nil
 | _,_,.cons r t,f=>.cons (f _ _ r) (Paired.mapP t f)
theorem bp.stay (x:bp P w H h a o) (k:∀b u,(b=a\/H b=some (.own a))->h.get? b=some u->h'.get? b=some u)
  (ho:∀b,H b=some (.own a)->H' b=some (.own a)) (ht:∀b xs,H b=some (.tup xs)->H' b=some (.tup xs)):bp P w H' h' a o:=by
 induction o with
 | lst xs=>obtain⟨z,its,n,r,e⟩:=x;exact⟨z,its,n,r,k _ _ (.inl rfl) e⟩
 | tup xs=>obtain⟨z,its,r,ob,e,c⟩:=x;exact⟨z,its,r,ob,k _ _ (.inl rfl) e,c⟩
 | dK kvs=>obtain⟨z,y,vs,r,ob,es,ep,e,c⟩:=x;exact⟨z,y,vs,r,ob,es,ep,k _ _ (.inl rfl) e,c⟩
 | dT kvs =>
  obtain⟨z,y,xs,r,ob,es,ep,e,c⟩:=x;exact⟨z,y,xs,Paired.mapP r λp q z=>⟨z.1,z.2.1.keeps ht,z.2.2⟩,ob,es,ep,k _ _ (.inl rfl) e,c⟩
 | set S n=>obtain⟨ob,es,ep,t,e,c⟩:=x;exact⟨ob,es,ep,t,k _ _ (.inl rfl) e,c⟩
 | ins C dx fs =>
  obtain⟨d,z,ne,e,mA,⟨od,es,ep,e2,c⟩,r⟩:=x;exact⟨ho _ d,z,ne,k _ _ (.inl rfl) e,mA,⟨od,es,ep,k _ _ (.inr d) e2,c⟩,r⟩
 | own y=>obtain⟨ob,e⟩:=x;exact⟨ob,k _ _ (.inl rfl) e⟩
 | xd fs=>obtain⟨mA,⟨od,es,ep,e,c⟩,r⟩:=x;exact⟨mA,⟨od,es,ep,k _ _ (.inl rfl) e,c⟩,r⟩
 | rng lo hi=>obtain⟨t,u,v,e⟩:=x;exact⟨t,u,v,k _ _ (.inl rfl) e⟩
 | frz ob u ih=>obtain⟨e,q⟩:=x;exact⟨k _ _ (.inl rfl) e,ih q⟩
 | tbl ps =>
  have e:h.get? a=some { cls:=.none,data:=.fields ps }:=x;show h'.get? a=some { cls:=.none,data:=.fields ps };exact k a _ (.inl rfl) e
 | met f y =>
  have e:h.get? a=some (PySem.W.methodObj (.ref f) (.ref y)):=x;show h'.get? a=some (PySem.W.methodObj (.ref f) (.ref y));exact k a _ (.inl rfl) e
 | ext φ=>obtain⟨p,⟨o,e⟩,st⟩:=x;exact⟨st _ _ p λo q=>k _ _ (.inl rfl) q,⟨o,k _ _ (.inl rfl) e⟩,st⟩
theorem HOk.lt (x:HOk P w H h) (e:H a=some o):a<h.objs.size:=(x a o e).lt
theorem HOk.fresh (x:HOk P w H h) (e:h.objs.size<=a):H a=none:=by
 cases q:H a with
 | none=>rfl
 | some u=>exact absurd (QS (x.lt q) e) (Nat.lt_irrefl _)
theorem HOk.kept (x:HOk P w H h) (k:∀b u,h.get? b=some u->h'.get? b=some u):HOk P w H h':=λa o e =>
 (x a o e).stay (λb u _ q=>k b u q) (λ_ q=>q) λ_ _ q=>q
theorem HOk.laid (x:HOk P w H h) (k:∀b u,h.get? b=some u->h'.get? b=some u) (hp:h.objs.size<=a) (new:bp P w (upd H a o) h' a o):HOk P w (upd H a o) h':=λb u e=>by
 have hn:=x.fresh hp;by_cases hb:b=a
 ·subst hb;rw[ah]at e;cases e;exact new
 rw[am hb]at e;exact(x b u e).stay (λc v _ q=>k c v q) (λc q=>by rw[am (aB q hn)];exact q) λc xs q=>by rw[am (aB q hn)];exact q
end
def Rd (H:Hp) (a:Addr) (u:HO):Prop:=H a=some u\/∃o,H a=some (.frz o u)
variable {h:Heap}
theorem Rd.ok {P:Program} {w:World} {u:HO} (r:Rd H a u) (x:HOk P w H h):bp P w H h a u:=by
 rcases r with r|⟨o,r⟩
 ·exact x a u r
 obtain⟨_,q⟩:=x a _ r;exact q
def Mut:Option HO->Prop
 | some (.lst _)=>True
 | some (.dK _)=>True
 | some (.dT _)=>True
 | some (.set _ _)=>True
 | some (.ins _ _ _)=>True
 | some (.ext _)=>True
 | _=>False
section
variable {P:Program} {w:World} {H:Hp} {h h':Heap} {x e:Addr} {o':HO}
theorem HOk.write (ok:HOk P w H h) (mu:Mut (H x)) (he:e=x\/H e=some (.own x)) (k:∀b u,b≠e->h.get? b=some u->h'.get? b=some u) (heo:∃u,h'.get? e=some u)
  (new:bp P w (upd H x o') h' x o'):HOk P w (upd H x o') h':=λb u q=>by
 have nown:∀c y,H c=some (.own y)->c≠x:=λc y r z=>by subst z;rw[r]at mu;exact mu
 have ntup:∀c xs,H c=some (.tup xs)->c≠x:=λc xs r z=>by subst z;rw[r]at mu;exact mu
 by_cases hb:b=x
 ·subst hb;rw[ah]at q;cases q;exact new
 rw[am hb]at q;by_cases hbe:b=e
 ·have q':H b=some (.own x):=by
   rcases he with z|z
   ·exact absurd (hbe.trans z) hb
   rw[hbe];exact z
  rw[q]at q';cases q';obtain⟨v,hv⟩:=heo;exact⟨v,by rw[hbe];exact hv⟩
 refine(ok b u q).stay (λc v hc r=>k c v ?_ r) (λc r=>by rw[am (nown c b r)];exact r) λc xs r=>by rw[am (ntup c xs r)];exact r
 rcases hc with rfl|hc
 ·exact hbe
 rintro rfl;rcases he with z|z
 ·exact nown c b hc z
 rw[hc]at z;cases z;exact hb rfl
end
structure Un (fs ex:D4) (H H':Hp) (h h':Heap):Prop where
 keep:∀b o,h.get? b=some o->H b=none->b∉fs->b∉ex->h'.get? b=some o
 slot:∀b o,h.get? b=some o->H b=none->b∈fs->b∉ex->∃sl,h'.get? b=some { o with slots:=sl }
 free:∀b o,h.get? b=some o->H b=none->b∉ex->H' b=none
 there:∀b o,h.get? b=some o->b∉ex->∃o',h'.get? b=some o'
 tups:∀b xs,H b=some (.tup xs)->H' b=some (.tup xs)
 frzs:∀b o u,H b=some (.frz o u)->H' b=some (.frz o u)
 tbls:∀b ps,H b=some (.tbl ps)->∃more,H' b=some (.tbl (ps++more))
section
variable {fs fs' ex ex':D4} {H H1 H2:Hp} {h h1 h2 h':Heap} {a x e:Addr} {o:HO}
theorem Un.any (u:Un fs ex H H1 h h1) {b:Addr} {ob:Obj} (q:h.get? b=some ob) (n:H b=none) (hx:b∉ex):∃sl,h1.get? b=some { ob with slots:=sl }:=by
 by_cases hb:b∈fs
 ·exact u.slot b ob q n hb hx
 exact⟨ob.slots,u.keep b ob q n hb hx⟩
theorem Un.kept (k:∀b u,h.get? b=some u->h'.get? b=some u):Un fs ex H H h h' :=
 ⟨λb ob q _ _ _=>k b ob q,λb ob q _ _ _=>⟨ob.slots,k b ob q⟩,λ_ _ _ n _=>n,λb ob q _=>⟨ob,k b ob q⟩,λ_ _ q=>q,λ_ _ _ q=>q,λ_ ps q=>⟨#[],by rw[q];simp⟩⟩
theorem Un.refl:Un fs ex H H h h:=Un.kept λ_ _ q=>q
theorem Un.laid (k:∀b u,h.get? b=some u->h'.get? b=some u) (hp:h.objs.size<=a) (hn:H a=none):Un fs ex H (upd H a o) h h' where
 keep:=λb u q _ _ _=>k b u q
 slot:=λb u q _ _ _=>⟨u.slots,k b u q⟩
 free:=λb u q n _=>by rw[am (QM (QS (Qm q) hp))];exact n
 there:=λb u q _=>⟨u,k b u q⟩
 tups:=λb xs q=>by rw[am (aB q hn)];exact q
 frzs:=λb u xs q=>by rw[am (aB q hn)];exact q
 tbls:=λb ps q=>⟨#[],by rw[am (aB q hn),q];simp⟩
theorem Un.write (mu:Mut (H x)) (he:e=x\/H e=some (.own x)) (k:∀b u,b≠e->h.get? b=some u->h'.get? b=some u) (heo:∃u,h'.get? e=some u):Un fs ex H (upd H x o) h h':=by
 have hx:∀b,H b=none->b≠x:=λb n z=>by subst z;rw[n]at mu;exact mu
 have hb:∀b,H b=none->b≠e:=λb n z=>by
  subst z;rcases he with r|r
  ·exact hx b n r
  rw[n]at r;cases r
 have hm:∀b u,H b=some u->¬Mut (some u)->b≠x:=λb u q nm z=>by subst z;rw[q]at mu;exact nm mu
 refine⟨λb u q n _ _=>k b u (hb b n) q,λb u q n _ _=>⟨u.slots,k b u (hb b n) q⟩,λb u q n _=>by rw[am (hx b n)];exact n,λb u q _=>?_,
  λb xs q=>by rw[am (hm b _ q λz=>z)];exact q,λb u xs q=>by rw[am (hm b _ q λz=>z)];exact q,λb ps q=>⟨#[],by rw[am (hm b _ q λz=>z),q];simp⟩⟩
 by_cases hbe:b=e
 ·subst hbe;exact heo
 exact⟨u,k b u hbe q⟩
end
def trk (h:Heap) (H:Hp):D4:=(List.range h.objs.size).filter λa=>(H a).isSome
def iF (h:Heap) (H:Hp):Heap:=PySem.W.hideAll h (trk h H)
theorem qi (h:Heap) (H:Hp):(iF h H).objs.size=h.objs.size:=PySem.W.hideAll_size _ _
theorem sP {o:Obj} (e:h.get? b=some o) (n:H b=none):(iF h H).get? b=some o :=
 PySem.W.hideAll_get _ e λhm=>by
  have q:(H b).isSome=true:=(List.mem_filter.mp hm).2;rw[n]at q;simp at q
theorem uD {o:Obj} (e:(iF h H).get? b=some o):h.get? b=some o/\H b=none:=by
 have e':h.get? b=some o:=PySem.W.of_hideAll (trk h H) e;refine⟨e',?_⟩
 cases q:H b with
 | none=>rfl
 | some x =>
 have hm:b∈trk h H:=List.mem_filter.mpr ⟨List.mem_range.mpr (Qm e'),by simp[q]⟩;have z:(iF h H).get? b=none:=PySem.W.hideAll_none (trk h H) hm;rw[z]at e;cases e
structure Mod (K:PySem.W.Frag) (mg:D3) (base:Heap):Prop where
 kin:K.In base
 glob:base.Ns mainGlobals mg
 blt:∃mb,base.Ns builtinsNs mb/\∀x:Str,x ≠ "__name__" -> mb x=bootBuiltins x
 nolimit:base.NoLimit
/-- the context: a def's body (or a comprehension's block) running. base: fixed through the whole law;s₀,H₀: the oM;outer: the frames whose slots others may change (a def's callers);stack: all frames that run;
  ex: iterators that were made ahead of the oM and are walked here (a comprehension's);fn: the names whose cells were made at the oM (a def: all;a comprehension's block: its own);calm: not within an except suite;pn: pins that every state bears;xe: what is wanted of an exception that leaves the code -/
structure Cx where
 prog:Program
 w:World
 K:PySem.W.Frag
 mg:D3
 base:Heap
 A:Around
 N:List Str
 s₀:Shared
 H₀:Hp
 env:Env
 outer:List Env
 stack:List Env
 ex:D4
 fn:Str->Bool
 calm:Bool
 pn:D0
 xe:C9
def frs (l:List Env):D4:=l.filterMap (·.frame)
abbrev Cx.fs (X:Cx):D4:=frs X.outer
def Vis (sc:Scope) (x:Str):Prop:=sc.names.lookup x=some .local\/sc.names.lookup x=some .cell\/sc.names.lookup x=some .free
def Loc (sc:Scope) (x:Str):Prop:=sc.names.lookup x=some .local\/sc.names.lookup x=some .cell
def CQ (env:Env) (h:Heap) (m:D3) (x:Str) (u:Value):Prop :=
 (env.kindOf x=some .local/\m x=some u)\/((env.kindOf x=some .cell\/env.kindOf x=some .free)/\∃c,env.cells.lookup x=some c/\h.IsCell c (some u))
structure Cx.Ok (X:Cx):Prop where
 mod:Mod X.K X.mg X.base
 kind:X.env.scope.kind=.function
 glob:X.env.globals=mainGlobals
 blt:X.env.builtins=builtinsNs
 above:X.s₀.heap.objs.size<=X.env.locals
 inj:∀x y c,X.env.cells.lookup x=some c->X.env.cells.lookup y=some c->x=y
 has:∀x,(X.env.kindOf x=some .cell\/X.env.kindOf x=some .free)->∃c,X.env.cells.lookup x=some c
 cab:∀x c,X.fn x=true->X.env.cells.lookup x=some c->X.s₀.heap.objs.size<=c
 hd:X.calm=true->X.A.handled=none
 frames:X.A.frames=some X.stack
 stk:X.stack=X.outer\/(X.stack=X.env::X.outer/\X.env.frame=some X.env.locals)
 exf:∀b∈X.ex,b≠X.env.locals/\∀x c,X.env.cells.lookup x=some c->c≠b
 bs:∀b o,X.base.get? b=some o->X.s₀.heap.get? b=some o/\X.H₀ b=none
 bsz:X.base.objs.size<=X.s₀.heap.objs.size
 noex:∀b o,X.base.get? b=some o->b∉X.ex
 exfs:∀b∈X.ex,b∉X.fs
 funs:X.s₀.heap.FunFrames X.base X.outer
 frf:∀b∈X.fs,X.H₀ b=none
structure Inv (X:Cx) (pins:D0) (O:List (Option V)) (H:Hp) (s:Shared):Prop where
 ok:X.Ok
 os:s.os=X.s₀.os
 bare:AllBare s.gens
 base:Un X.fs X.ex X.H₀ H X.s₀.heap s.heap
 loc:∃m,s.heap.Ns X.env.locals m/\∀(i:Nat) (x:Str) (v:V),X.N[i]?=some x->O[i]?=some (some v)->Vis X.env.scope x->∃u,aR v u/\CQ X.env s.heap m x u
 cell:∀x c,X.env.cells.lookup x=some c->∃v,s.heap.IsCell c v
 free:H X.env.locals=none
 freeC:∀x c,X.env.cells.lookup x=some c->H c=none
 pin:∀p∈X.pn++pins,s.heap.get? p.1=some p.2/\H p.1=none/\p.1≠X.env.locals/\p.1∉X.fs/\∀v,p.2.data≠.cell v
 hok:HOk X.prog X.w H s.heap
 len:O.length=X.N.length
section
variable {X:Cx} {pins:D0} {O:List (Option V)} {H H':Hp} {s:Shared} {h':Heap}
theorem Cx.Ok.nofr (ok:X.Ok) {b:Addr} {o:Obj} (e:X.base.get? b=some o):b∉X.fs:=λhb=>by
 have:=(ok.funs.mem hb).1;rw[e]at this;cases this
theorem Inv.bs (I:Inv X pins O H s):∀b o,X.base.get? b=some o->s.heap.get? b=some o/\H b=none:=λb o e =>
 ⟨I.base.keep b o (I.ok.bs b o e).1 (I.ok.bs b o e).2 (I.ok.nofr e) (I.ok.noex b o e),I.base.free b o (I.ok.bs b o e).1 (I.ok.bs b o e).2 (I.ok.noex b o e)⟩
theorem Inv.bk (I:Inv X pins O H s):∀b o,X.base.get? b=some o->s.heap.get? b=some o:=λb o e=>(I.bs b o e).1
theorem Inv.mod (I:Inv X pins O H s):Mod X.K X.mg X.base:=I.ok.mod
theorem Inv.kIn (I:Inv X pins O H s):X.K.In s.heap:=I.ok.mod.kin.keeps I.bk
theorem Inv.lt (I:Inv X pins O H s):X.env.locals<s.heap.objs.size:=let ⟨_,hn,_⟩:=I.loc;hn.lt
theorem Inv.sz (I:Inv X pins O H s):X.s₀.heap.objs.size<=s.heap.objs.size:=QR I.ok.above (Nat.le_of_lt I.lt)
theorem Inv.nofs (I:Inv X pins O H s) {a:Addr} (h:s.heap.objs.size<=a):a∉X.fs:=λhb=>by
 obtain⟨_,o,ho,_⟩:=I.ok.funs.mem hb;exact absurd (QS (Qm ho) (QR I.sz h)) (Nat.lt_irrefl _)
theorem Inv.cne (I:Inv X pins O H s):∀x c,X.env.cells.lookup x=some c->c≠X.env.locals:=λx c e z=>by
 obtain⟨v,o,ho,hd⟩:=I.cell x c e;obtain⟨m,⟨o',es,ep,ho',hd',_⟩,_⟩:=I.loc;rw[z,ho']at ho;cases ho;rw[hd']at hd;cases hd
theorem Inv.funs (I:Inv X pins O H s):s.heap.FunFrames X.base X.outer:=by
 have all:∀(l:List Env),(∀b∈frs l,b∈X.fs)->X.s₀.heap.FunFrames X.base l->s.heap.FunFrames X.base l:=by
  intro l
  induction l with
  | nil=>intro _ _;trivial
  | cons env r ih =>
  intro hs hl;obtain⟨hk,⟨L,o,hf,hn,ho,hd⟩,hr⟩:=hl;have hL:L∈X.fs:=hs L (by unfold frs;rw[List.filterMap_cons,hf];exact Xl);obtain⟨sl,e⟩:=I.base.slot L o ho (I.ok.frf L hL) hL λz=>I.ok.exfs L z hL;exact⟨hk,⟨L,_,hf,hn,e,hd⟩,ih (λb hb=>hs b (by unfold frs;rw[List.filterMap_cons,hf];exact Qo _ hb)) hr⟩
 exact all X.outer (λ_ hb=>hb) I.ok.funs
theorem Inv.stack (I:Inv X pins O H s):s.heap.FunFrames X.base X.stack:=by
 rcases I.ok.stk with e|⟨e,hf⟩
 ·rw[e];exact I.funs
 rw[e];obtain⟨m,hn,_⟩:=I.loc;refine .cons (by rw[I.ok.kind];decide) hf hn ?_ I.funs;exact XM (QR I.ok.bsz I.ok.above)
theorem Inv.stkSub (I:Inv X pins O H s):∀b∈frs X.stack,b∈X.env.locals::X.fs:=λb hb=>by
 rcases I.ok.stk with e|⟨e,hf⟩
 ·rw[e]at hb;exact Qo _ hb
 rw[e]at hb;unfold frs at hb;rw[List.filterMap_cons,hf]at hb;exact hb
theorem Inv.stkFree (I:Inv X pins O H s):∀b∈frs X.stack,H b=none:=λb hb=>by
 rcases Qw.mp (I.stkSub b hb) with e|hb
 ·rw[e];exact I.free
 obtain⟨_,o,ho,_⟩:=I.ok.funs.mem hb;exact I.base.free b o ho (I.ok.frf b hb) λz=>I.ok.exfs b z hb
theorem Inv.step {g':Array GenState} {t':Nat} {d':Drawn} {ch:D4} (I:Inv X pins O H s)
  (hch:∀b∈ch,(b∈X.ex\/X.s₀.heap.objs.size<=b)/\b≠X.env.locals/\(∀x c,X.env.cells.lookup x=some c->c≠b)/\∀p∈X.pn++pins,p.1≠b)
  (keep:∀b o,b≠X.env.locals->b∉X.fs->b∉ch->s.heap.get? b=some o->H b=none->h'.get? b=some o)
  (slot:∀b o,b≠X.env.locals->b∈X.fs->b∉ch->s.heap.get? b=some o->H b=none->∃sl,h'.get? b=some { o with slots:=sl }) (free:∀b o,b∉ch->s.heap.get? b=some o->H b=none->H' b=none)
  (there:∀b o,b∉ch->s.heap.get? b=some o->∃o',h'.get? b=some o')
  (tups:∀b xs,H b=some (.tup xs)->H' b=some (.tup xs)) (frzs:∀b o u,H b=some (.frz o u)->H' b=some (.frz o u)) (tbls:∀b ps,H b=some (.tbl ps)->∃more,H' b=some (.tbl (ps++more)))
  (ns:∀m,s.heap.Ns X.env.locals m->h'.Ns X.env.locals m) (hok:HOk X.prog X.w H' h') (hg:AllBare g') :
  Inv X pins O H' { s with heap:=h',gens:=g',drawn:=d',toks:=t' }:=by
 have neL:∀b o,X.s₀.heap.get? b=some o->b≠X.env.locals:=λb o e=>QM (QS (Qm e) I.ok.above)
 have neC:∀b o,X.s₀.heap.get? b=some o->b∉X.ex->b∉ch:=λb o e hx hb=>by
  rcases(hch b hb).1 with z|z
  ·exact hx z
  exact absurd (QS (Qm e) z) (Nat.lt_irrefl _)
 have cellK:∀x c,X.env.cells.lookup x=some c->∀v,s.heap.IsCell c v->h'.IsCell c v:=λx c e v ⟨o,ho,hd⟩=>by
  have nch:c∉ch:=λz=>(hch c z).2.2.1 x c e rfl;by_cases hc:c∈X.fs
  ·obtain⟨sl,q⟩:=slot c o (I.cne x c e) hc nch ho (I.freeC x c e);exact⟨_,q,hd⟩
  exact⟨o,keep c o (I.cne x c e) hc nch ho (I.freeC x c e),hd⟩
 refine⟨I.ok,I.os,hg,⟨λb o e n hb hx=>?_,λb o e n hb hx=>?_,λb o e n hx=>?_,λb o e hx=>?_,λb xs e=>tups b xs (I.base.tups b xs e),λb o xs e=>frzs b o xs (I.base.frzs b o xs e),λb ps e=>?_⟩,?_,λx c e=>?_,?_,λx c e=>?_,λp hp=>?_,hok,I.len⟩
 ·exact keep b o (neL b o e) hb (neC b o e hx) (I.base.keep b o e n hb hx) (I.base.free b o e n hx)
 ·obtain⟨sl,e1⟩:=I.base.slot b o e n hb hx;obtain⟨sl',e2⟩:=slot b _ (neL b o e) hb (neC b o e hx) e1 (I.base.free b o e n hx);exact⟨sl',e2⟩
 ·obtain⟨o',e1⟩:=I.base.there b o e hx;exact free b o' (neC b o e hx) e1 (I.base.free b o e n hx)
 ·obtain⟨o',e1⟩:=I.base.there b o e hx;exact there b o' (neC b o e hx) e1
 ·obtain⟨m1,e1⟩:=I.base.tbls b ps e;obtain⟨m2,e2⟩:=tbls b _ e1;exact⟨m1++m2,by rw[e2,Array.append_assoc]⟩
 ·obtain⟨m,hn,hl⟩:=I.loc;refine⟨m,ns m hn,λi x v e1 e2 e3=>?_⟩;obtain⟨u,r,l⟩:=hl i x v e1 e2 e3;refine⟨u,r,?_⟩;rcases l with l|⟨k,c,e,z⟩
  ·exact .inl l
  exact .inr ⟨k,c,e,cellK x c e _ z⟩
 ·obtain⟨v,z⟩:=I.cell x c e;exact⟨v,cellK x c e v z⟩
 ·obtain⟨m,⟨o,_,_,ho,_⟩,_⟩:=I.loc;exact free _ o (λz=>(hch _ z).2.1 rfl) ho I.free
 ·obtain⟨v,o,ho,hd⟩:=I.cell x c e;exact free c o (λz=>(hch c z).2.2.1 x c e rfl) ho (I.freeC x c e)
 obtain⟨e,n,ne,nf,d⟩:=I.pin p hp;have nch:p.1∉ch:=λz=>(hch p.1 z).2.2.2 p hp rfl;exact⟨keep p.1 p.2 ne nf nch e n,free p.1 p.2 nch e n,ne,nf,d⟩
theorem Inv.un {t':Nat} (I:Inv X pins O H s) (u:Un X.fs [] H H' s.heap h') (hok:HOk X.prog X.w H' h'):Inv X pins O H' { s with heap:=h',toks:=t' }:=by
 obtain⟨m,⟨o,es,ep,ho,r⟩,_⟩:=id I.loc;obtain⟨sl,hL⟩:=u.any ho I.free (by simp)
 exact I.step (g':=s.gens) (d':=s.drawn) (ch:=[]) (λ_ z=>nomatch z) (λb o _ hb _ e n=>u.keep b o e n hb (by simp)) (λb o _ hb _ e n=>u.slot b o e n hb (by simp)) (λb o _ e n=>u.free b o e n (by simp)) (λb o _ e=>u.there b o e (by simp)) u.tups u.frzs u.tbls (λm' hm=>by
  obtain⟨o',es',ep',ho',r'⟩:=hm;rw[ho]at ho';cases ho'
  exact⟨_,es',ep',hL,r'⟩) hok I.bare
theorem Inv.call {g':Array GenState} {t':Nat} {d':Drawn} {ch:D4} (I:Inv X pins O H s) (u:Un (frs X.stack) ch H H' s.heap h') (hok:HOk X.prog X.w H' h') (hg:AllBare g')
  (hch:∀b∈ch,(b∈X.ex\/X.s₀.heap.objs.size<=b)/\b≠X.env.locals/\(∀x c,X.env.cells.lookup x=some c->c≠b)/\∀p∈X.pn++pins,p.1≠b) :
  Inv X pins O H' { s with heap:=h',gens:=g',drawn:=d',toks:=t' }:=by
 obtain⟨m,⟨o,es,ep,ho,r⟩,_⟩:=id I.loc;obtain⟨sl,hL⟩:=u.any ho I.free λz=>(hch _ z).2.1 rfl
 exact I.step (ch:=ch) hch (λb o hL hb hc e n=>u.keep b o e n (λz=>(Qw.mp (I.stkSub b z)).elim hL hb) hc) (λb o _ _ hc e n=>u.any e n hc) (λb o hc e n=>u.free b o e n hc) (λb o hc e=>u.there b o e hc) u.tups u.frzs u.tbls (λm' hm=>by
  obtain⟨o',es',ep',ho',r'⟩:=hm;rw[ho]at ho';cases ho'
  exact⟨_,es',ep',hL,r'⟩) hok hg
theorem Inv.turned {t':Nat} {it:Addr} (I:Inv X pins O H s) (k:∀b o,b≠it->s.heap.get? b=some o->h'.get? b=some o) (hn:H it=none) (hL:it≠X.env.locals)
  (h1:it∈X.ex\/X.s₀.heap.objs.size<=it) (h2:∀x c,X.env.cells.lookup x=some c->c≠it) (h3:∀p∈X.pn++pins,p.1≠it):Inv X pins O H { s with heap:=h',toks:=t' }:=by
 have nit:∀b u,H b=some u->b≠it:=λb u e z=>by rw[z,hn]at e;cases e
 refine I.step (g':=s.gens) (d':=s.drawn) (ch:=[it]) (λb hb=>?_) (λb o _ _ hc e _=>k b o (λz=>hc (by simp[z])) e) (λb o _ _ hc e _=>⟨o.slots,k b o (λz=>hc (by simp[z])) e⟩) (λ_ _ _ _ n=>n)
  (λb o hc e=>⟨o,k b o (λz=>hc (by simp[z])) e⟩) (λ_ _ e=>e) (λ_ _ _ e=>e) (λb ps e=>⟨#[],by rw[e];simp⟩) (λm hm=>?_) (λb u e=>?_) I.bare
 ·have e:b=it:=by simpa using hb
  subst e;exact⟨h1,hL,h2,h3⟩
 ·obtain⟨o,es,ep,ho,r⟩:=hm;exact⟨o,es,ep,k _ o (Xo hL) ho,r⟩
 refine(I.hok b u e).stay (λc v hc q=>k c v ?_ q) (λ_ q=>q) λ_ _ q=>q;rcases hc with z|z
 ·rw[z];exact nit b u e
 exact nit c _ z
theorem Inv.tok (I:Inv X pins O H s) (t:Nat):Inv X pins O H { s with toks:=t }:=I.un (h':=s.heap) (t':=t) Un.refl I.hok
theorem Inv.kept {t':Nat} (I:Inv X pins O H s) (k:∀b u,s.heap.get? b=some u->h'.get? b=some u):Inv X pins O H { s with heap:=h',toks:=t' }:=I.un (Un.kept k) (I.hok.kept k)
theorem Inv.laid {a:Addr} {o:HO} {t':Nat} (I:Inv X pins O H s) (k:∀b u,s.heap.get? b=some u->h'.get? b=some u) (hp:s.heap.objs.size<=a) (new:bp X.prog X.w (upd H a o) h' a o) :
  Inv X pins O (upd H a o) { s with heap:=h',toks:=t' }:=I.un (Un.laid k hp (I.hok.fresh hp)) (I.hok.laid k hp new)
theorem Inv.write {x e:Addr} {o:HO} {t':Nat} (I:Inv X pins O H s) (mu:Mut (H x)) (he:e=x\/H e=some (.own x)) (k:∀b u,b≠e->s.heap.get? b=some u->h'.get? b=some u) (heo:∃u,h'.get? e=some u)
  (new:bp X.prog X.w (upd H x o) h' x o):Inv X pins O (upd H x o) { s with heap:=h',toks:=t' }:=I.un (Un.write mu he k heo) (I.hok.write mu he k heo new)
theorem Inv.weak {σ':List (Option V)} (I:Inv X pins O H s) (hl:σ'.length=O.length) (w:∀(i:Nat) v,σ'[i]?=some (some v)->O[i]?=some (some v)):Inv X pins σ' H s :=
 ⟨I.ok,I.os,I.bare,I.base,let ⟨m,hn,hl'⟩:=I.loc;⟨m,hn,λi x v e1 e2 e3=>hl' i x v e1 (w i v e2) e3⟩,I.cell,I.free,I.freeC,I.pin,I.hok,hl.trans I.len⟩
theorem Inv.pins_of {pins':D0} (I:Inv X pins O H s) (h:∀p∈pins',s.heap.get? p.1=some p.2/\H p.1=none/\p.1≠X.env.locals/\p.1∉X.fs/\∀v,p.2.data≠.cell v):Inv X pins' O H s :=
 ⟨I.ok,I.os,I.bare,I.base,I.loc,I.cell,I.free,I.freeC,λp hp=>(Qj.mp hp).elim (λz=>I.pin p (QH _ z)) (h p),I.hok,I.len⟩
theorem g_ {N:List Str} (hN:N.Nodup) {i j:Nat} {x:Str} (a:N[i]?=some x) (b:N[j]?=some x):i=j:=by
 obtain⟨h1,e1⟩:=Qf.mp a;obtain⟨h2,e2⟩:=Qf.mp b;exact(List.getElem_inj hN).mp (e1.trans e2.symm)
variable {Q:Unit->Shared->Prop} {E:C9}
theorem iN {M:Model} {A:Around} {i:Nat} {x:Str} {v:V} {u:Value} (I:Inv X pins O H s) (hN:X.N.Nodup) (hi:X.N[i]?=some x) (hx:Loc X.env.scope x) (r:aR v u)
  (h:∀s',Inv X pins (O.set i (some v)) H s'->(∃a,Heap.SameBut a s.heap s'.heap/\(a=X.env.locals\/X.env.cells.lookup x=some a))->Q () s') (hf:X.fn x=true\/X.env.scope.names.lookup x=some .local:=by z_go):wpAny M A (storeName X.env x u) Q E s:=by
 obtain⟨m,hn,hl⟩:=id I.loc;have hcls:(X.env.scope.kind==.class || (X.env.scope.kind==.module&&X.env.locals != X.env.globals))=false:=by rw[I.ok.kind];rfl
 have hiσ:i<O.length:=by rw[I.len];exact(Qf.mp hi).1
 have cne:=I.cne
 have tracked:∀{a:Addr} {h':Heap},(∃o,s.heap.get? a=some o/\H a=none)->Heap.SameBut a s.heap h'->HOk X.prog X.w H h':=λ{a h'} ha hs b ob e=>by
  obtain⟨_,_,hfree⟩:=ha;refine(I.hok b ob e).stay (λc w' hc q=>(hs.2 c ?_).trans q) (λ_ q=>q) λ_ _ q=>q;rintro rfl;rcases hc with rfl|hc
  ·rw[hfree]at e;cases e
  rw[hfree]at hc;cases hc
 rcases hx with hk|hk
 ·refine wpAny_storeName_local hk hn (λh' hn' hs=>?_) hcls;obtain⟨oL,_,_,hoL,_⟩:=id hn;refine h _ ⟨I.ok,I.os,I.bare,⟨λb o e n hb hx=>?_,λb o e n hb hx=>?_,I.base.free,λb o e hx=>?_,I.base.tups,I.base.frzs,I.base.tbls⟩,⟨_,hn',λj y v' e1 e2 e3=>?_⟩,λy c e=>?_,I.free,I.freeC,λp hp=>?_,tracked ⟨oL,hoL,I.free⟩ hs,by simpa using I.len⟩ ⟨_,hs,.inl rfl⟩
  ·exact(hs.2 b (QM (QS (Qm e) I.ok.above))).trans (I.base.keep b o e n hb hx)
  ·obtain⟨sl,e1⟩:=I.base.slot b o e n hb hx;exact⟨sl,(hs.2 b (QM (QS (Qm e) I.ok.above))).trans e1⟩
  ·obtain⟨o',e1⟩:=I.base.there b o e hx;exact⟨o',(hs.2 b (QM (QS (Qm e) I.ok.above))).trans e1⟩
  ·by_cases hj:j=i
   ·subst hj;rw[hi]at e1;cases e1;rw[List.getElem?_set_self hiσ]at e2;cases e2;exact⟨u,r,.inl ⟨hk,by simp⟩⟩
   rw[List.getElem?_set_ne (Xo hj)]at e2;obtain⟨u',r',q⟩:=hl j y v' e1 e2 e3;refine⟨u',r',?_⟩;rcases q with⟨k,e⟩|⟨k,c,e,z⟩
   ·refine .inl ⟨k,?_⟩;have:y≠x:=λe=>hj (g_ hN e1 (e▸hi));simp[this,e]
   exact .inr ⟨k,c,e,z.sameBut hs (cne y c e)⟩
  ·obtain⟨w',z⟩:=I.cell y c e;exact⟨w',z.sameBut hs (cne y c e)⟩
  obtain⟨e,n,ne,nf,d⟩:=I.pin p hp;exact⟨(hs.2 p.1 ne).trans e,n,ne,nf,d⟩
 have hfn:X.fn x=true:=by
  rcases hf with z|z
  ·exact z
  rw[z]at hk;cases hk
 obtain⟨c,hc⟩:=I.ok.has x (.inl hk);obtain⟨w',z⟩:=I.cell x c hc;refine wpAny_storeName_cell I.ok.kind hk hc z (λh' hc' hs=>?_);obtain⟨oc,hoc,hocd⟩:=id z;refine h { s with heap:=h' } ⟨I.ok,I.os,I.bare,⟨λb o e n hb hx=>?_,λb o e n hb hx=>?_,I.base.free,λb o e hx=>?_,I.base.tups,I.base.frzs,I.base.tbls⟩,⟨m,hn.sameBut hs (Xo (cne x c hc)),λj y v' e1 e2 e3=>?_⟩,λy c' e=>?_,I.free,I.freeC,λp hp=>?_,tracked ⟨oc,hoc,I.freeC x c hc⟩ hs,by simpa using I.len⟩ ⟨c,hs,.inr hc⟩
 ·exact(hs.2 b (QM (QS (Qm e) (I.ok.cab x c hfn hc)))).trans (I.base.keep b o e n hb hx)
 ·obtain⟨sl,e1⟩:=I.base.slot b o e n hb hx;exact⟨sl,(hs.2 b (QM (QS (Qm e) (I.ok.cab x c hfn hc)))).trans e1⟩
 ·obtain⟨o',e1⟩:=I.base.there b o e hx;exact⟨o',(hs.2 b (QM (QS (Qm e) (I.ok.cab x c hfn hc)))).trans e1⟩
 ·by_cases hj:j=i
  ·subst hj;rw[hi]at e1;cases e1;rw[List.getElem?_set_self hiσ]at e2;cases e2;exact⟨u,r,.inr ⟨.inl hk,c,hc,hc'⟩⟩
  rw[List.getElem?_set_ne (Xo hj)]at e2;obtain⟨u',r',q⟩:=hl j y v' e1 e2 e3;refine⟨u',r',?_⟩;rcases q with q|⟨k,c',e,z'⟩
  ·exact .inl q
  refine .inr ⟨k,c',e,z'.sameBut hs ?_⟩;rintro rfl;exact hj (g_ hN e1 (I.ok.inj _ _ _ e hc▸hi))
 ·by_cases hcc:c'=c
  ·subst hcc;exact⟨_,hc'⟩
  obtain⟨w2,z2⟩:=I.cell y c' e;exact⟨w2,z2.sameBut hs hcc⟩
 obtain⟨e,n,ne,nf,d⟩:=I.pin p hp;refine⟨(hs.2 p.1 ?_).trans e,n,ne,nf,d⟩;intro q;rw[q,hoc]at e;have q':oc=p.2:=QN e;exact d w' (by rw[<-q'];exact hocd)
theorem gB {M:Model} {A:Around} {i:Nat} {x:Str} {v:V} {u:Value} (I:Inv X pins O H s) (hN:X.N.Nodup) (hi:X.N[i]?=some x) (hx:Loc X.env.scope x) (r:aR v u)
  (h:∀s',Inv X pins (O.set i (some v)) H s'->Q () s') (hf:X.fn x=true\/X.env.scope.names.lookup x=some .local:=by z_go):wpAny M A (storeName X.env x u) Q E s :=
 iN I hN hi hx r (λs' I' _=>h s' I') hf
theorem Inv.call' {s':Shared} {ch:D4} (I:Inv X pins O H s) (ho:s'.os=s.os) (u:Un (frs X.stack) ch H H' s.heap s'.heap) (hok:HOk X.prog X.w H' s'.heap) (hg:AllBare s'.gens)
  (hch:∀b∈ch,(b∈X.ex\/X.s₀.heap.objs.size<=b)/\b≠X.env.locals/\(∀x c,X.env.cells.lookup x=some c->c≠b)/\∀p∈X.pn++pins,p.1≠b):Inv X pins O H' s':=by
 obtain⟨h',g',d',t',o'⟩:=s';have e:o'=s.os:=ho;subst e;exact I.call (g':=g') (t':=t') (d':=d') u hok hg hch
end
abbrev XK:=Value->Option Addr->Hp->Prop
abbrev St:=List (Option V)
abbrev VK:=V->Hp->Prop
abbrev TE:=St->Hp->VK->Prop
abbrev TT:=St->Hp->(Bool->Hp->Prop)->Prop
abbrev TA:=St->Hp->(List V->Hp->Prop)->Prop
structure Ends where
 nx:St->Hp->Prop
 rt:VK
 bk:St->Hp->Prop:=λ_ _=>False
 ct:St->Hp->Prop:=λ_ _=>False
abbrev TS:=Ends->St->Hp->Prop
def EP (X:Cx) (pins:D0) (O:St) (Q:VK) (u:Value) (s':Shared):Prop:=∃v H',Inv X pins O H' s'/\aR v u/\Q v H'
def TP (X:Cx) (pins:D0) (O:St) (Q:Bool->Hp->Prop) (b:Bool) (s':Shared):Prop:=∃H',Inv X pins O H' s'/\Q b H'
def AP (X:Cx) (pins:D0) (O:St) (Q:List V->Hp->Prop) (us:List Value) (s':Shared):Prop:=∃vs H',Inv X pins O H' s'/\aJ vs us/\Q vs H'
def SP (X:Cx) (pins:D0) (D:Ends) (f:Flow) (s':Shared):Prop :=
 match f with
 | .next=>∃σ' H',Inv X pins σ' H' s'/\D.nx σ' H'
 | .brk=>∃σ' H',Inv X pins σ' H' s'/\D.bk σ' H'
 | .cont=>∃σ' H',Inv X pins σ' H' s'/\D.ct σ' H'
 | .ret u=>∃v σ' H',Inv X pins σ' H' s'/\aR v u/\D.rt v H'
def PE (X:Cx) (e:Expr) (t:TE):Prop :=
 ∀(pins:D0) (s:Shared) (O:St) (H:Hp) (Q:VK),Inv X pins O H s->t O H Q->wpAny (model X.prog X.w) X.A (eval e X.env) (EP X pins O Q) X.xe s
def PT (X:Cx) (e:Expr) (t:TT):Prop :=
 ∀(pins:D0) (s:Shared) (O:St) (H:Hp) (Q:Bool->Hp->Prop),Inv X pins O H s->t O H Q->wpAny (model X.prog X.w) X.A (isTrue e X.env (eval e X.env)) (TP X pins O Q) X.xe s
def PW (X:Cx) (e:Expr) (t:TT):Prop :=
 ∀(whole:Sem Value) (pins:D0) (s:Shared) (O:St) (H:Hp) (Q:Bool->Hp->Prop),Inv X pins O H s->t O H Q->wpAny (model X.prog X.w) X.A (isTrue e X.env whole) (TP X pins O Q) X.xe s
variable {e tg:Expr} {X:Cx}
theorem PW.pt {t:TT} (h:PW X e t):PT X e t:=h _
def PA (X:Cx) (es:List Expr) (t:TA):Prop :=
 ∀(pos:Pos) (pins:D0) (s:Shared) (O:St) (H:Hp) (Q:List V->Hp->Prop),Inv X pins O H s->t O H Q->wpAny (model X.prog X.w) X.A (spliced (backTo pos (starEach es X.env))) (AP X pins O Q) X.xe s
def PS (X:Cx) (st:Stmt) (t:TS):Prop :=
 ∀(pins:D0) (s:Shared) (O:St) (H:Hp) (D:Ends),Inv X pins O H s->t D O H->wpAny (model X.prog X.w) X.A (exec st X.env) (SP X pins D) X.xe s
def PSs (X:Cx) (st:List Stmt) (t:TS):Prop :=
 ∀(pins:D0) (s:Shared) (O:St) (H:Hp) (D:Ends),Inv X pins O H s->t D O H->wpAny (model X.prog X.w) X.A (execs st X.env) (SP X pins D) X.xe s
variable {s s1:Shared} {E:C9}
theorem thn {α:Type} {t:Sem α} {Q Q':α->Shared->Prop} {M:Model} (h:wpAny M A t Q E s) (hQ:∀a s,Q a s->Q' a s):wpAny M A t Q' E s:=Xm h hQ λ_ _ x=>x
section
variable {X:Cx}
variable {s:Shared} {pins:D0}
theorem bin {a b:Expr} {ta tb:TE} (ha:PE X a ta) (hb:PE X b tb) {O:St} {H:Hp} {R:V->V->Hp->Prop} (I:Inv X pins O H s) (h:ta O H λx H1=>tb O H1 λy H2=>R x y H2)
  {α:Type} {Q:α->Shared->Prop} {f:Value->Value->Sem α}
  (hf:∀v u s2 x y H2,Inv X pins O H2 s2->aR x v->aR y u->R x y H2->wpAny (model X.prog X.w) X.A (f v u) Q X.xe s2) :
  wpAny (model X.prog X.w) X.A (eval a X.env) (λv s₁=>wpAny (model X.prog X.w) X.A (eval b X.env) (λu s₂=>wpAny (model X.prog X.w) X.A (f v u) Q X.xe s₂) X.xe s₁) X.xe s:=by
 refine thn (ha pins s O H _ I h) λv s1 ⟨x,H1,I1,r1,q1⟩=>?_;refine thn (hb pins s1 O H1 _ I1 q1) λu s2 ⟨y,H2,I2,r2,q2⟩=>?_;exact hf v u s2 x y H2 I2 r1 r2 q2
def cT (i:Nat):TE:=λO H Q=>∃v,O[i]?=some (some v)/\Q v H
def tC (v:V):TE:=λ_ H Q=>Q v H
variable {x:Str}
theorem wN {i:Nat} {pos:Pos} (hN:X.N[i]?=some x) (hv:Vis X.env.scope x) (hd:(x==("__debug__" : Str))=false:=by decide) (hcd:(x==("__classdict__" : Str))=false:=by decide):PE X (.Name x pos) (cT i):=by
 intro pins s O H Q I h;obtain⟨v,e,h⟩:=h;obtain⟨m,hn,hl⟩:=I.loc;obtain⟨u,r,l⟩:=hl i x v hN e hv;have fin:EP X pins O Q u s:=⟨v,H,I,r,h⟩;rcases l with⟨hk,hm⟩|⟨hk,c,hc,hcell⟩
 ·exact wpAny_Name (wpAny_loadName_local I.ok.kind hk hn hm fin) hd
 rcases hk with hk|hk
 ·exact wpAny_Name (wpAny_loadName_cell I.ok.kind hk hc hcell fin) hd
 exact wpAny_Name (wpAny_loadName_free I.ok.kind hk hc hcell fin hcd) hd
theorem ae {i j pos}:PE X (.Constant (.int i) j pos) (tC (.int i)):=λ_ _ _ H _ I h=>wpAny_Constant_int ⟨.int i,H,I.tok _,⟨_,rfl⟩,h⟩
theorem kY {b j pos}:PE X (.Constant (.bool b) j pos) (tC (.bl b)):=λ_ _ _ H _ I h=>Constant_bool ⟨.bl b,H,I,rfl,h⟩
theorem rC {j pos}:PE X (.Constant .none j pos) (tC .non):=λ_ _ _ H _ I h=>Constant_none ⟨.non,H,I,rfl,h⟩
theorem aG {x j pos}:PE X (.Constant (.str x) j pos) (tC (.str x)):=λ_ _ _ H _ I h=>Calls.Constant_str ⟨.str x,H,I.tok _,⟨_,rfl⟩,h⟩
def Gl (X:Cx) (x:Str):Prop:=X.env.kindOf x=some .globalImplicit
variable {Q E:C9} {u:Value}
theorem fh {O:St} {H:Hp} {pos:Pos} (I:Inv X pins O H s) (hg:Gl X x) (hm:X.mg x=some u) (h:Q u s)
  (hd:(x==("__debug__" : Str))=false:=by decide):wpAny (model X.prog X.w) X.A (eval (.Name x pos) X.env) Q E s :=
 Calls.Name_function_global I.ok.kind hg (Calls.loadGlobal_global (by rw[I.ok.glob];exact I.mod.glob.keeps I.bk) hm h) hd
theorem cO {O:St} {H:Hp} {pos:Pos} (I:Inv X pins O H s) (hg:Gl X x) (hm:X.mg x=none) (hv:bootBuiltins x=some u) (h:Q u s)
  (hn:x ≠ "__name__" := by decide) (hd:(x==("__debug__" : Str))=false:=by decide):wpAny (model X.prog X.w) X.A (eval (.Name x pos) X.env) Q E s:=by
 obtain⟨mb,h1,h2⟩:=I.mod.blt;exact Calls.Name_function_global I.ok.kind hg (Calls.loadGlobal_builtin (by rw[I.ok.glob];exact I.mod.glob.keeps I.bk) hm (by rw[I.ok.blt];exact h1.keeps I.bk) ((h2 x hn).trans hv) h) hd
theorem dw {v:V} {pos:Pos} (hg:Gl X x) (hm:X.mg x=some u) (r:aR v u) (hd:(x==("__debug__" : Str))=false:=by decide):PE X (.Name x pos) (tC v) :=
 λ_ _ _ H _ I h=>fh I hg hm ⟨v,H,I,r,h⟩ hd
theorem um {v:V} {pos:Pos} (hg:Gl X x) (hm:X.mg x=none) (hv:bootBuiltins x=some u) (r:aR v u) (hn:x ≠ "__name__" := by decide) (hd:(x==("__debug__" : Str))=false:=by decide):PE X (.Name x pos) (tC v) :=
 λ_ _ _ H _ I h=>cO I hg hm hv ⟨v,H,I,r,h⟩ hn hd
variable {a b:Expr} {ta tb:TE} {pos:Pos}
def PC (X:Cx) (op:CmpOp) (a b:Expr) (t:TE):Prop :=
 ∀(pins:D0) (s:Shared) (O:St) (H:Hp) (Q:VK),Inv X pins O H s->t O H Q ->
  wpAny (model X.prog X.w) X.A (eval a X.env) (λv s₁=>wpAny (model X.prog X.w) X.A (eval b X.env) (λu s₂=>wpAny (model X.prog X.w) X.A (compareOp op v u) (EP X pins O Q) X.xe s₂) X.xe s₁) X.xe s
def tB (t:TE):TT:=λO H Q=>t O H λx H1=>∃c,x=.bl c/\Q c H1
theorem wK {op:CmpOp} {t:TE} (h:PC X op a b t) (h1:behindInMarks op b=false:=by first|exact nobehind _ (by decide) (by decide)|rfl):PT X (.Compare a [op] [b] pos) (tB t):=by
 intro pins s O H Q I hw;refine wpAny_isTrue_Compare1 (thn (h pins s O H _ I hw) λv s1 h1=>thn h1 λu s2 h2=>thn h2 λc s3 ⟨x,H1,I1,r1,q1⟩=>?_) h1;obtain⟨d,rfl,q⟩:=q1;cases r1;exact wpAny_truthy_bool ⟨H1,I1,q⟩
theorem gO {e:Expr} {t:TE} (h:PE X e t) (he:∀whole,isTrue e X.env whole=(do let v <-whole;standAt e.pos;holding [v] (truthy v)):=by intro _;rfl):PT X e (tB t):=by
 intro pins s O H Q I hw;refine isTrue_plain (thn (h pins s O H _ I hw) λv s1 ⟨x,H1,I1,r1,q1⟩=>?_) (he _);obtain⟨d,rfl,q⟩:=q1;cases r1;exact wpAny_truthy_bool ⟨H1,I1,q⟩
variable {tA tB':TT} {rest:List Expr}
def yc (t u:TT):TT:=λO H Q=>t O H λc H1=>if c=true then u O H1 Q else Q false H1
def tOr (t u:TT):TT:=λO H Q=>t O H λc H1=>if c=true then Q true H1 else u O H1 Q
def xY (t:TT):TT:=λO H Q=>t O H λc H1=>Q (!c) H1
theorem cc (ha:PT X a tA):PW X (.BoolOp .And [a] pos) tA:=by
 intro wh pins s O H Q I h;refine isTrue_and (thn (ha pins s O H Q I h) λc s1 e=>?_)
 cases c with
 | true=>exact isTrue_and_nil e
 | false=>exact e
theorem jB (ha:PT X a tA):PW X (.BoolOp .Or [a] pos) tA:=by
 intro wh pins s O H Q I h;refine isTrue_or (thn (ha pins s O H Q I h) λc s1 e=>?_)
 cases c with
 | false=>exact isTrue_or_nil e
 | true=>exact e
theorem cN (ha:PT X a tA) (hb:PW X (.BoolOp .And (b::rest) pos) tB'):PW X (.BoolOp .And (a::b::rest) pos) (yc tA tB'):=by
 intro wh pins s O H Q I h;refine isTrue_and (thn (ha pins s O H _ I h) λc s1 ⟨H1,I1,q1⟩=>?_)
 cases c with
 | true=>exact hb wh pins s1 O H1 Q I1 q1
 | false=>exact⟨H1,I1,q1⟩
theorem nY (ha:PT X a tA) (hb:PW X (.BoolOp .Or (b::rest) pos) tB'):PW X (.BoolOp .Or (a::b::rest) pos) (tOr tA tB'):=by
 intro wh pins s O H Q I h;refine isTrue_or (thn (ha pins s O H _ I h) λc s1 ⟨H1,I1,q1⟩=>?_)
 cases c with
 | true=>exact⟨H1,I1,q1⟩
 | false=>exact hb wh pins s1 O H1 Q I1 q1
theorem rm (ha:PT X a tA):PT X (.UnaryOp .Not a pos) (xY tA):=by
 intro pins s O H Q I h;exact isTrue_not (ha pins s O H (λc H1=>Q (!c) H1) I h)
def vh (ta tb:TE):TE:=λO H Q=>ta O H λx H1=>∃c,x=.bl c/\if c=true then tb O H1 Q else Q (.bl false) H1
def xW (ta tb:TE):TE:=λO H Q=>ta O H λx H1=>∃c,x=.bl c/\if c=true then Q (.bl true) H1 else tb O H1 Q
def xX (ta:TE):TE:=λO H Q=>ta O H λx H1=>∃c,x=.bl c/\Q (.bl (!c)) H1
theorem rB {op} {t:TE} (h:PE X a t):PE X (.BoolOp op [a] pos) t:=λpins s O H Q I hw=>BoolOp_one (h pins s O H Q I hw)
theorem wP (ha:PE X a ta) (hb:PE X (.BoolOp .And (b::rest) pos) tb):PE X (.BoolOp .And (a::b::rest) pos) (vh ta tb):=by
 intro pins s O H Q I h;refine BoolOp_and (thn (ha pins s O H _ I h) λv s1 ⟨x,H1,I1,r1,q1⟩=>?_);obtain⟨c,rfl,q1⟩:=q1;cases r1;refine wpAny_truthy_bool ?_
 cases c with
 | true=>exact hb pins s1 O H1 Q I1 q1
 | false=>exact⟨.bl false,H1,I1,rfl,q1⟩
theorem yj (ha:PE X a ta) (hb:PE X (.BoolOp .Or (b::rest) pos) tb):PE X (.BoolOp .Or (a::b::rest) pos) (xW ta tb):=by
 intro pins s O H Q I h;refine BoolOp_or (thn (ha pins s O H _ I h) λv s1 ⟨x,H1,I1,r1,q1⟩=>?_);obtain⟨c,rfl,q1⟩:=q1;cases r1;refine wpAny_truthy_bool ?_
 cases c with
 | false=>exact hb pins s1 O H1 Q I1 q1
 | true=>exact⟨.bl true,H1,I1,rfl,q1⟩
def tIf (t:TT) (ta tb:TE):TE:=λO H Q=>t O H λc H1=>if c=true then ta O H1 Q else tb O H1 Q
end
def SqL (K:PySem.W.Frag) (H:Hp) (a:Addr) (xs:List V):Prop :=
 Rd H a (.lst xs) \/
  ∃(o:Obj) (its:Array Value) (n:Nat),K.lookup a=some o/\o.cls=.type "list" /\ o.dict=none/\o.data=.seq its n/\its.size<=sizeLine/\aJ xs its.toList
def SqT (K:PySem.W.Frag) (H:Hp) (a:Addr) (xs:List V):Prop :=
 Rd H a (.tup xs) \/
  ∃(o:Obj) (its:Array Value) (n:Nat),K.lookup a=some o/\o.cls=.type "tuple" /\ o.data=.seq its n/\its.size<=sizeLine/\aJ xs its.toList
noncomputable def CO:Value->Option V
 | .none=>some .non
 | .bool b=>some (.bl b)
 | .int i _=>some (.int i)
 | .str x _=>some (.str x)
 | .bytes b _=>some (.byt b)
 | .float b _=>some (.flt b)
 | .ref a=>some (.ref a)
 | .type n=>some (.ty n)
 | _=>none
theorem aR.abs {x:V} (r:aR x u):CO u=some x:=by
 cases x with
 | non=>cases r;rfl
 | bl _=>cases r;rfl
 | int _=>obtain⟨t,rfl⟩:=r;rfl
 | str _=>obtain⟨t,rfl⟩:=r;rfl
 | byt _=>obtain⟨t,rfl⟩:=r;rfl
 | flt _=>obtain⟨t,rfl⟩:=r;rfl
 | ref _=>cases r;rfl
 | ty _=>cases r;rfl
theorem aR.inj {x y:V} (r:aR x u) (q:aR y u):x=y:=QN (r.abs.symm.trans q.abs)
theorem aJ.inj:∀{xs ys:List V} {us:List Value},aJ xs us->aJ ys us->xs=ys
 | _,_,_,.nil,.nil=>rfl
 | _,_,_,.cons r t,.cons r' t'=>by rw[r.inj r',aJ.inj t t']
section
variable {X:Cx} {pins:D0} {O:St} {H:Hp} {s:Shared} {a:Addr} {xs ys:List V}
theorem SqL.of {K:PySem.W.Frag} (h:H a=some (.lst xs)):SqL K H a xs:=.inl (.inl h)
theorem SqT.of {K:PySem.W.Frag} (h:H a=some (.tup xs)):SqT K H a xs:=.inl (.inl h)
theorem Inv.list (I:Inv X pins O H s) (h:SqL X.K H a xs):∃its:List Value,aJ xs its/\PlainL s.heap a its.toArray/\xs.length<=sizeLine:=by
 rcases h with h|⟨o,its,n,hk,hc,hd,hs,hz,r⟩
 ·obtain⟨z,its,n,r,e⟩:=h.ok I.hok;exact⟨its,r,⟨_,n,e,rfl,rfl,rfl⟩,z⟩
 refine⟨its.toList,r,⟨o,n,I.kIn a o hk,hc,hd,by simpa using hs⟩,?_⟩;have e:=r.length;simp only[Qg]at e;omega
theorem Inv.tuple (I:Inv X pins O H s) (h:SqT X.K H a xs):∃its:List Value,aJ xs its/\IsTup s.heap a its.toArray/\xs.length<=sizeLine:=by
 rcases h with h|⟨o,its,n,hk,hc,hs,hz,r⟩
 ·obtain⟨z,its,r,p⟩:=h.ok I.hok;exact⟨its,r,p,z⟩
 refine⟨its.toList,r,⟨o,I.kIn a o hk,hc,n,by simpa using hs⟩,?_⟩;have e:=r.length;simp only[Qg]at e;omega
theorem Inv.list_inj (I:Inv X pins O H s) (h:SqL X.K H a xs) (h':SqL X.K H a ys):xs=ys:=by
 obtain⟨its,r,⟨o,n,e,_,_,d⟩,_⟩:=I.list h;obtain⟨its',r',⟨o',n',e',_,_,d'⟩,_⟩:=I.list h';rw[e]at e';cases e';rw[d]at d';injection d' with d1 _;have:its=its':=by simpa using congrArg Array.toList d1
 subst this;exact r.inj r'
theorem Inv.tuple_inj (I:Inv X pins O H s) (h:SqT X.K H a xs) (h':SqT X.K H a ys):xs=ys:=by
 obtain⟨its,r,⟨o,e,_,n,d⟩,_⟩:=I.tuple h;obtain⟨its',r',⟨o',e',_,n',d'⟩,_⟩:=I.tuple h';rw[e]at e';cases e';rw[d]at d';injection d' with d1 _;have:its=its':=by simpa using congrArg Array.toList d1
 subst this;exact r.inj r'
end
abbrev Cx.wish (X:Cx) (E:C9):Cx:={ X with xe:=E }
abbrev Cx.nox (X:Cx):Cx:=X.wish λ_ _=>False
theorem Cx.Ok.wish (ok:X.Ok) (E:C9):(X.wish E).Ok :=
 ⟨ok.mod,ok.kind,ok.glob,ok.blt,ok.above,ok.inj,ok.has,ok.cab,ok.hd,ok.frames,ok.stk,ok.exf,ok.bs,ok.bsz,ok.noex,ok.exfs,ok.funs,ok.frf⟩
theorem Cx.Ok.unwish (ok:(X.wish E).Ok):X.Ok :=
 ⟨ok.mod,ok.kind,ok.glob,ok.blt,ok.above,ok.inj,ok.has,ok.cab,ok.hd,ok.frames,ok.stk,ok.exf,ok.bs,ok.bsz,ok.noex,ok.exfs,ok.funs,ok.frf⟩
section
variable {X:Cx} {pins:D0} {O:St} {H:Hp} {s:Shared} {E:C9}
theorem Inv.wish (I:Inv X pins O H s) (E:C9):Inv (X.wish E) pins O H s:=⟨I.ok.wish E,I.os,I.bare,I.base,I.loc,I.cell,I.free,I.freeC,I.pin,I.hok,I.len⟩
theorem Inv.unwish (I:Inv (X.wish E) pins O H s):Inv X pins O H s:=⟨I.ok.unwish,I.os,I.bare,I.base,I.loc,I.cell,I.free,I.freeC,I.pin,I.hok,I.len⟩
theorem SP.unwish {D:Ends} {f:Flow} {s':Shared} (h:SP (X.wish E) pins D f s'):SP X pins D f s':=by
 cases f with
 | next=>obtain⟨σ',H',I,q⟩:=h;exact⟨σ',H',I.unwish,q⟩
 | brk=>obtain⟨σ',H',I,q⟩:=h;exact⟨σ',H',I.unwish,q⟩
 | cont=>obtain⟨σ',H',I,q⟩:=h;exact⟨σ',H',I.unwish,q⟩
 | ret u=>obtain⟨v,σ',H',I,r,q⟩:=h;exact⟨v,σ',H',I.unwish,r,q⟩
theorem PSs.nox {st:List Stmt} {t:TS} (h:PSs X.nox st t):PSs X st t:=λpins s O H D I hw =>
 Xm (h pins s O H D (I.wish _) hw) (λ_ _ q=>q.unwish) λ_ _ z=>False.elim z
end
section
variable {X:Cx} {st:Stmt} {rest:List Stmt} {t u:TS} {e:Expr} {te:TE} {pos:Pos}
def vf:TS:=λD O H=>D.nx O H
def lY (t u:TS):TS:=λD O H=>t { D with nx:=u D } O H
theorem pss_nil:PSs X [] vf:=λ_ _ O H _ I h=>wpAny_execs_nil ⟨O,H,I,h⟩
theorem pss_cons (h1:PS X st t) (h2:PSs X rest u):PSs X (st::rest) (lY t u):=by
 intro pins s O H D I h;refine wpAny_execs_cons (thn (h1 pins s O H { D with nx:=u D } I h) λf s1 q=>?_)
 cases f with
 | next =>
  obtain⟨σ',H',I',q⟩:=q;exact h2 pins s1 σ' H' D I' q
 | ret v=>exact q
 | brk=>exact q
 | cont=>exact q
theorem pss_one (h1:PS X st t):PSs X [st] t:=by
 intro pins s O H D I h;refine wpAny_execs_cons (thn (h1 pins s O H D I h) λf s1 q=>?_)
 cases f with
 | next=>exact wpAny_execs_nil q
 | ret v=>exact q
 | brk=>exact q
 | cont=>exact q
theorem Inv.quiet {pins:D0} {O:St} {H:Hp} {s:Shared} (I:Inv X pins O H s):interactive X.env=false:=by simp[interactive,I.ok.kind]
def qN (te:TE):TS:=λD O H=>te O H λ_ H1=>D.nx O H1
theorem cE (he:PE X e te) (hs:swapsWith e none pos.line X.env=pure false:=by rfl):PS X (.Expr e pos) (qN te):=by
 intro pins s O H D I h;exact wpAny_Expr_any (thn (he pins s O H _ I h) λv s1 ⟨x,H1,I1,r1,q1⟩=>⟨O,H1,I1,q1⟩) I.quiet hs
def wo (te:TE):TS:=λD O H=>te O H D.rt
theorem bj (he:PE X e te):PS X (.Return (some e) pos) (wo te):=by
 intro pins s O H D I h;exact wpAny_Return_some (thn (he pins s O H _ I h) λv s1 ⟨x,H1,I1,r1,q1⟩=>⟨x,O,H1,I1,r1,q1⟩)
def xZ (c:TT) (t u:TS):TS:=λD O H=>c O H λb H1=>if b=true then t D O H1 else u D O H1
theorem ps_if {c:Expr} {a b:List Stmt} {tc:TT} (hc:PT X c tc) (ha:PSs X a t) (hb:PSs X b u):PS X (.If c a b pos) (xZ tc t u):=by
 intro pins s O H D I h;refine wpAny_If (thn (hc pins s O H _ I h) λd s1 ⟨H1,I1,q1⟩=>?_)
 cases d with
 | true=>exact ha pins s1 O H1 D I1 q1
 | false=>exact hb pins s1 O H1 D I1 q1
def wt:TS:=λ_ _ _=>False
theorem iR {sts:List Stmt}:PSs X sts wt:=λ_ _ _ _ _ _ h=>h.elim
end
abbrev TG:=V->St->Hp->(St->Hp->Prop)->Prop
abbrev TGs:=List V->St->Hp->(St->Hp->Prop)->Prop
def PG (X:Cx) (target:Expr) (t:TG):Prop :=
 ∀(pins:D0) (s:Shared) (O:St) (H:Hp) (v:V) (u:Value) (Q:St->Hp->Prop),Inv X pins O H s->aR v u->t v O H Q ->
  wpAny (model X.prog X.w) X.A (assign target X.env u) (λ_ s'=>∃σ' H',Inv X pins σ' H' s'/\Q σ' H') X.xe s
def PGs (X:Cx) (ts:List Expr) (t:TGs):Prop :=
 ∀(pins:D0) (s:Shared) (O:St) (H:Hp) (vs:List V) (us:List Value) (Q:St->Hp->Prop),Inv X pins O H s->aJ vs us->t vs O H Q ->
  wpAny (model X.prog X.w) X.A (assignInOrder ((assignEach ts X.env).map (·.2)) us) (λ_ s'=>∃σ' H',Inv X pins σ' H' s'/\Q σ' H') X.xe s
abbrev u5:=V->V->V->Hp->(Hp->Prop)->Prop
def BL (X:Cx) (t:u5):Prop :=
 ∀(pins:D0) (s:Shared) (O:St) (H:Hp) (o i v:V) (ov iv u:Value) (Q:Hp->Prop),Inv X pins O H s->aR o ov->aR i iv->aR v u->t o i v H Q ->
  wpAny (model X.prog X.w) X.A (setItem ov iv u) (λ_ s'=>∃H',Inv X pins O H' s'/\Q H') X.xe s
section
variable {X:Cx} {pos:Pos}
def dH (i:Nat):TG:=λv O H Q=>Q (O.set i (some v)) H
variable {x:Str}
theorem bK {i:Nat} (hN:X.N.Nodup) (hi:X.N[i]?=some x) (hx:Loc X.env.scope x) (hf:X.fn x=true\/X.env.scope.names.lookup x=some .local:=by z_go):PG X (.Name x pos) (dH i):=by
 intro pins s O H v u Q I r h;exact wpAny_assign_Name (gB I hN hi hx r (λs' I'=>⟨_,H,I',h⟩) hf)
theorem bu (i:Nat) (hN:X.N.Nodup) (hi:X.N[i]?=some x:=by rfl) (hx:Loc X.env.scope x:=by z_go) (hf:X.fn x=true\/X.env.scope.names.lookup x=some .local:=by z_go):PG X (.Name x pos) (dH i):=bK hN hi hx hf
def CM:TGs:=λvs O H Q=>vs=[]/\Q O H
def BB (t:TG) (u:TGs):TGs:=λvs O H Q=>∃v r,vs=v::r/\t v O H λσ' H'=>u r σ' H' Q
theorem cq:PGs X [] CM:=by
 intro pins s O H vs us Q I r h;obtain⟨e,h⟩:=h;subst e;cases r;exact assignInOrder_nil ⟨O,H,I,h⟩
variable {e o i tg:Expr}
theorem aO {es:List Expr} {t:TG} {u:TGs} (h1:PG X e t) (h2:PGs X es u)
  (hs:(assignEach (e::es) X.env).map (·.2)=assign e X.env::(assignEach es X.env).map (·.2):=by rfl):PGs X (e::es) (BB t u):=by
 intro pins s O H vs us Q I r h;obtain⟨v,vr,e1,h⟩:=h;subst e1
 cases r with
 | cons r rr =>
 rw[hs];refine assignInOrder_cons (thn (h1 pins s O H _ _ _ I r h) λ_ s1 ⟨σ1,H1,I1,q1⟩=>?_);exact h2 pins s1 σ1 H1 _ _ Q I1 rr q1
def Bz (K:PySem.W.Frag) (n:Nat) (t:TGs):TG:=λv O H Q=>∃a xs,v=.ref a/\SqT K H a xs/\xs.length=n/\t xs O H Q
theorem eJ {es:List Expr} {k:Nat} {t:TGs} {n:Nat} (hc:X.calm=true) (h:PGs X es t)
  (hn:(assignEach es X.env).length=n:=by rfl) (hst:(assignEach es X.env).findIdx? (·.1)=none:=by rfl):PG X (.Tuple es k pos) (Bz X.K n t):=by
 intro pins s O H v u Q I r hw;obtain⟨a,xs,e1,hq,hl,hw⟩:=hw;subst e1;cases r;obtain⟨its,rv,ht,hz⟩:=I.tuple hq;refine assign_Tuple_tuple (I.ok.hd hc) ht (by simp[hn,<-hl,rv.length]) hst λh' hx=>?_;have I1:Inv X pins O H { s with heap:=h' }:=I.kept (t':=s.toks) λb o e=>hx b o (QM (Qm e)) e;exact h pins _ O H xs _ Q I1 (by simpa using rv) hw
def BA (to ti:TE) (t:u5):TG:=λv O H Q=>to O H λo H1=>ti O H1 λi H2=>t o i v H2 λH3=>Q O H3
variable {to ti te:TE}
theorem wM {t:u5} (ho:PE X o to) (hi:PE X i ti) (hs:BL X t)
  (ha:∀v,assign (.Subscript o i pos) X.env v=(do
   let ov <-holding [v] (eval o X.env);let iv <-holding [v,ov] (eval i X.env)
   standAt pos
   holding [v,ov,iv] (setItem ov iv v)
   release [v,ov,iv] []):=by intro _;rfl):PG X (.Subscript o i pos) (BA to ti t):=by
 intro pins s O H v u Q I r h;rw[ha];refine Qa (QT (thn (ho pins s O H _ I h) λov s1 ⟨x,H1,I1,r1,q1⟩=>?_));refine Qa (QT (thn (hi pins s1 O H1 _ I1 q1) λiv s2 ⟨y,H2,I2,r2,q2⟩=>?_));refine Qa (wpAny_standAt (Qa (QT (thn (hs pins s2 O H2 x y v ov iv u _ I2 r1 r2 r q2) λ_ s3 ⟨H3,I3,q3⟩=>?_))));exact wpAny_release ⟨O,H3,I3,q3⟩
def lZ (te:TE) (g:TG):TS:=λD O H=>te O H λx H1=>g x O H1 D.nx
theorem jC {g:TG} (he:PE X e te) (hg:PG X tg g) (hs:swapsWithSole [tg] e pos.line X.env=pure false:=by rfl) (hw:swappedStores [tg] e X.env=pure none:=by rfl)
  (h1:(assignEach [tg] X.env).map (·.2)=[assign tg X.env]:=by rfl):PS X (.Assign [tg] e pos) (lZ te g):=by
 intro pins s O H D I h;refine wpAny_Assign_stores (thn (he pins s O H _ I h) λv s1 ⟨x,H1,I1,r1,q1⟩=>?_) hs hw;rw[h1];exact thn (hg pins s1 O H1 x v _ I1 r1 q1) λ_ s2 q=>q
theorem mB {i:Nat} {pos':Pos} (hN:X.N.Nodup) (hi:X.N[i]?=some x) (hx:Loc X.env.scope x) (he:PE X e te) (hs:swapsWith e (some (.Name x pos')) pos.line X.env=pure false:=by rfl) (hf:X.fn x=true\/X.env.scope.names.lookup x=some .local:=by z_go) :
  PS X (.Assign [.Name x pos'] e pos) (lZ te (dH i)):=by
 intro pins s O H D I h;refine wpAny_Assign_Name (thn (he pins s O H _ I h) λv s1 ⟨y,H1,I1,r1,q1⟩=>?_) hs;exact gB I1 hN hi hx r1 (λs2 I2=>⟨_,H1,I2,q1⟩) hf
theorem aZ {pos':Pos} (i:Nat) (hN:X.N.Nodup) (he:PE X e te) (hi:X.N[i]?=some x:=by rfl) (hx:Loc X.env.scope x:=by z_go) (hs:swapsWith e (some (.Name x pos')) pos.line X.env=pure false:=by rfl) (hf:X.fn x=true\/X.env.scope.names.lookup x=some .local:=by z_go):PS X (.Assign [.Name x pos'] e pos) (lZ te (dH i)):=mB hN hi hx he hs hf
end
section
variable {X:Cx} {pos:Pos}
def wn (c:TT) (tb:TS):TS:=λD O H=>∃W:Nat->St->Hp->Prop,(∃m,W m O H)/\∀m O H,W m O H ->
 c O H λb H1=>if b=true then ∃N:St->Hp->Prop,(∀σ' H',N σ' H'->∃m',m'<m/\W m' σ' H')/\tb { D with nx:=N,ct:=N,bk:=D.nx } O H1 else D.nx O H1
theorem rn {c:Expr} {body:List Stmt} {tc:TT} {tb:TS} (hp:PassesOwn (model X.prog X.w) X.A X.env X.xe) (hc:PT X c tc) (hb:PSs X body tb):PS X (.While c body [] pos) (wn tc tb):=by
 intro pins s O H D I h;obtain⟨W,⟨m0,w0⟩,turn⟩:=h;refine wpAny_While (codeAny_whileLoop (λn s'=>∃σ' H',Inv X pins σ' H' s'/\W n σ' H') ?_ m0 ⟨O,H,I,w0⟩);rintro n s1 ⟨σ1,H1,I1,w1⟩;refine wpAny_passesOwn hp (thn (hc pins s1 σ1 H1 _ I1 (turn n σ1 H1 w1)) λb s2 ⟨H2,I2,q2⟩=>?_)
 cases b with
 | true =>
  obtain⟨N,hN,q2⟩:=q2;rw[Qp rfl];refine wpAny_passesOwn hp (thn (hb pins s2 σ1 H2 _ I2 q2) λf s3 q3=>?_)
  cases f with
  | next =>
   obtain⟨σ3,H3,I3,n3⟩:=q3;obtain⟨m',hm,w3⟩:=hN σ3 H3 n3;exact⟨m',hm,σ3,H3,I3,w3⟩
  | cont =>
   obtain⟨σ3,H3,I3,n3⟩:=q3;obtain⟨m',hm,w3⟩:=hN σ3 H3 n3;exact⟨m',hm,σ3,H3,I3,w3⟩
  | brk=>exact q3
  | ret v=>exact q3
 | false =>
 rw[Qn Qk];exact wpAny_execs_nil ⟨σ1,H2,I2,q2⟩
end
structure It where
 go:Nat->Hp->Prop
 yld:Nat->Hp->V->Hp->Prop
 stop:Nat->Hp->Prop
def dR (X:Cx) (pins:D0) (H:Hp) (b:Addr):Prop :=
 H b=none/\b≠X.env.locals/\b∉X.fs/\(b∈X.ex\/X.s₀.heap.objs.size<=b)/\(∀x c,X.env.cells.lookup x=some c->c≠b)/\∀p∈X.pn++pins,p.1≠b
variable {O:St}
theorem Inv.fpOk {pins:D0} (I:Inv X pins O H s) (hb:s.heap.objs.size<=b) (hn:H' b=none):dR X pins H' b:=by
 refine⟨hn,Nat.ne_of_gt (QS I.lt hb),I.nofs hb,.inr (QR I.sz hb),λx c e z=>?_,λp hp z=>?_⟩
 ·obtain⟨v,q⟩:=I.cell x c e;exact absurd (QS q.lt (by rw[z];exact hb)) (Nat.lt_irrefl _)
 exact absurd (QS (Qm (I.pin p hp).1) (by rw[z];exact hb)) (Nat.lt_irrefl _)
structure Turn (P:Program) (w:World) (K:PySem.W.Frag) (tg:Expr) (J:It) (fp:D4) (it:Addr) (tn:Nat->Heap->Prop):Prop where
 mem:it∈fp
 obj:∀i h,tn i h->∀b∈fp,∃o,h.get? b=some o/\∀v,o.data≠.cell v
 keep:∀i h h',tn i h->(∀b∈fp,∀o,h.get? b=some o->h'.get? b=some o)->tn i h'
 item:∀(X:Cx),X.prog=P->X.w=w->X.K=K->X.calm=true->∀(i:Nat) (pins:D0) (s:Shared) (O:St) (H:Hp) (E:C9),Inv X pins O H s->(∀b∈fp,dR X pins H b)->tn i s.heap->J.go i H ->
  wpAny (model P w) X.A (pyNext (.ref it)) (λr s1=>∃u,r=some u /\
   wpAny (model P w) X.A (letOwnedTupleGo tg (.ref it) u) (λ_ s2=>∃x H',Inv X pins O H' s2/\aR x u/\J.yld i H x H'/\tn (i+1) s2.heap/\∀b∈fp,H' b=none) E s1) E s
 done:∀(X:Cx),X.prog=P->X.w=w->X.K=K->X.calm=true->∀(i:Nat) (pins:D0) (s:Shared) (O:St) (H:Hp) (E:C9),Inv X pins O H s->(∀b∈fp,dR X pins H b)->tn i s.heap->J.stop i H ->
  wpAny (model P w) X.A (pyNext (.ref it)) (λr s1=>r=none/\Inv X pins O H s1) E s
 self:∀(A:Around) (i:Nat) (s:Shared) (Q:C9) (E:C9),tn i s.heap->Q (.ref it) s->wpAny (model P w) A (pyIter (.ref it)) Q E s
abbrev TI:=St->Hp->(It->Hp->Prop)->Prop
def PIE (X:Cx) (pins:D0) (O:St) (tg:Expr) (R:It->Hp->Prop) (itv:Value) (s2:Shared):Prop :=
 ∃(it:Addr) (fp:D4) (tn:Nat->Heap->Prop) (J:It) (H':Hp),itv=.ref it/\Inv X pins O H' s2/\Turn X.prog X.w X.K tg J fp it tn/\tn 0 s2.heap/\(∀b∈fp,dR X pins H' b)/\R J H'
def PI (X:Cx) (tg iter:Expr) (wi:TI):Prop :=
 ∀(pins:D0) (s:Shared) (O:St) (H:Hp) (R:It->Hp->Prop),Inv X pins O H s->wi O H R ->
  wpAny (model X.prog X.w) X.A (eval iter X.env) (λv s1=>wpAny (model X.prog X.w) X.A (pyIter v) (PIE X pins O tg R) X.xe s1) X.xe s
theorem oH {M:Model} {s:Shared} {o:Obj} {n:String} {vs:Array Value} {Q:Unit->Shared->Prop} (ho:s.heap.get? it=some o) (hc:o.cls=.type n) (hd:o.data=.fields vs)
  (hn:["enumerate", "zip", "dict_itemiterator", "dict_reverseitemiterator", "odict_iterator", "itertools.zip_longest", "itertools.pairwise"].contains n=false) (hQ:Q () s):wpAny M A (letOwnedTupleGo tg (.ref it) u) Q E s:=by
 unfold letOwnedTupleGo
 cases tg <;> first
  | exact Qe hQ
  | (cases u <;> first
    | exact Qe hQ
    |(refine Qa (wpAny_load ho ?_)
      rw[hc,hd];show wpAny M A (if (["enumerate", "zip", "dict_itemiterator", "dict_reverseitemiterator", "odict_iterator", "itertools.zip_longest", "itertools.pairwise"].contains n&&vs[0]?==some (rawInt _))=true then _ else _) Q E s;rw[Qn (by intro h;rw[hn,Bool.false_and]at h;cases h)]
      exact Qe hQ))
def Itl (K:PySem.W.Frag) (a:Addr):It :=
 ⟨λi H=>∃xs x,SqL K H a xs/\xs[i]?=some x,λi H x H'=>H'=H/\∀xs,SqL K H a xs->xs[i]?=some x,λi H=>∃xs,SqL K H a xs/\xs.length<=i⟩
def Itt (K:PySem.W.Frag) (a:Addr):It :=
 ⟨λi H=>∃xs x,SqT K H a xs/\xs[i]?=some x,λi H x H'=>H'=H/\∀xs,SqT K H a xs->xs[i]?=some x,λi H=>∃xs,SqT K H a xs/\xs.length<=i⟩
def Itr (lo:Int) (n:Nat):It:=⟨λi _=>i<n,λi H x H'=>H'=H/\x=.int (lo+i),λi _=>n<=i⟩
theorem pd {P:Program} {w:World} {K:PySem.W.Frag} (a it:Addr):Turn P w K tg (Itl K a) [it] it (λi h=>h.IsListIter it a i) where
 mem:=by simp
 obj:=λi h st b hb=>by
  have e:b=it:=by simpa using hb
  subst e;obtain⟨o,e,c,d⟩:=st;exact⟨o,e,λv z=>by rw[d]at z;cases z⟩
 keep:=λi h h' st k=>st.at λo e=>k it (by simp) o e
 item:=by
  intro X hP hw hK hc i pins s O H E I hf st hg;subst hP hw hK;obtain⟨xs,x,hq,hx⟩:=hg;obtain⟨its,rv,p,hz⟩:=I.list hq;obtain⟨u,hu,ru⟩:=rv.get hx;obtain⟨f0,f1,f2,f3,f4,f5⟩:=hf it (by simp);refine wpAny_pyNext_list_item st p.isList (x:=u) (by simpa using hu) λh' st' sb=>?_;have I1:Inv X pins O H { s with heap:=h' }:=I.turned (t':=s.toks) (λb o hb e=>(sb.2 b hb).trans e) f0 f1 f3 f4 f5;obtain⟨o,e,c,d⟩:=id st';exact⟨u,rfl,oH (s:={ s with heap:=h' }) e c d (by decide) ⟨x,H,I1,ru,⟨rfl,λys hy=>by rw[I.list_inj hy hq];exact hx⟩,st',λb hb=>(hf b hb).1⟩⟩
 done:=by
  intro X hP hw hK hc i pins s O H E I hf st hg;subst hP hw hK;obtain⟨xs,hq,hx⟩:=hg;obtain⟨its,rv,p,hz⟩:=I.list hq;obtain⟨f0,f1,f2,f3,f4,f5⟩:=hf it (by simp);have hl:=rv.length;exact wpAny_pyNext_list_end (I.ok.hd hc) st p.isList (by simp;omega) λh' eb=>⟨rfl,I.turned (t':=s.toks) (λb o hb e=>eb b o hb e) f0 f1 f3 f4 f5⟩
 self:=λ_ _ _ _ _ st h=>wpAny_pyIter_listiter st h
theorem lV {P:Program} {w:World} {K:PySem.W.Frag} (a it:Addr):Turn P w K tg (Itt K a) [it] it (λi h=>h.IsTupleIter it a i) where
 mem:=by simp
 obj:=λi h st b hb=>by
  have e:b=it:=by simpa using hb
  subst e;obtain⟨o,e,c,d⟩:=st;exact⟨o,e,λv z=>by rw[d]at z;cases z⟩
 keep:=λi h h' st k=>st.at λo e=>k it (by simp) o e
 item:=by
  intro X hP hw hK hc i pins s O H E I hf st hg;subst hP hw hK;obtain⟨xs,x,hq,hx⟩:=hg;obtain⟨its,rv,p,hz⟩:=I.tuple hq;obtain⟨u,hu,ru⟩:=rv.get hx;obtain⟨f0,f1,f2,f3,f4,f5⟩:=hf it (by simp);refine wpAny_pyNext_tuple_item st (show s.heap.IsTuple a its.toArray from p) (x:=u) (by simpa using hu) λh' st' sb=>?_;have I1:Inv X pins O H { s with heap:=h' }:=I.turned (t':=s.toks) (λb o hb e=>(sb.2 b hb).trans e) f0 f1 f3 f4 f5;obtain⟨o,e,c,d⟩:=id st';exact⟨u,rfl,oH (s:={ s with heap:=h' }) e c d (by decide) ⟨x,H,I1,ru,⟨rfl,λys hy=>by rw[I.tuple_inj hy hq];exact hx⟩,st',λb hb=>(hf b hb).1⟩⟩
 done:=by
  intro X hP hw hK hc i pins s O H E I hf st hg;subst hP hw hK;obtain⟨xs,hq,hx⟩:=hg;obtain⟨its,rv,p,hz⟩:=I.tuple hq;obtain⟨f0,f1,f2,f3,f4,f5⟩:=hf it (by simp);have hl:=rv.length;exact wpAny_pyNext_tuple_end (I.ok.hd hc) st (show s.heap.IsTuple a its.toArray from p) (by simp;omega) λh' eb=>⟨rfl,I.turned (t':=s.toks) (λb o hb e=>eb b o hb e) f0 f1 f3 f4 f5⟩
 self:=λ_ _ _ _ _ st h=>wpAny_pyIter_tupleiter st h
theorem lW {P:Program} {w:World} {K:PySem.W.Frag} (it:Addr) (lo:Int) (n:Nat):Turn P w K tg (Itr lo n) [it] it (λi h=>IsRangeIter h it (lo+(i:Nat)*1) ((n:Int)-(i:Nat)) 1) where
 mem:=by simp
 obj:=λi h st b hb=>by
  have e:b=it:=by simpa using hb
  subst e
  exact⟨_,st,λv z=>by
   have z':Data.fields _=Data.cell v:=z
   cases z'⟩
 keep:=λi h h' st k=>k it (by simp) _ st
 item:=by
  intro X hP hw hK hc i pins s O H E I hf st hg;subst hP hw hK;obtain⟨f0,f1,f2,f3,f4,f5⟩:=hf it (by simp);have W:=Walks.range (prog:=X.prog) (w:=X.w) (I.ok.hd hc) it lo 1 n;refine W.item i s _ _ hg st λv h' tk hv st' kk=>?_;obtain⟨t,rfl⟩:=hv;have I1:Inv X pins O H { s with heap:=h',toks:=tk }:=I.turned (λb o hb e=>kk b o (by simpa using hb) e) f0 f1 f3 f4 f5;refine⟨_,rfl,oH (s:={ s with heap:=h',toks:=tk }) (n := "range_iterator") st' rfl rfl (by decide) ⟨.int (lo+i),H,I1,⟨t,?_⟩,⟨rfl,rfl⟩,st',λb hb=>(hf b hb).1⟩⟩;rw[Int.mul_one]
 done:=by
  intro X hP hw hK hc i pins s O H E I hf st hg;subst hP hw hK;obtain⟨f0,f1,f2,f3,f4,f5⟩:=hf it (by simp);exact wpAny_pyNext_range_end (I.ok.hd hc) st (by have:n<=i:=hg;omega) λh' eb=>⟨rfl,I.turned (t':=s.toks) (λb o hb e=>eb b o hb e) f0 f1 f3 f4 f5⟩
 self:=λ_ _ _ _ _ st h=>wpAny_pyIter_rangeiter st h
section
variable {X:Cx} {tg:Expr}
def sO (K:PySem.W.Frag) (tl:TE):TI:=λO H R=>tl O H λx H1=>∃a,x=.ref a/\(∃xs,SqL K H1 a xs)/\R (Itl K a) H1
def Bw (K:PySem.W.Frag) (tl:TE):TI:=λO H R=>tl O H λx H1=>∃a,x=.ref a/\(∃xs,SqT K H1 a xs)/\R (Itt K a) H1
variable {l a:Expr}
theorem cF {tl:TE} (hl:PE X l tl):PI X tg l (sO X.K tl):=by
 intro pins s O H R I h;refine thn (hl pins s O H _ I h) λv s1 ⟨x,H1,I1,r1,q1⟩=>?_;obtain⟨a,e,⟨xs,hq⟩,q⟩:=q1;subst e;cases r1;obtain⟨its,rv,p,hz⟩:=I1.list hq;refine wpAny_pyIter_list p.isList ?_;refine⟨s1.heap.objs.size,[s1.heap.objs.size],_,_,H1,rfl,I1.kept (t':=s1.toks) λb o e=>Qc _ e,pd a _,⟨_,Qs _ rfl,rfl,rfl⟩,λb hb=>?_,q⟩;have e:b=s1.heap.objs.size:=by simpa using hb
 subst e;exact I1.fpOk (Qi _) (I1.hok.fresh (Qi _))
theorem rp {tl:TE} (hl:PE X l tl):PI X tg l (Bw X.K tl):=by
 intro pins s O H R I h;refine thn (hl pins s O H _ I h) λv s1 ⟨x,H1,I1,r1,q1⟩=>?_;obtain⟨a,e,⟨xs,hq⟩,q⟩:=q1;subst e;cases r1;obtain⟨its,rv,p,hz⟩:=I1.tuple hq;refine wpAny_pyIter_tuple (show s1.heap.IsTuple a its.toArray from p) ?_;refine⟨s1.heap.objs.size,[s1.heap.objs.size],_,_,H1,rfl,I1.kept (t':=s1.toks) λb o e=>Qc _ e,lV a _,⟨_,Qs _ rfl,rfl,rfl⟩,λb hb=>?_,q⟩;have e:b=s1.heap.objs.size:=by simpa using hb
 subst e;exact I1.fpOk (Qi _) (I1.hok.fresh (Qi _))
variable {s:Shared} {pins pl:D0}
theorem kK {O:St} {H:Hp} {R:It->Hp->Prop} {E:C9} {lo hi:Int} {t u v:Tok} {tk:Nat} (I:Inv X pins O H s) (h1:-(2 ^ 62)<=lo) (h2:lo<2 ^ 62) (h3:-(2 ^ 62)<=hi) (h4:hi<2 ^ 62)
  (q:R (Itr lo (hi-lo).toNat) H):wpAny (model X.prog X.w) X.A (pyIter (.ref s.heap.objs.size)) (PIE X pins O tg R) E { s with heap:=s.heap.push { cls:=.type "range", data:=.fields #[.int lo t,.int hi u,.int 1 v] },toks:=tk }:=by
 refine wpAny_pyIter_range (IsRange.new ..) (small_one h1 h2 h3 h4) ?_;have I1:Inv X pins O H { s with heap:=s.heap.push { cls:=.type "range", data:=.fields #[.int lo t,.int hi u,.int 1 v] },toks:=tk }:=I.kept λb o e=>Qc _ e
 refine⟨(s.heap.push { cls:=.type "range", data:=.fields #[.int lo t,.int hi u,.int 1 v] }).objs.size,[(s.heap.push { cls:=.type "range", data:=.fields #[.int lo t,.int hi u,.int 1 v] }).objs.size],_,_,H,rfl,
  I1.kept (t':=tk) λb o e=>Qc _ e,lW _ lo (hi-lo).toNat,?_,λb hb=>?_,q⟩
 ·have e1:lo+((0:Nat):Int)*1=lo:=by simp
  have e2:(((hi-lo).toNat:Nat):Int)-((0:Nat):Int)=Builtin.Range.rangeSize lo hi 1:=by rw[rangeSize_one];split <;> omega
  show IsRangeIter _ _ (lo+((0:Nat):Int)*1) ((((hi-lo).toNat:Nat):Int)-((0:Nat):Int)) 1;rw[e1,e2];exact Qs _ rfl
 have e:b=(s.heap.push { cls:=.type "range", data:=.fields #[.int lo t,.int hi u,.int 1 v] }).objs.size:=by simpa using hb
 subst e;exact I1.fpOk (Qi _) (I1.hok.fresh (Qi _))
def vT (ta:TA):TI:=λO H R=>ta O H λvs H1=>∃j:Int,vs=[.int j]/\-(2 ^ 62)<=j/\j<2 ^ 62/\R (Itr 0 j.toNat) H1
def vS (ta:TA):TI:=λO H R=>ta O H λvs H1=>∃i j:Int,vs=[.int i,.int j]/\(-(2 ^ 62)<=i/\i<2 ^ 62/\-(2 ^ 62)<=j/\j<2 ^ 62)/\R (Itr i (j-i).toNat) H1
theorem bU {ta:TA} {p pos:Pos} (hg:Gl X "range") (hm:X.mg "range" = none) (ha:PA X [a] ta) (hs:starEach [a] X.env=[(false,eval a X.env)]:=by rfl):PI X tg (.Call (.Name "range" p) [a] [] pos) (vT ta):=by
 intro pins s O H R I h;refine Call_ (cO I hg hm boot_range (Q7 (thn (ha pos pins s O H _ I h) λus s1 ⟨vs,H1,I1,r1,q1⟩=>?_) hs rfl));obtain⟨j,e,q1,q2,q⟩:=q1;subst e
 cases r1 with
 | cons r rr =>
 cases rr;obtain⟨t,rfl⟩:=r;exact call_range_1 (kK I1 (by omega) (by omega) q1 q2 (by simpa using q))
theorem pH {b:Expr} {ta:TA} {p pos:Pos} (hg:Gl X "range") (hm:X.mg "range" = none) (ha:PA X [a,b] ta) (hs:starEach [a,b] X.env=[(false,eval a X.env),(false,eval b X.env)]:=by rfl) (hs2:starEach [b] X.env=[(false,eval b X.env)]:=by rfl) :
  PI X tg (.Call (.Name "range" p) [a,b] [] pos) (vS ta):=by
 intro pins s O H R I h;refine Call_ (cO I hg hm boot_range (Q7 (thn (ha pos pins s O H _ I h) λus s1 ⟨vs,H1,I1,r1,q1⟩=>?_) (by rw[hs,hs2]) (by rw[hs2];rfl)));obtain⟨i,j,e,⟨q1,q2,q3,q4⟩,q⟩:=q1;subst e
 cases r1 with
 | cons r rr =>
 cases rr with
 | cons r' rr =>
 cases rr;obtain⟨t,rfl⟩:=r;obtain⟨t',rfl⟩:=r';exact call_range_2 (kK I1 q1 q2 q3 q4 q)
def wv (wi:TI) (g:TG) (tb:TS):TS:=λD O H=>wi O H λJ H1=>∃W:Nat->Nat->St->Hp->Prop,(∃m,W 0 m O H1)/\∀i m O H,W i m O H ->
 (J.stop i H/\D.nx O H)\/(J.go i H/\∃N:St->Hp->Prop,(∀σ' H',N σ' H'->∃m',m'<m/\W (i+1) m' σ' H')/\∀x H',J.yld i H x H'->g x O H' λσ2 H2=>tb { D with nx:=N,ct:=N,bk:=D.nx } σ2 H2)
def fJ (fp:D4) (h:Heap):D0:=fp.filterMap λb=>(h.get? b).map λo=>(b,o)
variable {fp:D4}
theorem cC {h:Heap} {b:Addr} {o:Obj} (hb:b∈fp) (e:h.get? b=some o):(b,o)∈fJ fp h:=List.mem_filterMap.mpr ⟨b,hb,by rw[e];rfl⟩
theorem pS {h:Heap} {p:Addr × Obj} (hp:p∈fJ fp h):p.1∈fp/\h.get? p.1=some p.2:=by
 obtain⟨b,hb,e⟩:=List.mem_filterMap.mp hp
 cases q:h.get? b with
 | none=>rw[q]at e;cases e
 | some o =>
 rw[q]at e;have e':(b,o)=p:=QN e;subst e';exact⟨hb,q⟩
theorem Inv.pinned {O:St} {H:Hp} (I:Inv X pins O H s) (hf:∀b∈fp,dR X pins H b) (ho:∀b∈fp,∃o,s.heap.get? b=some o/\∀v,o.data≠.cell v):Inv X (pins++fJ fp s.heap) O H s :=
 I.pins_of λp hp=>(Qj.mp hp).elim (λz=>I.pin p (QJ _ z)) λz=>by
  obtain⟨hb,e⟩:=pS z;obtain⟨f0,f1,f2,_⟩:=hf p.1 hb;obtain⟨o,e',d⟩:=ho p.1 hb;rw[e]at e';cases e';exact⟨e,f0,f1,f2,d⟩
theorem Inv.unpinned {O:St} {H:Hp} (I:Inv X (pins++pl) O H s):Inv X pins O H s:=I.pins_of λp hp=>I.pin p (QJ _ (QH _ hp))
theorem ps_for {iter:Expr} {body:List Stmt} {wi:TI} {g:TG} {tb:TS} {pos:Pos} (hp:PassesOwn (model X.prog X.w) X.A X.env X.xe) (hc:X.calm=true) (hi:PI X tg iter wi) (hg:PG X tg g) (hb:PSs X body tb)
  (hs:∀x,foldedSetIterable iter X.env x=pure x:=by intro _;rfl):PS X (.For tg iter body [] pos) (wv wi g tb):=by
 intro pins s O H D I h;refine wpAny_For (thn (hi pins s O H _ I h) λv s1 h1=>thn h1 λitv s2 h2=>?_) hs;obtain⟨it,fp,tn,J,H2,e,I2,T,st2,f2,W,⟨m0,w0⟩,turn⟩:=h2;subst e
 -- what stays true of the iterator's objects through the loop
 have stat:∀{H':Hp},(∀b∈fp,H' b=none)->∀b∈fp,dR X pins H' b:=λhn b hb=>⟨hn b hb,(f2 b hb).2⟩;refine codeAny_forLoop_any (λn s'=>∃i σ' H',Inv X pins σ' H' s'/\tn i s'.heap/\(∀b∈fp,H' b=none)/\W i n σ' H') ?_ m0 ⟨0,O,H2,I2,st2,λb hb=>(f2 b hb).1,w0⟩;rintro n s3 ⟨i,σ3,H3,I3,st3,fr3,w3⟩;rcases turn i n σ3 H3 w3 with⟨stop,qn⟩|⟨go,N,hN,step⟩
 ·refine wpAny_passesOwn hp (thn (T.done X rfl rfl rfl hc i pins s3 σ3 H3 X.xe I3 (stat fr3) st3 stop) λr s4 ⟨hr,I4⟩=>?_);subst hr;exact wpAny_execs_nil ⟨σ3,H3,I4,qn⟩
 refine wpAny_passesOwn hp (thn (T.item X rfl rfl rfl hc i pins s3 σ3 H3 X.xe I3 (stat fr3) st3 go) λr s4 ⟨u,hr,h4⟩=>?_);subst hr;refine wpAny_passesOwn hp (thn h4 λ_ s5 ⟨x,H5,I5,r5,y5,st5,fr5⟩=>?_);have I5':=I5.pinned (stat fr5) (T.obj _ _ st5);refine wpAny_passesOwn hp (thn (hg _ s5 σ3 H5 x u _ I5' r5 (step x H5 y5)) λ_ s6 ⟨σ6,H6,I6,q6⟩=>?_);refine wpAny_passesOwn hp (thn (hb _ s6 σ6 H6 _ I6 q6) λf s7 q7=>?_)
 have again:∀{σ7:St} {H7:Hp},Inv X (pins++fJ fp s5.heap) σ7 H7 s7->N σ7 H7->∃m,m<n/\∃i σ' H',Inv X pins σ' H' s7/\tn i s7.heap/\(∀b∈fp,H' b=none)/\W i m σ' H':=λ{σ7 H7} I7 n7=>by
  obtain⟨m',hm,w7⟩:=hN σ7 H7 n7;refine⟨m',hm,i+1,σ7,H7,I7.unpinned,T.keep _ _ _ st5 λb hb o e=>(I7.pin (b,o) (QJ _ (QJ _ (cC hb e)))).1,λb hb=>?_,w7⟩;obtain⟨o,e,d⟩:=T.obj _ _ st5 b hb;exact(I7.pin (b,o) (QJ _ (QJ _ (cC hb e)))).2.1
 cases f with
 | next=>obtain⟨σ7,H7,I7,n7⟩:=q7;exact again I7 n7
 | cont=>obtain⟨σ7,H7,I7,n7⟩:=q7;exact again I7 n7
 | brk=>obtain⟨σ7,H7,I7,q7⟩:=q7;exact⟨σ7,H7,I7.unpinned,q7⟩
 | ret v=>obtain⟨x7,σ7,H7,I7,r7,q7⟩:=q7;exact⟨x7,σ7,H7,I7.unpinned,r7,q7⟩
end
theorem io {K:PySem.W.Frag} {xs:List V} {g:TG} {tb:TS} {D:Ends} (Pv:Nat->St->Hp->Prop) (h0:Pv 0 O H) (hl:∀i O H,i<=xs.length->Pv i O H->SqL K H a xs)
  (hs:∀i x O H,xs[i]?=some x->Pv i O H->g x O H λσ2 H2=>tb { D with nx:=Pv (i+1),ct:=Pv (i+1),bk:=D.nx } σ2 H2) (hd:∀O H,Pv xs.length O H->D.nx O H) :
  ∃W:Nat->Nat->St->Hp->Prop,(∃m,W 0 m O H)/\∀i m O H,W i m O H ->
   ((Itl K a).stop i H/\D.nx O H)\/((Itl K a).go i H/\∃N:St->Hp->Prop,(∀σ' H',N σ' H'->∃m',m'<m/\W (i+1) m' σ' H')/\∀x H',(Itl K a).yld i H x H'->g x O H' λσ2 H2=>tb { D with nx:=N,ct:=N,bk:=D.nx } σ2 H2):=by
 refine⟨λi m O H=>m=xs.length-i/\i<=xs.length/\Pv i O H,⟨xs.length,by simp,Q0 _,h0⟩,?_⟩;rintro i m O H ⟨rfl,hi,p⟩;have q:=hl i O H hi p;by_cases hlt:i<xs.length
 ·refine .inr ⟨⟨xs,xs[i],q,by simp[hlt]⟩,Pv (i+1),λσ' H' p'=>⟨xs.length-(i+1),by omega,rfl,hlt,p'⟩,λx H' y=>?_⟩;obtain⟨e,y⟩:=y;subst e;exact hs i x O _ (y xs q) p
 have e:i=xs.length:=by omega
 subst e;exact .inl ⟨⟨xs,q,Qi _⟩,hd O H p⟩
theorem uU {K:PySem.W.Frag} {xs:List V} {g:TG} {tb:TS} {D:Ends} (Pv:Nat->St->Hp->Prop) (h0:Pv 0 O H) (hl:∀i O H,i<=xs.length->Pv i O H->SqT K H a xs)
  (hs:∀i x O H,xs[i]?=some x->Pv i O H->g x O H λσ2 H2=>tb { D with nx:=Pv (i+1),ct:=Pv (i+1),bk:=D.nx } σ2 H2) (hd:∀O H,Pv xs.length O H->D.nx O H) :
  ∃W:Nat->Nat->St->Hp->Prop,(∃m,W 0 m O H)/\∀i m O H,W i m O H ->
   ((Itt K a).stop i H/\D.nx O H)\/((Itt K a).go i H/\∃N:St->Hp->Prop,(∀σ' H',N σ' H'->∃m',m'<m/\W (i+1) m' σ' H')/\∀x H',(Itt K a).yld i H x H'->g x O H' λσ2 H2=>tb { D with nx:=N,ct:=N,bk:=D.nx } σ2 H2):=by
 refine⟨λi m O H=>m=xs.length-i/\i<=xs.length/\Pv i O H,⟨xs.length,by simp,Q0 _,h0⟩,?_⟩;rintro i m O H ⟨rfl,hi,p⟩;have q:=hl i O H hi p;by_cases hlt:i<xs.length
 ·refine .inr ⟨⟨xs,xs[i],q,by simp[hlt]⟩,Pv (i+1),λσ' H' p'=>⟨xs.length-(i+1),by omega,rfl,hlt,p'⟩,λx H' y=>?_⟩;obtain⟨e,y⟩:=y;subst e;exact hs i x O _ (y xs q) p
 have e:i=xs.length:=by omega
 subst e;exact .inl ⟨⟨xs,q,Qi _⟩,hd O H p⟩
theorem bY {lo:Int} {n:Nat} {g:TG} {tb:TS} {D:Ends} (Pv:Nat->St->Hp->Prop) (h0:Pv 0 O H)
  (hs:∀i O H,i<n->Pv i O H->g (.int (lo+i)) O H λσ2 H2=>tb { D with nx:=Pv (i+1),ct:=Pv (i+1),bk:=D.nx } σ2 H2) (hd:∀O H,Pv n O H->D.nx O H) :
  ∃W:Nat->Nat->St->Hp->Prop,(∃m,W 0 m O H)/\∀i m O H,W i m O H ->
   ((Itr lo n).stop i H/\D.nx O H)\/((Itr lo n).go i H/\∃N:St->Hp->Prop,(∀σ' H',N σ' H'->∃m',m'<m/\W (i+1) m' σ' H')/\∀x H',(Itr lo n).yld i H x H'->g x O H' λσ2 H2=>tb { D with nx:=N,ct:=N,bk:=D.nx } σ2 H2):=by
 refine⟨λi m O H=>m=n-i/\i<=n/\Pv i O H,⟨n,by simp,Q0 _,h0⟩,?_⟩;rintro i m O H ⟨rfl,hi,p⟩;by_cases hlt:i<n
 ·refine .inr ⟨hlt,Pv (i+1),λσ' H' p'=>⟨n-(i+1),by omega,rfl,hlt,p'⟩,λx H' y=>?_⟩;obtain⟨e,y⟩:=y;subst e y;exact hs i O _ hlt p
 have e:i=n:=by omega
 subst e;exact .inl ⟨Qi _,hd O H p⟩
abbrev R2:=V->V->Hp->VK->Prop
def OpR (X:Cx) (f:Value->Value->Sem Value) (r:R2):Prop :=
 ∀(pins:D0) (s:Shared) (O:St) (H:Hp) (x y:V) (v u:Value) (Q:VK),Inv X pins O H s->aR x v->aR y u->r x y H Q ->
  wpAny (model X.prog X.w) X.A (f v u) (EP X pins O Q) X.xe s
def UnR (X:Cx) (f:Value->Sem Value) (r:V->Hp->VK->Prop):Prop :=
 ∀(pins:D0) (s:Shared) (O:St) (H:Hp) (x:V) (v:Value) (Q:VK),Inv X pins O H s->aR x v->r x H Q ->
  wpAny (model X.prog X.w) X.A (f v) (EP X pins O Q) X.xe s
def dI (X:Cx) (f:Value) (r:List V->Hp->VK->Prop):Prop :=
 ∀(pins:D0) (s:Shared) (O:St) (H:Hp) (xs:List V) (us:List Value) (Q:VK),Inv X pins O H s->aJ xs us->r xs H Q ->
  wpAny (model X.prog X.w) X.A (call f us) (EP X pins O Q) X.xe s
def tOp (r:R2) (ta tb:TE):TE:=λO H Q=>ta O H λx H1=>tb O H1 λy H2=>r x y H2 Q
def tUn (r:V->Hp->VK->Prop) (ta:TE):TE:=λO H Q=>ta O H λx H1=>r x H1 Q
def rI (C:Int->Int->Prop) (g:Int->Int->V):R2:=λx y H Q=>∃i j,x=.int i/\y=.int j/\C i j/\Q (g i j) H
def rI0 (g:Int->Int->V):R2:=λx y H Q=>∃i j,x=.int i/\y=.int j/\Q (g i j) H
def rU (g:Int->V):V->Hp->VK->Prop:=λx H Q=>∃i,x=.int i/\Q (g i) H
section
variable {X:Cx} {a b c:Expr} {ta tb tc:TE} {pos:Pos}
variable {f:Value->Value->Sem Value}
theorem xK (ha:PE X a ta) (hb:PE X b tb) {pins:D0} {s:Shared} {O:St} {H:Hp} {R:V->V->Hp->Prop} (I:Inv X pins O H s)
  (h:ta O H λx H1=>tb O H1 λy H2=>R x y H2) {Q:C9}
  (hf:∀v u s2 x y H2,Inv X pins O H2 s2->aR x v->aR y u->R x y H2->wpAny (model X.prog X.w) X.A (f v u) Q X.xe s2) :
  wpAny (model X.prog X.w) X.A (eval a X.env) (λv s₁=>wpAny (model X.prog X.w) X.A (eval b X.env) (λu s₂=>wpAny (model X.prog X.w) X.A (f v u) Q X.xe s₂) X.xe s₁) X.xe s:=by
 refine thn (ha pins s O H _ I h) λv s1 ⟨x,H1,I1,r1,q1⟩=>?_;refine thn (hb pins s1 O H1 _ I1 q1) λu s2 ⟨y,H2,I2,r2,q2⟩=>?_;exact hf v u s2 x y H2 I2 r1 r2 q2
theorem aP {op:Operator} {r:R2} (ho:OpR X (binaryOp op) r) (ha:PE X a ta) (hb:PE X b tb):PE X (.BinOp a op b pos) (tOp r ta tb):=by
 intro pins s O H Q I h;exact wpAny_BinOp (xK ha hb I h λv u s2 x y H2 I2 rx ry q=>ho pins s2 O H2 x y v u Q I2 rx ry q)
theorem kT {op:UnaryOp} {r:V->Hp->VK->Prop} (ho:UnR X (unaryOp op) r) (ha:PE X a ta):PE X (.UnaryOp op a pos) (tUn r ta):=by
 intro pins s O H Q I h;exact UnaryOp_ (thn (ha pins s O H _ I h) λv s1 ⟨x,H1,I1,r1,q1⟩=>ho pins s1 O H1 x v Q I1 r1 q1)
theorem opI {C:Int->Int->Prop} {g:Int->Int->Int}
  (rule:∀(i j:Int) (t u:Tok) (s:Shared) (Q:C9) (E:C9),C i j->Q (.int (g i j) s.toks) { s with toks:=s.toks+1 }->wpAny (model X.prog X.w) X.A (f (.int i t) (.int j u)) Q E s) :
  OpR X f (rI C λi j=>.int (g i j)):=by
 intro pins s O H x y v u Q I rx ry h;obtain⟨i,j,rfl,rfl,hc,q⟩:=h;obtain⟨t,rfl⟩:=rx;obtain⟨t',rfl⟩:=ry;exact rule i j t t' s _ _ hc ⟨.int (g i j),H,I.tok _,⟨_,rfl⟩,q⟩
theorem yq {g:Int->Int->Int}
  (rule:∀(i j:Int) (t u:Tok) (s:Shared) (Q:C9) (E:C9),Q (.int (g i j) s.toks) { s with toks:=s.toks+1 }->wpAny (model X.prog X.w) X.A (f (.int i t) (.int j u)) Q E s) :
  OpR X f (rI0 λi j=>.int (g i j)):=by
 intro pins s O H x y v u Q I rx ry h;obtain⟨i,j,rfl,rfl,q⟩:=h;obtain⟨t,rfl⟩:=rx;obtain⟨t',rfl⟩:=ry;exact rule i j t t' s _ _ ⟨.int (g i j),H,I.tok _,⟨_,rfl⟩,q⟩
theorem wX {g:Int->Int->Bool}
  (rule:∀(i j:Int) (t u:Tok) (s:Shared) (Q:C9) (E:C9),Q (.bool (g i j)) s->wpAny (model X.prog X.w) X.A (f (.int i t) (.int j u)) Q E s) :
  OpR X f (rI0 λi j=>.bl (g i j)):=by
 intro pins s O H x y v u Q I rx ry h;obtain⟨i,j,rfl,rfl,q⟩:=h;obtain⟨t,rfl⟩:=rx;obtain⟨t',rfl⟩:=ry;exact rule i j t t' s _ _ ⟨.bl (g i j),H,I,rfl,q⟩
def BR (i j:Int):Prop:=0<j/\j<1073741824
def C8 (i j:Int):Prop:=0<=j/\j<=1000000/\i.natAbs<2 ^ 64
def nc (i j:Int):Prop:=(-(2 ^ 64)<i/\i<2 ^ 64)\/(-(2 ^ 64)<j/\j<2 ^ 64)
theorem nc.ok {i j:Int} (h:nc i j):IntMulOk i j:=by
 rcases h with⟨h1,h2⟩|⟨h1,h2⟩
 ·exact .of_left (intBits_le_64 h1 h2)
 exact .of_right (intBits_le_64 h1 h2)
theorem dB:OpR X (binaryOp .Add) (rI0 λi j=>.int (i+j)):=yq λ_ _ _ _ _ _ _ q=>add_int q
theorem gW:OpR X (binaryOp .Sub) (rI0 λi j=>.int (i-j)):=yq λ_ _ _ _ _ _ _ q=>sub_int q
theorem fM:OpR X (binaryOp .Mult) (rI nc λi j=>.int (i*j)):=opI λ_ _ _ _ _ _ _ hc q=>mul_int q hc.ok
theorem oh:OpR X (binaryOp .FloorDiv) (rI BR λi j=>.int (i / j)):=opI λi j _ _ _ _ _ hc q=>by
 have h1:(0:Int)<j:=hc.1;have h2:j<1073741824:=hc.2;exact floordiv_int (by omega) (by rw[Int.fdiv_eq_ediv_of_nonneg i (by omega)];exact q) (.inl (PyProof.noPylong_small (by omega)))
theorem eK:OpR X (binaryOp .Mod) (rI (λ_ j=>0<j) λi j=>.int (i % j)):=opI λi j _ _ _ _ _ hc q=>by
 have h1:(0:Int)<j:=hc;exact mod_int' (by omega) (by rw[Int.fmod_eq_emod_of_nonneg i (by omega)];exact q)
theorem wU:OpR X (binaryOp .Pow) (rI C8 λi j=>.int (i ^ j.toNat)):=opI λ_ _ _ _ _ _ _ hc q=>pow_int_small hc.1 hc.2.1 hc.2.2 q
theorem unI {f:Value->Sem Value} {g:Int->Int}
  (rule:∀(i:Int) (t:Tok) (s:Shared) (Q:C9) (E:C9),Q (.int (g i) s.toks) { s with toks:=s.toks+1 }->wpAny (model X.prog X.w) X.A (f (.int i t)) Q E s) :
  UnR X f (rU λi=>.int (g i)):=by
 intro pins s O H x v Q I rx h;obtain⟨i,rfl,q⟩:=h;obtain⟨t,rfl⟩:=rx;exact rule i t s _ _ ⟨.int (g i),H,I.tok _,⟨_,rfl⟩,q⟩
theorem gA:UnR X (unaryOp .USub) (rU λi=>.int (-i)):=unI λ_ _ _ _ _ q=>neg_int q
end
noncomputable def t5:V->V->Bool
 | .non,.non=>true|.non,.int _=>true|.int _,.non=>true|.non,.bl _=>true|.bl _,.non=>true|.non,.str _=>true|.str _,.non=>true
 | .int _,.int _=>true|.bl _,.bl _=>true|.str _,.str _=>true|.byt _,.byt _=>true
 | .int _,.str _=>true|.str _,.int _=>true|.bl _,.str _=>true|.str _,.bl _=>true
 | _,_=>false
def rEq:R2:=λx y H Q=>t5 x y=true/\Q (.bl (decide (x=y))) H
def rNe:R2:=λx y H Q=>t5 x y=true/\Q (.bl (!decide (x=y))) H
theorem oP {i j:Int}:decide (V.int i=V.int j)=(i==j):=by
 rw[Bool.eq_iff_iff];simp
theorem sZ {i j:Bool}:decide (V.bl i=V.bl j)=(i==j):=by
 rw[Bool.eq_iff_iff];simp
theorem oO {i j:Str}:decide (V.str i=V.str j)=(i==j):=by
 rw[Bool.eq_iff_iff];simp
theorem oQ {i j:Array UInt8}:decide (V.byt i=V.byt j)=(i.toList==j.toList):=by
 rw[Bool.eq_iff_iff];cases i;cases j;simp
section
variable {X:Cx} {a b c:Expr} {ta tb tc:TE} {pos:Pos}
theorem bg {pins:D0} {O:St} {H:Hp} {s:Shared} {Q:VK} {k k':Bool} (I:Inv X pins O H s) (q:Q (.bl k) H) (e:k=k'):EP X pins O Q (.bool k') s:=by
 subst e;exact⟨.bl k,H,I,rfl,q⟩
theorem cW:OpR X (compareOp .Eq) rEq:=by
 intro pins s O H x y v u Q I rx ry h;obtain⟨hs,q⟩:=h
 cases x with
 | non =>
  cases rx
  cases y with
  | non=>cases ry;exact PySem.EqNone.eq_none_none (bg I q (by simp))
  | bl j=>cases ry;exact PySem.EqNone.eq_none_bool (bg I q (by simp))
  | int j=>obtain⟨t',rfl⟩:=ry;exact PySem.EqNone.eq_none_int (bg I q (by simp))
  | str j=>obtain⟨t',rfl⟩:=ry;exact PySem.EqNone.eq_none_str (bg I q (by simp))
  | _=>exact absurd (show false=true from hs) Qk
 | bl i =>
  cases rx
  cases y with
  | non=>cases ry;exact PySem.EqNone.eq_bool_none (bg I q (by simp))
  | bl j=>cases ry;exact eq_bool (bg I q sZ)
  | str j=>obtain⟨t',rfl⟩:=ry;exact PySem.EqMixed.eq_bool_str (bg I q (by simp))
  | _=>exact absurd (show false=true from hs) Qk
 | int i =>
  obtain⟨t,rfl⟩:=rx
  cases y with
  | non=>cases ry;exact PySem.EqNone.eq_int_none (bg I q (by simp))
  | int j=>obtain⟨t',rfl⟩:=ry;exact eq_int (bg I q oP)
  | str j=>obtain⟨t',rfl⟩:=ry;exact PySem.EqMixed.eq_int_str (bg I q (by simp))
  | _=>exact absurd (show false=true from hs) Qk
 | str i =>
  obtain⟨t,rfl⟩:=rx
  cases y with
  | non=>cases ry;exact PySem.EqNone.eq_str_none (bg I q (by simp))
  | bl j=>cases ry;exact PySem.EqMixed.eq_str_bool (bg I q (by simp))
  | int j=>obtain⟨t',rfl⟩:=ry;exact PySem.EqMixed.eq_str_int (bg I q (by simp))
  | str j=>obtain⟨t',rfl⟩:=ry;exact eq_str (bg I q oO)
  | _=>exact absurd (show false=true from hs) Qk
 | byt i =>
  obtain⟨t,rfl⟩:=rx
  cases y with
  | byt j=>obtain⟨t',rfl⟩:=ry;exact PySem.W.eq_bytes (bg I q oQ)
  | _=>exact absurd (show false=true from hs) Qk
 | _=>cases y <;> exact absurd (show false=true from hs) Qk
theorem gX:OpR X (compareOp .NotEq) rNe:=by
 intro pins s O H x y v u Q I rx ry h;obtain⟨hs,q⟩:=h
 cases x with
 | non =>
  cases rx
  cases y with
  | non=>cases ry;exact PySem.EqNone.ne_none_none (bg I q (by simp))
  | bl j=>cases ry;exact PySem.EqNone.ne_none_bool (bg I q (by simp))
  | int j=>obtain⟨t',rfl⟩:=ry;exact PySem.EqNone.ne_none_int (bg I q (by simp))
  | str j=>obtain⟨t',rfl⟩:=ry;exact PySem.EqNone.ne_none_str (bg I q (by simp))
  | _=>exact absurd (show false=true from hs) Qk
 | bl i =>
  cases rx
  cases y with
  | non=>cases ry;exact PySem.EqNone.ne_bool_none (bg I q (by simp))
  | bl j=>cases ry;exact ne_bool (bg I q (congrArg not sZ))
  | str j=>obtain⟨t',rfl⟩:=ry;exact PySem.EqMixed.ne_bool_str (bg I q (by simp))
  | _=>exact absurd (show false=true from hs) Qk
 | int i =>
  obtain⟨t,rfl⟩:=rx
  cases y with
  | non=>cases ry;exact PySem.EqNone.ne_int_none (bg I q (by simp))
  | int j=>obtain⟨t',rfl⟩:=ry;exact ne_int (bg I q (congrArg not oP))
  | str j=>obtain⟨t',rfl⟩:=ry;exact PySem.EqMixed.ne_int_str (bg I q (by simp))
  | _=>exact absurd (show false=true from hs) Qk
 | str i =>
  obtain⟨t,rfl⟩:=rx
  cases y with
  | non=>cases ry;exact PySem.EqNone.ne_str_none (bg I q (by simp))
  | bl j=>cases ry;exact PySem.EqMixed.ne_str_bool (bg I q (by simp))
  | int j=>obtain⟨t',rfl⟩:=ry;exact PySem.EqMixed.ne_str_int (bg I q (by simp))
  | str j=>obtain⟨t',rfl⟩:=ry;exact ne_str (bg I q (congrArg not oO))
  | _=>exact absurd (show false=true from hs) Qk
 | byt i =>
  obtain⟨t,rfl⟩:=rx
  cases y with
  | byt j=>obtain⟨t',rfl⟩:=ry;exact PySem.W.ne_bytes (bg I q (congrArg not oQ))
  | _=>exact absurd (show false=true from hs) Qk
 | _=>cases y <;> exact absurd (show false=true from hs) Qk
theorem rK:OpR X (compareOp .Lt) (rI0 λi j=>.bl (decide (i<j))):=wX λ_ _ _ _ _ _ _ q=>lt_int q
theorem og:OpR X (compareOp .Gt) (rI0 λi j=>.bl (decide (j<i))):=wX λ_ _ _ _ _ _ _ q=>gt_int q
theorem yp:OpR X (compareOp .GtE) (rI0 λi j=>.bl (decide (j<=i))):=wX λ_ _ _ _ _ _ _ q=>ge_int q
theorem wV:OpR X (compareOp .Is) (λx y H Q=>y=.non/\Q (.bl (decide (x=.non))) H):=by
 intro pins s O H x y v u Q I rx ry h;obtain⟨rfl,q⟩:=h;cases ry;refine is_none_gen (bg I q ?_)
 cases x <;> first
  | (cases rx;rfl)
  | (obtain⟨t,rfl⟩:=rx;rfl)
variable {op:CmpOp}
theorem aY (b:Expr) (h:op≠.In:=by decide) (h2:op≠.NotIn:=by decide):behindInMarks op b=false:=by
 have e1:(op==CmpOp.In)=false:=by cases op <;> first|rfl|exact absurd rfl h
 have e2:(op==CmpOp.NotIn)=false:=by cases op <;> first|rfl|exact absurd rfl h2
 cases b <;> simp[behindInMarks,e1,e2]
theorem dy {r:R2} (ho:OpR X (compareOp op) r) (ha:PE X a ta) (hb:PE X b tb) (hm:behindInMarks op b=false):PE X (.Compare a [op] [b] pos) (tOp r ta tb):=by
 intro pins s O H Q I h;exact wpAny_Compare1 (xK ha hb I h λv u s2 x y H2 I2 rx ry q=>ho pins s2 O H2 x y v u Q I2 rx ry q) hm
def vd (t:TE):TT:=λO H Q=>t O H λx H'=>∃k,x=.bl k/\Q k H'
theorem aE {r:R2} (ho:OpR X (compareOp op) r) (ha:PE X a ta) (hb:PE X b tb) (hm:behindInMarks op b=false):PT X (.Compare a [op] [b] pos) (vd (tOp r ta tb)):=by
 intro pins s O H Q I h
 refine wpAny_isTrue_Compare1 (thn (ha pins s O H _ I h) λv s1 ⟨x,H1,I1,r1,q1⟩=>thn (hb pins s1 O H1 _ I1 q1) λu s2 ⟨y,H2,I2,r2,q2⟩ =>
  thn (ho pins s2 O H2 x y v u _ I2 r1 r2 q2) λc s3 ⟨z,H3,I3,r3,k,e,q3⟩=>?_) hm
 subst e;cases r3;exact wpAny_truthy_bool ⟨H3,I3,q3⟩
theorem hZ:(sizeLine:Nat)<2 ^ 63:=by rw[sizeLine_eq];decide
theorem cB:OpR X (binaryOp .Add) (λx y H Q=>∃i j,x=.str i/\y=.str j/\i.length+j.length<=sizeLine/\Q (.str (i++j)) H):=by
 intro pins s O H x y v u Q I rx ry h;obtain⟨i,j,rfl,rfl,hz,q⟩:=h;obtain⟨t,rfl⟩:=rx;obtain⟨t',rfl⟩:=ry;exact add_str (λt' tk=>⟨.str (i++j),H,I.tok _,⟨_,rfl⟩,q⟩) hz
theorem dJ {x:V} {us:List Value} (r:aJ [x] us):∃u,us=[u]/\aR x u:=by
 cases r with
 | cons r1 r2=>cases r2;exact⟨_,rfl,r1⟩
theorem fY {x y:V} {us:List Value} (r:aJ [x,y] us):∃u w',us=[u,w']/\aR x u/\aR y w':=by
 cases r with
 | cons r1 r2 =>
 cases r2 with
 | cons r3 r4=>cases r4;exact⟨_,_,rfl,r1,r3⟩
theorem qy (hc:X.calm=true):dI X (.builtin "max") (λxs H Q=>∃i j,xs=[.int i,.int j]/\Q (.int (if j>i then j else i)) H):=by
 intro pins s O H xs us Q I r h;obtain⟨i,j,rfl,q⟩:=h;obtain⟨u,w',rfl,⟨t,rfl⟩,⟨t',rfl⟩⟩:=fY r;refine max_two_ints (I.ok.hd hc) λh' tk k=>⟨_,H,I.kept k,?_,q⟩;by_cases hj:j>i
 ·rw[Qp hj,Qp hj];exact⟨_,rfl⟩
 rw[Qn hj,Qn hj];exact⟨_,rfl⟩
theorem i_ (hc:X.calm=true):dI X (.builtin "min") (λxs H Q=>∃i j,xs=[.int i,.int j]/\Q (.int (if j<i then j else i)) H):=by
 intro pins s O H xs us Q I r h;obtain⟨i,j,rfl,q⟩:=h;obtain⟨u,w',rfl,⟨t,rfl⟩,⟨t',rfl⟩⟩:=fY r;refine min_two_ints (I.ok.hd hc) λh' tk k=>⟨_,H,I.kept k,?_,q⟩;by_cases hj:j<i
 ·rw[Qp hj,Qp hj];exact⟨_,rfl⟩
 rw[Qn hj,Qn hj];exact⟨_,rfl⟩
theorem dq:dI X (.type "int") (λxs H Q=>(∃i,xs=[.int i]/\Q (.int i) H)\/∃k,xs=[.bl k]/\Q (.int (if k then 1 else 0)) H):=by
 intro pins s O H xs us Q I r h;rcases h with⟨i,rfl,q⟩|⟨k,rfl,q⟩
 ·obtain⟨u,rfl,t,rfl⟩:=dJ r;exact call_int_int ⟨.int i,H,I,⟨_,rfl⟩,q⟩
 obtain⟨u,rfl,r1⟩:=dJ r;cases r1;exact call_int_bool ⟨.int (if k then 1 else 0),H,I.tok _,⟨_,rfl⟩,q⟩
end
structure ObjM (h:Heap) (x dx C:Addr) (mA:D3):Prop where
 obj:h.get? x=some (PySem.W.instObj C dx)
 ns:h.Ns1 dx mA
 ne:dx≠x
theorem pW {mA:D3} (n:h.Ns1 dx mA):∃od,h.get? dx=some od/\∀name,PySem.W.lookIn name od=some (mA name):=by
 obtain⟨o,es,ep,ho,hd,hk,_,hm⟩:=n;refine⟨o,ho,λname=>?_⟩;have e:=hm name;unfold nsFind findBy at e;rw[<-Array.find?_toList]at e;unfold PySem.W.lookIn;rw[hd];dsimp only
 split
 ·rename_i y q
  rw[q]at e;exact congrArg some e
 rename_i q
 rw[q]at e
 have a:es.toList.any (·.refKey)=false:=by
  rw[List.any_eq_false];intro y hy;obtain⟨z,t,hkey⟩:=hk y (Array.mem_toList_iff.mp hy);simp[DictEntry.refKey,hkey]
 have a':¬es.toList.any (·.refKey)=true:=by rw[a];exact Qk
 rw[Qn a'];exact congrArg some e
section
variable {prog:Program} {w:World} {A:Around} {E:C9} {s:Shared} {K:PySem.W.Frag} {x dx C f:Addr} {mA:D3} {name:Str} {v:Value}
end
theorem eQ.some_of {v:V} {o:Option Value} (r:eQ (some v) o):∃u,o=some u/\aR v u:=by
 cases o with
 | none=>exact(show False from r).elim
 | some u=>exact⟨u,rfl,r⟩
theorem eQ.none_of {o:Option Value} (r:eQ none o):o=none:=by
 cases o with
 | none=>rfl
 | some u=>exact(show False from r).elim
section
variable {P:Program} {w:World} {H H':Hp} {h h':Heap} {a C dx:Addr} {fs fs':List (Str × V)}
end
structure Cls (K:PySem.W.Frag) (C:Addr):Prop where
 pg:PySem.W.plainGet K C Str.empty=true
 hd:PySem.W.hasDictIn K C=true
 po:PySem.W.plainOver K C=true
 sa:PySem.W.findIn K (.ref C) "__setattr__" = some (some (.builtin "object.__setattr__"))
theorem Cls.get {K:PySem.W.Frag} (c:Cls K C) (f:Str):PySem.W.plainGet K C f=true:=c.pg
structure Con (K:PySem.W.Frag) (C:Addr) (f:Str) (v:V) (u:Value):Prop where
 at_:PySem.W.findIn K (.ref C) f=some (some u)
 rel:aR v u
 get:PySem.W.specialIn K u "__get__" = some none
 cp:PySem.W.copiedNames.contains f=false
structure Meth (K:PySem.W.Frag) (C:Addr) (m:Str) (f:Addr):Prop where
 at_:PySem.W.findIn K (.ref C) m=some (some (.ref f))
 fn:PySem.W.isFn K (.ref f)=true
 kp:PySem.W.keepIn K (.ref f)=true
section
variable {X:Cx} {pins:D0} {O:St} {H:Hp} {s:Shared} {a C dx:Addr} {fs:List (Str × V)} {f:Str} {v:V} {A:Around} {E:C9}
end
section
variable {X:Cx} {o e value:Expr} {f:Str} {pos pos' tpos:Pos} {ta tv:TE}
end
section
variable {X:Cx} {pins:D0} {O:St} {H:Hp} {s:Shared} {A:Around} {E:C9} {Q:C9} {c:Value} {b:Bool}
inductive TyOf (K:PySem.W.Frag) (H:Hp):V->Value->Prop where
 | non:TyOf K H .non (.type "NoneType")
 | bl (x:Bool):TyOf K H (.bl x) (.type "bool")
 | int (i:Int):TyOf K H (.int i) (.type "int")
 | str (x:Str):TyOf K H (.str x) (.type "str")
 | flt (x:UInt64):TyOf K H (.flt x) (.type "float")
 | lst {a:Addr} {xs:List V} (e:H a=some (.lst xs)):TyOf K H (.ref a) (.type "list")
 | frz {a:Addr} {o:Obj} {xs:List V} (e:H a=some (.frz o (.lst xs))):TyOf K H (.ref a) (.type "list")
 | tup {a:Addr} {xs:List V} (e:H a=some (.tup xs)):TyOf K H (.ref a) (.type "tuple")
 | dK {a:Addr} {kvs:List (Key × V)} (e:H a=some (.dK kvs)):TyOf K H (.ref a) (.type "dict")
 | dT {a:Addr} {kvs:List (ay × V)} (e:H a=some (.dT kvs)):TyOf K H (.ref a) (.type "dict")
 | ins {a C dx:Addr} {fs:List (Str × V)} (e:H a=some (.ins C dx fs)) (cl:Cls K C) (ha:PySem.W.findIn K (.ref C) "__class__" = some (some (.builtin "object.__class__")))
   (hn:PySem.W.specialIn K (.builtin "object.__class__") "__get__" = some (some (.builtin "getset_descriptor.__get__"))) (htk:PySem.W.takesIn K (.builtin "object.__class__")=some true)
   (hm:PySem.W.mroIn K C (.type "object")=some true):TyOf K H (.ref a) (.ref C)
end
structure Room (k:Nat) (A:Around):Prop where
 hd:A.handled=none
 dp:A.depth+3*k+5<recursionLimit
 un:A.units+16*k+200<cLine
theorem Room.mono {j k:Nat} (r:Room k A) (h:j<=k):Room j A:=⟨r.hd,by have:=r.dp;omega,by have:=r.un;omega⟩
theorem Room.deeper {k:Nat} (r:Room (k+1) A) (env:Env):Room k (A.deeper env) :=
 ⟨r.hd,by have:=r.dp;show A.depth+1+3*k+5<_;omega,by have:=r.un;show A.units+3+16*k+200<_;omega⟩
theorem Room.depth {k:Nat} (r:Room k A):A.depth<recursionLimit:=by have:=r.dp;omega
theorem Room.units {k:Nat} (r:Room k A):A.units+64<cLine:=by have:=r.un;omega
def pq:TA:=λ_ H Q=>Q [] H
def dG (ta:TE) (tr:TA):TA:=λO H Q=>ta O H λx H1=>tr O H1 λxs H2=>Q (x::xs) H2
section
variable {X:Cx} {e:Expr} {es:List Expr} {te:TE} {t:TA} {pos:Pos}
theorem ad:PA X [] pq:=λ_ _ _ _ H Q I h=>Calls.spliced_nil ⟨[],H,I,.nil,h⟩
theorem aa (ha:PE X e te) (hr:PA X es t) (hs:starEach (e::es) X.env=(false,eval e X.env)::starEach es X.env:=by rfl):PA X (e::es) (dG te t):=by
 intro pos pins s O H Q I h;rw[hs];show wpAny _ _ (spliced ((false,eval e X.env)::backTo pos (starEach es X.env))) _ _ s;refine Calls.spliced_cons (thn (ha pins s O H _ I h) λu s1 ⟨x,H1,I1,r1,q1⟩=>?_);exact thn (hr pos pins s1 O H1 _ I1 q1) λus s2 ⟨xs,H2,I2,r2,q2⟩=>⟨x::xs,H2,I2,.cons r1 r2,q2⟩
def tU (t:TA):TE:=λO H Q=>t O H λxs H1=>xs.length<=sizeLine/\∀p,H1 p=none->Q (.ref p) (upd H1 p (.tup xs))
def wu (t:TA):TE:=λO H Q=>t O H λxs H1=>xs.length<=sizeLine/\∀p,H1 p=none->Q (.ref p) (upd H1 p (.lst xs))
theorem pe_tup {x1} (h:PA X es t):PE X (.Tuple es x1 pos) (tU t):=by
 intro pins s O H Q I hq;refine wpAny_Tuple_spliced (thn (h pos pins s O H _ I hq) λus s1 ⟨xs,H1,I1,r,z,q⟩=>⟨by rw[<-r.length];exact z,?_⟩);have hf:H1 s1.heap.objs.size=none:=I1.hok.fresh (Qi _);refine⟨.ref s1.heap.objs.size,upd H1 s1.heap.objs.size (.tup xs),I1.laid (t':=s1.toks) (λb u e=>Qc _ e) (Qi _) ?_,rfl,q _ hf⟩;exact⟨z,us,r,⟨_,Qs _ rfl,rfl,_,rfl⟩⟩
theorem pe_lst (h:PA X es t):PE X (.List es pos) (wu t):=by
 intro pins s O H Q I hq;refine wpAny_List_spliced (thn (h pos pins s O H _ I hq) λus s1 ⟨xs,H1,I1,r,z,q⟩=>⟨by rw[<-r.length];exact z,?_⟩);have hf:H1 s1.heap.objs.size=none:=I1.hok.fresh (Qi _);refine⟨.ref s1.heap.objs.size,upd H1 s1.heap.objs.size (.lst xs),I1.laid (t':=s1.toks) (λb u e=>Qc _ e) (Qi _) ?_,rfl,q _ hf⟩;exact⟨z,us,0,r,Qs _ rfl⟩
end
abbrev Sp:=List V->Hp->VK->XK->Prop
abbrev CXT:=List Env->Hp->Shared->XK->C9
structure Env0 (P:Program) (w:World) (K:PySem.W.Frag) (mg:D3) (base:Heap) (A:Around) (outer:List Env) (s:Shared) (H:Hp):Prop where
 frames:A.frames=some outer
 mod:Mod K mg base
 bs:∀b o,base.get? b=some o->s.heap.get? b=some o/\H b=none
 bsz:base.objs.size<=s.heap.objs.size
 funs:s.heap.FunFrames base outer
 frf:∀b∈frs outer,H b=none
 hok:HOk P w H s.heap
 bare:AllBare s.gens
def CE (outer:List Env) (P:Program) (w:World) (H:Hp) (s:Shared) (Q:VK) (u:Value) (s':Shared):Prop :=
 ∃v H',s'.os=s.os/\AllBare s'.gens/\Un (frs outer) [] H H' s.heap s'.heap/\HOk P w H' s'.heap/\aR v u/\Q v H'
def CR (CX:CXT) (outer:List Env) (P:Program) (w:World) (H:Hp) (s:Shared) (Q:VK) (E:XK) (r:Result) (s':Shared):Prop :=
 match r with
 | .ok (.ret u)=>CE outer P w H s Q u s'
 | .ok _=>False
 | .error e=>CX outer H s E e s'
structure FnOk (P:Program) (w:World) (K:PySem.W.Frag) (mg:D3) (base:Heap) (CX:CXT) (k:Nat) (f:Addr) (fd:FuncData) (ps:List Str) (sp:Sp):Prop where
 len:∀vs H Q E,sp vs H Q E->vs.length=ps.length
 run:∀(A:Around) (outer:List Env) (s:Shared) (H:Hp) (args:Args) (us:List Value) (vs:List V) (Q:VK) (E:XK),Room k A->Env0 P w K mg base A outer s H->BindsTo s fd args (ps.zip us)->aJ vs us->sp vs H Q E ->
  codeAny (model P w) A (.call (.ref f) args) (CR CX outer P w H s Q E) s
section
variable {X:Cx} {pins:D0} {O:St} {H:Hp} {s s':Shared}
theorem Inv.env0 (I:Inv X pins O H s):Env0 X.prog X.w X.K X.mg X.base X.A X.stack s H :=
 ⟨I.ok.frames,I.ok.mod,I.bs,QR I.ok.bsz I.sz,I.stack,I.stkFree,I.hok,I.bare⟩
theorem Inv.after {Q:VK} {u:Value} (I:Inv X pins O H s) (h:CE X.stack X.prog X.w H s Q u s'):EP X pins O Q u s':=by
 obtain⟨v,H',os,bare,un,hok,r,q⟩:=h;obtain⟨hh,g,d,t,os'⟩:=s';obtain rfl:os'=s.os:=os;exact⟨v,H',I.call (h':=hh) (g':=g) (d':=d) (t':=t) (ch:=[]) un hok bare (λb z=>absurd z (by simp)),r,q⟩
end
def iM (sp:Sp) (dvs:List V) (E:XK) (t:TA):TE:=λO H Q=>t O H λvs H1=>sp (vs++dvs) H1 Q E
def dS (K:PySem.W.Frag) (fd:FuncData) (ps:List Str) (ds:List Value):Prop :=
 ∀(s:Shared) (us:List Value),K.In s.heap->(us++ds).length=ps.length->BindsTo s fd ⟨us,[]⟩ (ps.zip (us++ds))
variable {ps N:List Str}
theorem dS.all {K:PySem.W.Frag} {fd:FuncData} (h:∀us:List Value,us.length=ps.length->bindArgs fd ⟨us,[]⟩=pure (ps.zip us)):dS K fd ps []:=λs us _ hl=>by
 rw[X0]at hl ⊢;exact .of_eq (h us hl)
def eR (CX:CXT) (X:Cx) (E:XK):Prop:=∀(pins:D0) (O:St) (H:Hp) (s:Shared) (e:Value) (s':Shared),Inv X pins O H s->CX X.stack H s E e s'->X.xe e s'
section
variable {X:Cx} {CX:CXT} {k:Nat} {f C:Addr} {fd:FuncData} {ps:List Str} {sp:Sp} {dvs:List V} {ds:List Value} {E:XK} {x m:Str} {p pos apos:Pos} {e o:Expr} {es:List Expr} {ta:TE} {t:TA}
theorem wD {pins:D0} {O:St} {H:Hp} {s:Shared} {Q:VK} {us:List Value} {vs:List V} (F:FnOk X.prog X.w X.K X.mg X.base CX k f fd ps sp) (hr:Room k X.A) (hb:dS X.K fd ps ds) (hd:aJ dvs ds) (hx:eR CX X E)
  (I:Inv X pins O H s) (r:aJ vs us) (h:sp (vs++dvs) H Q E):wpAny (model X.prog X.w) X.A (call (.ref f) us) (EP X pins O Q) X.xe s:=by
 have r2:aJ (vs++dvs) (us++ds):=r.append hd;have hl:(us++ds).length=ps.length:=by rw[<-r2.length];exact F.len _ _ _ _ h
 refine wpAny_call (codeAny_mono (F.run X.A X.stack s H ⟨us,[]⟩ (us++ds) (vs++dvs) Q E hr I.env0 (hb s us I.kIn hl) r2 h) λr s' hq=>?_)
 cases r with
 | error e=>exact hx pins O H s e s' I hq
 | ok fl =>
 cases fl with
 | ret u=>exact I.after hq
 | next=>exact False.elim hq
 | brk=>exact False.elim hq
 | cont=>exact False.elim hq
theorem n8 (F:FnOk X.prog X.w X.K X.mg X.base CX k f fd ps sp) (hr:Room k X.A) (hg:Gl X x) (hm:X.mg x=some (.ref f)) (hk:PySem.W.keepIn X.K (.ref f)=true) (hb:dS X.K fd ps ds) (hd:aJ dvs ds) (hx:eR CX X E)
  (ha:PA X (e::es) t) (hdb:(x==("__debug__" : Str))=false:=by decide) (he:starEach (e::es) X.env=(false,eval e X.env)::starEach es X.env:=by rfl) (hpl:(backTo pos (starEach es X.env)).any (·.1)=false:=by rfl) :
  PE X (.Call (.Name x p) (e::es) [] pos) (iM sp dvs E t):=by
 intro pins s O H Q I h;refine wpAny_Call_Name_kw (fh I hg hm ?_ hdb);refine PySem.W.callWith_K (h₀:=X.base) I.ok.mod.kin hk (thn (ha pos pins s O H _ I h) λus s1 ⟨vs,H1,I1,r,q⟩=>⟨I1.kIn,?_⟩) he hpl;exact wD F hr hb hd hx I1 r q
structure Mk (K:PySem.W.Frag) (C f:Addr):Prop where
 makes:PySem.W.makesIn K C=true
 init:PySem.W.findIn K (.ref C) "__init__" = some (some (.ref f))
 fn:PySem.W.isFn K (.ref f)=true
 kp:PySem.W.keepIn K (.ref C)=true
end
section
variable {X:Cx} {CX:CXT} {k:Nat} {f C:Addr} {fd:FuncData} {ps ks:List Str} {sp:Sp} {E:XK} {x m:Str} {p pos apos kpos:Pos} {e o:Expr} {es:List Expr} {kws:List Keyword} {te ta:TE} {t tk:TA} {nm:Option Str}
structure KBinds (K:PySem.W.Frag) (fd:FuncData) (ps ks:List Str) (g:List Value->List Value->List Value) (gV:List V->List V->List V):Prop where
 to:∀(s:Shared) (us ws:List Value),K.In s.heap->(g us ws).length=ps.length->BindsTo s fd ⟨us,ks.zip ws⟩ (ps.zip (g us ws))
 rel:∀{vs:List V} {us:List Value} {zs:List V} {ws:List Value},aJ vs us->aJ zs ws->aJ (gV vs zs) (g us ws)
variable {g:List Value->List Value->List Value} {gV:List V->List V->List V}
end
structure FnScope (N P:List Str) (sc:Scope):Prop where
 kind:sc.kind=.function
 co:sc.isCoroutine=false
 gen:sc.isGenerator=false
 nd:N.Nodup
 pre:N.take P.length=P
 par:∀x∈P,sc.names.lookup x=some .local\/sc.names.lookup x=some .cell
 nofree:∀y∈sc.names,y.2≠.free
theorem jc {kindOf:Str->Option NameKind} {x:Str}:∀{binds:List (Str × Value)} {m:D3},(∀v,(x,v)∉binds)->bindL kindOf binds m x=m x
 | [],_,_=>rfl
 | (n,v)::r,m,h=>by
  unfold bindL;rw[jc λw hw=>h w (Qo _ hw)]
  split
  ·have:x≠n:=by rintro rfl;exact h v Xl
   simp[this]
  rfl
theorem je {kindOf:Str->Option NameKind} {x:Str}:∀{binds:List (Str × Value)} {m:D3},(∀v,(x,v)∉binds)->bindC kindOf binds m x=m x
 | [],_,_=>rfl
 | (n,v)::r,m,h=>by
  unfold bindC;rw[je λw hw=>h w (Qo _ hw)]
  split
  ·rfl
  have:x≠n:=by rintro rfl;exact h v Xl
  simp[this]
theorem jd {kindOf:Str->Option NameKind} {x:Str} {v:Value}:∀{P:List Str} {vs:List Value} {i:Nat} {m:D3},P.Nodup->P[i]?=some x->vs[i]?=some v->kindOf x=some .local ->
  bindL kindOf (P.zip vs) m x=some v
 | [],_,_,_,_,h,_,_=>by simp at h
 | _::_,[],_,_,_,_,h,_=>by simp at h
 | p::P,w::vs,0,m,nd,h1,h2,hk=>by
  simp at h1 h2;subst h1;subst h2;show bindL kindOf ((p,w)::P.zip vs) m p=_;unfold bindL;rw[jc λv hv=>(Q4.mp nd).1 (List.of_mem_zip hv).1,Qp hk];simp
 | p::P,w::vs,i+1,m,nd,h1,h2,hk=>by
  show bindL kindOf ((p,w)::P.zip vs) m x=_;unfold bindL;exact jd (i:=i) (Q4.mp nd).2 (by simpa using h1) (by simpa using h2) hk
theorem jf {kindOf:Str->Option NameKind} {x:Str} {v:Value}:∀{P:List Str} {vs:List Value} {i:Nat} {m:D3},P.Nodup->P[i]?=some x->vs[i]?=some v->kindOf x≠some .local ->
  bindC kindOf (P.zip vs) m x=some v
 | [],_,_,_,_,h,_,_=>by simp at h
 | _::_,[],_,_,_,_,h,_=>by simp at h
 | p::P,w::vs,0,m,nd,h1,h2,hk=>by
  simp at h1 h2;subst h1;subst h2;show bindC kindOf ((p,w)::P.zip vs) m p=_;unfold bindC;rw[je λv hv=>(Q4.mp nd).1 (List.of_mem_zip hv).1,Qn hk];simp
 | p::P,w::vs,i+1,m,nd,h1,h2,hk=>by
  show bindC kindOf ((p,w)::P.zip vs) m x=_;unfold bindC;exact jf (i:=i) (Q4.mp nd).2 (by simpa using h1) (by simpa using h2) hk
def start (N:List Str) (vs:List V):St:=vs.map some++List.replicate (N.length-vs.length) none
noncomputable def cxOf (CX:CXT) (P:Program) (w:World) (K:PySem.W.Frag) (mg:D3) (base:Heap) (N:List Str) (qual:Str) (scope:Scope) (f:Addr) (cd:Value) (A:Around) (outer:List Env) (s:Shared) (H:Hp) (E:XK):Cx where
 prog:=P
 w:=w
 K:=K
 mg:=mg
 base:=base
 A:=A.deeper (envOfC qual scope s.heap.objs.size f cd)
 N:=N
 s₀:=s
 H₀:=H
 env:=envOfC qual scope s.heap.objs.size f cd
 outer:=outer
 stack:=envOfC qual scope s.heap.objs.size f cd::outer
 ex:=[]
 calm:=true
 fn:=λ_=>true
 pn:=[]
 xe:=λe s'=>wpAny (model P w) (A.deeper (envOfC qual scope s.heap.objs.size f cd)) (leaving (envOfC qual scope s.heap.objs.size f cd) e) (λ_ s''=>CX outer H s E e s'') (λe' s''=>CX outer H s E e' s'') s'
variable {sc scope:Scope}
theorem lL {n:Nat} {x:Str} (h:sc.names.lookup x=some .cell):∃c,(cellsFrom n sc.names []).lookup x=some c:=by
 have q:=PySem.W.cellsFrom_some sc.names n [] (.inl h);exact Option.isSome_iff_exists.mp q
theorem qg {CX:CXT} {P:Program} {w:World} {K:PySem.W.Frag} {mg:D3} {base:Heap} {qual:Str} {outer:List Env} {E:XK} {us:List Value} {vs:List V}
  (S:FnScope N ps scope) (hd:A.handled=none) (e0:Env0 P w K mg base A outer s H) (hl:vs.length=ps.length) (r:aJ vs us)
  (x:InCallC s s.heap.objs.size (bindL (envOfC qual scope s.heap.objs.size f cd).kindOf (ps.zip us) λ_=>none) (cellsFrom (s.heap.objs.size+1) scope.names []) (bindC (envOfC qual scope s.heap.objs.size f cd).kindOf (ps.zip us) λ_=>none) s1) :
  Inv (cxOf CX P w K mg base N qual scope f cd A outer s H E) [] (start N vs) H s1:=by
 have hpl:ps.length<=N.length:=by have:=congrArg List.length S.pre;rw[QA]at this;omega
 obtain⟨h1,tk,rfl,hk⟩:=x.done;have noA:∀b:Addr,b∉(cxOf CX P w K mg base N qual scope f cd A outer s H E).ex:=λb z=>absurd (show b∈([]:D4) from z) (by simp)
 refine⟨⟨e0.mod,S.kind,rfl,rfl,Qi _,λy z c h1 h2=>?_,λy hy=>?_,λy c _ h=>?_,λ_=>hd,Around.frames_deeper e0.frames,.inr ⟨rfl,rfl⟩,λb z=>absurd z (noA b),e0.bs,e0.bsz,λb _ _=>noA b,λb z=>absurd z (noA b),e0.funs,e0.frf⟩,
  rfl,e0.bare,Un.kept hk,⟨_,x.toInCall.ns,λi y v h1 h2 h3=>?_⟩,λy c h=>⟨_,x.cell y c h⟩,e0.hok.fresh (Qi _),λy c h=>?_,λp hp=>absurd (show p∈([]:D0) from hp) (by simp),e0.hok.kept hk,?_⟩
 ·exact name_of_addr x.apart (PySem.mem_of_lookup h1) (PySem.mem_of_lookup h2)
 ·have hy:scope.names.lookup y=some .cell\/scope.names.lookup y=some .free:=hy;rcases hy with hy|hy
  ·exact lL hy
  exact absurd rfl (S.nofree _ (PySem.mem_of_lookup hy))
 ·exact Nat.le_of_lt (x.above y c (PySem.mem_of_lookup h))
 ·have hi:i<vs.length:=by
   unfold start at h2;by_cases hi:i<vs.length
   ·exact hi
   rw[QZ (by simpa using hi)]at h2;rw[List.getElem?_replicate]at h2
   split at h2 <;> cases h2
  have ha:vs[i]?=some v:=by
   unfold start at h2;rw[Xd (by simpa using hi),Qy]at h2
   cases e:vs[i]? with
   | none=>rw[e]at h2;cases h2
   | some a=>rw[e]at h2;cases h2;rfl
  obtain⟨u,hu,rv⟩:=r.get ha
  have hp:ps[i]?=some y:=by
   rw[<-S.pre,List.getElem?_take_of_lt (by omega)];exact h1
  have ndP:ps.Nodup:=by rw[<-S.pre];exact S.nd.sublist (List.take_sublist _ _)
  refine⟨u,rv,?_⟩;rcases S.par y (QC hp) with k|k
  ·exact .inl ⟨k,jd ndP hp hu k⟩
  obtain⟨c,e⟩:=lL (n:=s.heap.objs.size+1) k;refine .inr ⟨.inl k,c,e,?_⟩;have q:=x.cell y c e;rw[jf ndP hp hu (by show scope.names.lookup y≠_;rw[k];decide)]at q;exact q
 ·exact e0.hok.fresh (Nat.le_of_lt (x.above y c (PySem.mem_of_lookup h)))
 unfold start;show _=N.length;rw[Qh,Qb,List.length_replicate];omega
theorem lH {CX:CXT} {P:Program} {w:World} {K:PySem.W.Frag} {mg:D3} {base:Heap} {k:Nat} {name qual:Str} {params:Arguments} {body:List Stmt} {kV:Value} {an od:Option Addr}
  {osl:Array (Option Value)} {sp:Sp} (lk:K.lookup f=some ⟨oc,od,.func (PySem.W.fnOf name qual params body scope dV kV doc pm an cdv ct),osl⟩) (hcd:PySem.W.codeIn K cdv qual=true) (S:FnScope N ps scope)
  (len:∀vs H Q E,sp vs H Q E->vs.length=ps.length)
  (hbody:∀(A:Around) (outer:List Env) (s:Shared) (H:Hp) (vs:List V) (Q:VK) (E:XK),Room k (A.deeper (envOfC qual scope s.heap.objs.size f cdv))->sp vs H Q E ->
   ∃t,PSs (cxOf CX P w K mg base N qual scope f cdv A outer s H E) body t/\t { nx:=λ_ H'=>Q .non H',rt:=Q } (start N vs) H) :
  FnOk P w K mg base CX (k+1) f (PySem.W.fnOf name qual params body scope dV kV doc pm an cdv ct) ps sp:=by
 refine⟨len,λA outer s H args us vs Q E hr e0 hb r hsp=>?_⟩;have hl:=len _ _ _ _ hsp;have KX:K.In s.heap:=e0.mod.kin.keeps λb o e=>(e0.bs b o e).1;have lim:s.heap.NoLimit:=e0.mod.nolimit.keeps λb o e=>(e0.bs b o e).1
 have hkind:∀y∈ps.zip us,scope.names.lookup y.1=some .local\/(scope.names.lookup y.1=some .cell/\((cellsFrom (s.heap.objs.size+1) scope.names []).lookup y.1).isSome=true):=λ⟨n,v⟩ hy=>by
  rcases S.par n (List.of_mem_zip hy).1 with q|q
  ·exact .inl q
  exact .inr ⟨q,PySem.W.cellsFrom_some _ _ _ (.inl q)⟩
 refine codeAny_call_function hr.depth (KX _ _ lk) rfl S.co S.gen rfl (PySem.W.codeRec_of KX hcd) (hb _ _ _ _ ?_);refine wpAny_newFunctionEnv_cells S.kind hkind λenv he s1 x=>?_;subst he;refine⟨lim.keeps x.toInCall.keep,codeAny_func ?_⟩;obtain⟨t,ht,hq⟩:=hbody A outer s H vs Q E (hr.deeper _) hsp;have I:Inv (cxOf CX P w K mg base N qual scope f cdv A outer s H E) [] (start N vs) H s1:=qg S hr.hd e0 hl r x;refine Xm (ht [] s1 (start N vs) H _ I hq) (λfl s' hs=>?_) λe s' hs=>hs
 have fin:∀{σ':St} {H':Hp} {v:V} {u:Value},Inv (cxOf CX P w K mg base N qual scope f cdv A outer s H E) [] σ' H' s'->aR v u->Q v H'->CE outer P w H s Q u s' :=
  λ{σ' H' v u} J rv q=>⟨v,H',J.os,J.bare,J.base,J.hok,rv,q⟩
 cases fl with
 | ret u =>
  obtain⟨v,σ',H',J,rv,q⟩:=hs;exact fin J rv q
 | next =>
  obtain⟨σ',H',J,q⟩:=hs;exact fin (v:=V.non) (u:=Value.none) J rfl q
 | brk =>
  obtain⟨_,_,_,q⟩:=hs;exact False.elim q
 | cont =>
 obtain⟨_,_,_,q⟩:=hs;exact False.elim q
section
variable {X:Cx} {x:Str} {p pos:Pos} {e:Expr} {es:List Expr} {t:TA} {id T:String} {r:List V->Hp->VK->Prop}
def tCB (r:List V->Hp->VK->Prop) (t:TA):TE:=λO H Q=>t O H λvs H1=>r vs H1 Q
theorem aQ (hc:dI X (.builtin id) r) (hg:Gl X x) (hm:X.mg x=none) (hv:bootBuiltins x=some (.builtin id)) (ha:PA X (e::es) t) (hn:x ≠ "__name__" := by decide) (hdb:(x==("__debug__" : Str))=false:=by decide)
  (he:starEach (e::es) X.env=(false,eval e X.env)::starEach es X.env:=by rfl) (hpl:(backTo pos (starEach es X.env)).any (·.1)=false:=by rfl):PE X (.Call (.Name x p) (e::es) [] pos) (tCB r t):=by
 intro pins s O H Q I h;refine wpAny_Call_Name_kw (cO I hg hm hv ?_ hn hdb);exact PyProof.Rows.callWith_builtin1 (thn (ha pos pins s O H _ I h) λus s1 ⟨vs,H1,I1,r1,q1⟩=>hc pins s1 O H1 vs us Q I1 r1 q1) he hpl
theorem bw (hc:dI X (.type T) r) (hg:Gl X x) (hm:X.mg x=none) (hv:bootBuiltins x=some (.type T)) (ha:PA X (e::es) t) (hn:x ≠ "__name__" := by decide) (hdb:(x==("__debug__" : Str))=false:=by decide)
  (he:starEach (e::es) X.env=(false,eval e X.env)::starEach es X.env:=by rfl) (hpl:(backTo pos (starEach es X.env)).any (·.1)=false:=by rfl):PE X (.Call (.Name x p) (e::es) [] pos) (tCB r t):=by
 intro pins s O H Q I h;refine wpAny_Call_Name_kw (cO I hg hm hv ?_ hn hdb);exact Q7 (thn (ha pos pins s O H _ I h) λus s1 ⟨vs,H1,I1,r1,q1⟩=>hc pins s1 O H1 vs us Q I1 r1 q1) he hpl
end
end L2
namespace HT
open PySem PyProof.Rows
section
open PySem.SeqAt
open PySem.AutoSeq1 (wpAny_loadPart')
open PySem.MeetsSeq PySem.MeetsSeq2 PySem.MeetsSeq3
end
section
variable {prog:Program} {w:World} {A:Around} {E:C9} {s:Shared}
end
end HT
namespace L2
open PySem PySem.Spec PyProof.Rows
abbrev TO:=St->Hp->(Option Int->Hp->Prop)->Prop
def PO (X:Cx) (e:Option Expr) (t:TO):Prop :=
 ∀(pins:D0) (s:Shared) (O:St) (H:Hp) (Q:Option Int->Hp->Prop),Inv X pins O H s->t O H Q ->
  wpAny (model X.prog X.w) X.A (evalPart e X.env) (λu s'=>∃o H',Inv X pins O H' s'/\IsPart u o/\Q o H') X.xe s
def nC:TO:=λ_ H Q=>Q none H
def ve (t:TE):TO:=λO H Q=>t O H λx H1=>∃i,x=.int i/\Q (some i) H1
section
variable {X:Cx} {e:Expr} {te:TE} {lo hi:Option Expr} {tl th:TO} {pos p2:Pos}
theorem d5:PO X none nC:=by
 intro pins s O H Q I h;rw[evalPart_none];exact Qe ⟨none,H,I,.none,h⟩
theorem dZ (h:PE X e te):PO X (some e) (ve te):=by
 intro pins s O H Q I hw;rw[evalPart_some];refine thn (h pins s O H _ I hw) λu s1 ⟨x,H1,I1,r1,q1⟩=>?_;obtain⟨i,rfl,q⟩:=q1;obtain⟨t,rfl⟩:=r1;exact⟨some i,H1,I1,.int i t,q⟩
def SlR (X:Cx) (r:V->Option Int->Option Int->Hp->VK->Prop):Prop :=
 ∀(pins:D0) (s:Shared) (O:St) (H:Hp) (x:V) (v vl vu:Value) (lo hi:Option Int) (sl:Addr) (Q:VK),Inv X pins O H s->aR x v->s.heap.IsSliceOf sl vl vu .none->IsPart vl lo->IsPart vu hi->r x lo hi H Q ->
  ∃T id,typeLookup (.type T) "__getitem__" = pure (some (.builtin id))/\s.TypeIs v T/\wpAny (model X.prog X.w) X.A (getItem v (.ref sl)) (EP X pins O Q) X.xe s
def tSl (r:V->Option Int->Option Int->Hp->VK->Prop) (te:TE) (tl th:TO):TE:=λO H Q=>te O H λx H1=>tl O H1 λl H2=>th O H2 λu H3=>r x l u H3 Q
theorem df {r:V->Option Int->Option Int->Hp->VK->Prop} (hr:SlR X r) (he:PE X e te) (hl:PO X lo tl) (hu:PO X hi th):PE X (.Subscript e (.Slice lo hi none p2) pos) (tSl r te tl th):=by
 intro pins s O H Q I h;refine Subscript_ (thn (he pins s O H _ I h) λv s1 ⟨x,H1,I1,r1,q1⟩=>?_);refine wpAny_Slice (thn (hl pins s1 O H1 _ I1 q1) λvl s2 ⟨l,H2,I2,pl,q2⟩=>thn (hu pins s2 O H2 _ I2 q2) λvu s3 ⟨u,H3,I3,pu,q3⟩=>?_);rw[evalPart_none];refine Qe ?_;have I4:Inv X pins O H3 { s3 with heap:=s3.heap.push { cls:=.type "slice", data:=.fields #[vl,vu,.none] } }:=I3.kept (t':=s3.toks) λb ob q=>Qc _ q;obtain⟨T,id,hT,ht,hg⟩:=hr pins { s3 with heap:=s3.heap.push { cls:=.type "slice", data:=.fields #[vl,vu,.none] } } O H3 x v vl vu l u s3.heap.objs.size Q I4 r1 (Heap.IsSliceOf.new ..) pl pu q3;show wpAny (model X.prog X.w) X.A (subscriptTail e (.Slice lo hi none p2) v (.ref s3.heap.objs.size)) (EP X pins O Q) X.xe { s3 with heap:=s3.heap.push { cls:=.type "slice", data:=.fields #[vl,vu,.none] } };exact tail_any (ops:=[.ref s3.heap.objs.size,v]) ht hT hg (by with_unfolding_all rfl)
end
def ixN (n:Nat) (i:Int):Option Nat:=if 0<=i then (if i<n then some i.toNat else none) else if -(n:Int)<=i then some (i+n).toNat else none
def atI {α:Type} (xs:List α) (i:Int):Option α:=(ixN xs.length i).bind λj=>xs[j]?
theorem gt {n:Nat} {i:Int} {j:Nat} (h:ixN n i=some j):seqIndex? i n=some j/\j<n/\-(n:Int)<=i/\i<n:=by
 unfold ixN at h;by_cases h0:0<=i
 ·rw[Qp h0]at h;by_cases h1:i<n
  ·rw[Qp h1]at h;have e:i.toNat=j:=QN h;exact⟨by rw[seqIndex_of h0 h1,e],by omega,by omega,h1⟩
  rw[Qn h1]at h;cases h
 rw[Qn h0]at h;by_cases h1:-(n:Int)<=i
 ·rw[Qp h1]at h;have e:(i+n).toNat=j:=QN h;exact⟨by rw[seqIndex_neg (by omega) h1,e],by omega,h1,by omega⟩
 rw[Qn h1]at h;cases h
theorem jV {α:Type} {xs:List α} {i:Int} {v:α} (h:atI xs i=some v):∃j,seqIndex? i xs.length=some j/\xs[j]?=some v/\j<xs.length/\-(xs.length:Int)<=i/\i<xs.length:=by
 unfold atI at h
 cases e:ixN xs.length i with
 | none=>rw[e]at h;cases h
 | some j =>
 rw[e]at h;obtain⟨h1,h2,h3,h4⟩:=gt e;exact⟨j,h1,h,h2,h3,h4⟩
theorem bQ {α:Type} {xs:List α} {j:Nat} {v:α} (h:xs[j]?=some v):atI xs (j:Int)=some v:=by
 have hj:j<xs.length:=(Qf.mp h).1
 have e:ixN xs.length (j:Int)=some j:=by
  unfold ixN;rw[Qp (by omega),Qp (by omega)];simp
 unfold atI;rw[e];exact h
def u6 (b:Expr):Prop:=∀o i,subscripted b false o i=operate [o,i] (getItem o i)
def IxR (X:Cx) (r:R2):Prop :=
 ∀(value slice:Expr) (pins:D0) (s:Shared) (O:St) (H:Hp) (x y:V) (v u:Value) (Q:VK),Inv X pins O H s->aR x v->aR y u->r x y H Q ->
  subscripted slice false v u=operate [v,u] (getItem v u)->wpAny (model X.prog X.w) X.A (subscriptTail value slice v u) (EP X pins O Q) X.xe s
def MtR (X:Cx) (id:String) (r:V->List V->Hp->VK->Prop):Prop :=
 ∀(pins:D0) (s:Shared) (O:St) (H:Hp) (x:V) (xs:List V) (v:Value) (us:List Value) (Q:VK),Inv X pins O H s->aR x v->aJ xs us->r x xs H Q ->
  wpAny (model X.prog X.w) X.A (call (.builtin id) (v::us)) (EP X pins O Q) X.xe s
section
variable {X:Cx} {a b:Expr} {ta tb:TE} {pos:Pos}
theorem az {r:R2} (hr:IxR X r) (ha:PE X a ta) (hb:PE X b tb) (hs:u6 b:=by exact λ_ _=>rfl):PE X (.Subscript a b pos) (tOp r ta tb):=by
 intro pins s O H Q I h;exact Subscript_ (xK ha hb I h λv u s2 x y H2 I2 rx ry q=>hr a b pins s2 O H2 x y v u Q I2 rx ry q (hs _ _))
def my (K:PySem.W.Frag):R2:=λx y H Q=>∃p xs i v,x=.ref p/\y=.int i/\SqL K H p xs/\atI xs i=some v/\Q v H
def wI (K:PySem.W.Frag):R2:=λx y H Q=>∃p xs i v,x=.ref p/\y=.int i/\SqT K H p xs/\atI xs i=some v/\Q v H
def mw:R2:=λx y H Q=>∃z i c,x=.str z/\y=.int i/\z.length<=sizeLine/\atI z.cps.toList i=some c/\Q (.str ⟨#[c]⟩) H
theorem bh:IxR X (my X.K):=by
 intro value slice pins s O H x y v u Q I rx ry h hs;obtain⟨p,xs,i,z,rfl,rfl,hq,he,q⟩:=h;cases rx;obtain⟨t,rfl⟩:=ry;obtain⟨its,r,pl,hz⟩:=I.list hq;obtain⟨j,h1,h2,h3,h4,h5⟩:=jV he;obtain⟨w,ew,rw'⟩:=r.get h2;have hl:=r.length;have hn:=hZ;have fin:EP X pins O Q w s:=⟨z,H,I,rw',q⟩;by_cases h0:0<=i
 ·have hj:i.toNat=j:=by
   rw[seqIndex_of h0 h5]at h1;exact QN h1
  exact item_listR pl.isList h0 (by omega) (by rw[hj];simpa using ew) fin hs
 have hj:(i+(its.toArray.size:Int)).toNat=j:=by
  rw[seqIndex_neg (by omega) h4]at h1;rw[Ql,<-hl];exact QN h1
 exact subscriptTail_builtinR (x:=w) pl.isList.typeIs slot_list_getitem.lookup
  (wpAny_getItem_list_neg (Q:=λr s'=>r=w/\EP X pins O Q r s') pl.isList (by omega) (by rw[Ql] <;> omega) (by omega) (by rw[hj];simpa using ew) ⟨rfl,fin⟩) hs
theorem aM:IxR X (wI X.K):=by
 intro value slice pins s O H x y v u Q I rx ry h hs;obtain⟨p,xs,i,z,rfl,rfl,hq,he,q⟩:=h;cases rx;obtain⟨t,rfl⟩:=ry;obtain⟨its,r,pl,hz⟩:=I.tuple hq;obtain⟨j,h1,h2,h3,h4,h5⟩:=jV he;obtain⟨w,ew,rw'⟩:=r.get h2;have hl:=r.length;have hn:=hZ;have fin:EP X pins O Q w s:=⟨z,H,I,rw',q⟩
 exact subscriptTail_builtinR (x:=w) pl.typeIs slot_tuple_getitem.lookup
  (getItem_tuple (j:=j) (Q:=λr s'=>r=w/\EP X pins O Q r s') pl (by omega) (by omega) (by rw[Ql,<-hl];exact h1) (by simpa using ew) ⟨rfl,fin⟩) hs
theorem eO:IxR X mw:=by
 intro value slice pins s O H x y v u Q I rx ry h hs;obtain⟨z,i,c,rfl,rfl,hz,he,q⟩:=h;obtain⟨t,rfl⟩:=rx;obtain⟨t',rfl⟩:=ry;obtain⟨j,h1,h2,h3,h4,h5⟩:=jV he;have hl:z.cps.toList.length=z.length:=by simp[Str.length]
 rw[hl]at h1 h4 h5;have hn:=hZ
 exact tail_any (typeIs_str s z t) slot_str_getitem.lookup (getItem_str (c:=c) (by
  have e1:decide (i < -(2 ^ 63:Int))=false:=QE (by omega);have e2:decide (i>=2 ^ 63)=false:=QE (by omega)
  rw[e1,e2,Bool.or_false]) (by rw[h1];simpa using h2) ⟨.str ⟨#[c]⟩,H,I.tok _,⟨_,rfl⟩,q⟩) hs
theorem mL (its:List Value) (n j:Nat) (u:Value):Obj.mapSeq (·.setIfInBounds j u) { cls:=.type "list", data:=.seq its.toArray n }={ cls:=.type "list", data:=.seq (its.set j u).toArray n }:=by
 simp[Obj.mapSeq]
variable {s:Shared} {pins:D0}
theorem Inv.lst {O:St} {H:Hp} {p:Addr} {xs:List V} (I:Inv X pins O H s) (h:H p=some (.lst xs)) :
  ∃(its:List Value) (n:Nat),aJ xs its/\s.heap.get? p=some { cls:=.type "list", data:=.seq its.toArray n }/\xs.length<=sizeLine:=by
 obtain⟨z,its,n,r,e⟩:=I.hok p _ h;exact⟨its,n,r,e,z⟩
theorem Inv.lstUpd {O:St} {H:Hp} {p:Addr} {xs ys:List V} {its its':List Value} {n n':Nat} {f:Obj->Obj} (I:Inv X pins O H s) (h:H p=some (.lst xs))
  (ho:s.heap.get? p=some { cls:=.type "list", data:=.seq its.toArray n }) (hf:f { cls:=.type "list", data:=.seq its.toArray n }={ cls:=.type "list", data:=.seq its'.toArray n' }) (r:aJ ys its') (hz:ys.length<=sizeLine) (t:Nat) :
  Inv X pins O (upd H p (.lst ys)) { s with heap:=s.heap.update p f,toks:=t }:=by
 have e:(s.heap.update p f).get? p=some { cls:=.type "list", data:=.seq its'.toArray n' }:=by
  rw[QU f ho (by rw[hf] <;> rfl),hf]
 refine I.write (x:=p) (e:=p) (by rw[h];trivial) (.inl rfl) (λb u hb q=>(Qq _ _ (Xo hb)).trans q) ⟨_,e⟩ ?_;exact⟨hz,its',n',r,e⟩
def vp:V->V->V->Hp->(Hp->Prop)->Prop:=λo i v H Q=>∃p xs k j,o=.ref p/\i=.int k/\H p=some (.lst xs)/\ixN xs.length k=some j/\Q (upd H p (.lst (xs.set j v)))
theorem qY:BL X vp:=by
 intro pins s O H o i v ov iv u Q I ro ri rv h;obtain⟨p,xs,k,j,rfl,rfl,hp,hj,q⟩:=h;cases ro;obtain⟨t,rfl⟩:=ri;obtain⟨its,n,r,ho,hz⟩:=I.lst hp;obtain⟨h1,h2,h3,h4⟩:=gt hj;have hl:=r.length;have hn:=hZ
 have I':Inv X pins O (upd H p (.lst (xs.set j v))) { s with heap:=s.heap.update p (Obj.mapSeq (·.setIfInBounds j u)) } :=
  I.lstUpd hp ho (mL its n j u) (r.set rv j) (by rw[List.length_set];exact hz) s.toks
 by_cases h0:0<=k
 ·have hk:k.toNat=j:=by
   rw[seqIndex_of h0 h4]at h1;exact QN h1
  exact PySem.W.ki_setAt ho h0 (by omega) (by rw[Ql,<-hl];exact h4) (by rw[hk];exact⟨_,I',q⟩)
 have hk:(k+(its.toArray.size:Int)).toNat=j:=by
  rw[seqIndex_neg (by omega) h3]at h1;rw[Ql,<-hl];exact QN h1
 exact PySem.W.ki_setBack ho (by omega) (by rw[Ql,<-hl];exact h3) (by omega) (by rw[hk];exact⟨_,I',q⟩)
theorem sl_bd (i:Int) (n:Nat):max 0 (min (if i<0 then i+(n:Int) else i) (n:Int))=(((if i<0 then (i+(n:Int)).toNat else min i.toNat n):Nat):Int):=by
 by_cases h:i<0
 ·rw[Qp h,Qp h,Int.min_eq_left (by omega)];omega
 obtain⟨k,rfl⟩:=Int.eq_ofNat_of_zero_le (Int.not_lt.mp h);rw[Qn h,Qn h,Q9];omega
def dQ:V->Bool
 | .non=>true
 | .bl _=>true
 | .int _=>true
 | .str _=>true
 | _=>false
def eqV:V->V->Bool
 | .non,.non=>true
 | .bl a,.bl b=>a==b
 | .bl a,.int b=>(if a then 1 else 0)==b
 | .int a,.bl b=>a==(if b then 1 else 0)
 | .int a,.int b=>a==b
 | .str a,.str b=>a==b
 | _,_=>false
variable {u v:Value}
theorem sW {A:Around} {y x:V} (ry:aR y u) (rx:aR x v) (fy:dQ y=true) (fx:dQ x=true):SeqAt.EqAt A s u v (eqV y x):=by
 cases y with
 | non =>
  cases ry
  cases x with
  | non=>cases rx;exact SeqAt.EqAt.same _
  | bl b=>cases rx;exact SeqAt.EqAt.none_bool b
  | int b=>obtain⟨t,rfl⟩:=rx;exact SeqAt.EqAt.none_int b t
  | str b=>obtain⟨t,rfl⟩:=rx;exact SeqAt.EqAt.none_str b t
  | _=>exact absurd (show false=true from fx) Qk
 | bl a =>
  cases ry
  cases x with
  | non=>cases rx;exact SeqAt.EqAt.bool_none a
  | bl b=>cases rx;exact SeqAt.EqAt.bool_bool a b
  | int b=>obtain⟨t,rfl⟩:=rx;exact SeqAt.EqAt.bool_int a b t
  | str b=>obtain⟨t,rfl⟩:=rx;exact SeqAt.EqAt.bool_str a b t
  | _=>exact absurd (show false=true from fx) Qk
 | int a =>
  obtain⟨t',rfl⟩:=ry
  cases x with
  | non=>cases rx;exact SeqAt.EqAt.int_none a t'
  | bl b=>cases rx;exact SeqAt.EqAt.int_bool a t' b
  | int b=>obtain⟨t,rfl⟩:=rx;exact SeqAt.EqAt.int_int a t' b t
  | str b=>obtain⟨t,rfl⟩:=rx;exact SeqAt.EqAt.int_str a t' b t
  | _=>exact absurd (show false=true from fx) Qk
 | str a =>
  obtain⟨t',rfl⟩:=ry
  cases x with
  | non=>cases rx;exact SeqAt.EqAt.str_none a t'
  | bl b=>cases rx;exact SeqAt.EqAt.str_bool a t' b
  | int b=>obtain⟨t,rfl⟩:=rx;exact SeqAt.EqAt.str_int a t' b t
  | str b=>obtain⟨t,rfl⟩:=rx;exact SeqAt.EqAt.str_str a t' b t
  | _=>exact absurd (show false=true from fx) Qk
 | _=>exact absurd (show false=true from fy) Qk
def eqU (x:V) (u:Value):Bool:=match u with
 | .none=>eqV .non x
 | .bool b=>eqV (.bl b) x
 | .int i _=>eqV (.int i) x
 | .str z _=>eqV (.str z) x
 | _=>false
theorem sV {x y:V} (r:aR y u) (f:dQ y=true):eqU x u=eqV y x:=by
 cases y with
 | non=>cases r;rfl
 | bl b=>cases r;rfl
 | int i=>obtain⟨t,rfl⟩:=r;rfl
 | str z=>obtain⟨t,rfl⟩:=r;rfl
 | _=>exact absurd (show false=true from f) Qk
theorem fz {x:V}:∀{xs:List V} {us:List Value},aJ xs us->xs.all dQ=true->us.any (eqU x)=xs.any λy=>eqV y x
 | _,_,.nil,_=>rfl
 | y::xs,u::us,.cons r t,f=>by
  rw[List.all_cons,Xq]at f;rw[List.any_cons,List.any_cons,sV r f.1,fz t f.2]
theorem dO {A:Around} {s:Shared} {x:V} {v:Value} (rx:aR x v) (fx:dQ x=true):∀{xs:List V} {us:List Value},aJ xs us->xs.all dQ=true->∀u∈us,SeqAt.EqAt A s u v (eqU x u)
 | _,_,.nil,_=>λu hu=>by cases hu
 | y::xs,u::us,.cons r t,f=>λu' hu=>by
  rw[List.all_cons,Xq]at f;rcases Qw.mp hu with rfl|hu
  ·rw[sV r f.1];exact sW r rx f.1 fx
  exact dO rx fx t f.2 u' hu
def inV (x:V) (xs:List V):Bool:=xs.any λy=>eqV y x
def rIn (K:PySem.W.Frag) (neg:Bool):R2:=λx y H Q=>∃p xs,y=.ref p/\(SqL K H p xs\/SqT K H p xs)/\dQ x=true/\xs.all dQ=true/\Q (.bl (if neg then !inV x xs else inV x xs)) H
theorem d7:OpR X (compareOp .In) (rIn X.K false):=by
 intro pins s O H x y v u Q I rx ry h;obtain⟨p,xs,rfl,hq,fx,fs,q⟩:=h;cases ry;rcases hq with hq|hq
 ·obtain⟨its,r,pl,hz⟩:=I.list hq;refine SeqAt.in_listAt (eqU x) pl.isList (λw hw=>dO rx fx r fs w (by simpa using hw)) ⟨.bl _,H,I,rfl,?_⟩;rw[show its.toArray.any (eqU x)=its.any (eqU x) by simp,fz r fs];exact q
 obtain⟨its,r,pl,hz⟩:=I.tuple hq;refine SeqAt.in_tupleAt (eqU x) pl (λw hw=>dO rx fx r fs w (by simpa using hw)) ⟨.bl _,H,I,rfl,?_⟩;rw[show its.toArray.any (eqU x)=its.any (eqU x) by simp,fz r fs];exact q
theorem dA:OpR X (compareOp .NotIn) (rIn X.K true):=by
 intro pins s O H x y v u Q I rx ry h;obtain⟨p,xs,rfl,hq,fx,fs,q⟩:=h;cases ry;rcases hq with hq|hq
 ·obtain⟨its,r,pl,hz⟩:=I.list hq;refine SeqAt.notIn_listAt (eqU x) pl.isList (λw hw=>dO rx fx r fs w (by simpa using hw)) ⟨.bl _,H,I,rfl,?_⟩;rw[show its.toArray.any (eqU x)=its.any (eqU x) by simp,fz r fs];exact q
 obtain⟨its,r,pl,hz⟩:=I.tuple hq;refine SeqAt.notIn_tupleAt (eqU x) pl (λw hw=>dO rx fx r fs w (by simpa using hw)) ⟨.bl _,H,I,rfl,?_⟩;rw[show its.toArray.any (eqU x)=its.any (eqU x) by simp,fz r fs];exact q
theorem aV:dI X (.builtin "len") (λxs H Q=>∃p ys,xs=[.ref p]/\(SqL X.K H p ys\/SqT X.K H p ys)/\Q (.int ys.length) H):=by
 intro pins s O H xs us Q I r h;obtain⟨p,ys,rfl,hq,q⟩:=h;obtain⟨u,rfl,rx⟩:=dJ r;cases rx;have hn:=hZ;rcases hq with hq|hq
 ·obtain⟨its,r',pl,hz⟩:=I.list hq;have hlen:=r'.length;exact Calls.call_len_list pl.isList (by simp only[Ql] <;> omega) ⟨.int ys.length,H,I.tok _,⟨s.toks+1,by rw[Ql,hlen]⟩,q⟩
 obtain⟨its,r',pl,hz⟩:=I.tuple hq;have hlen:=r'.length;exact len_tuple pl (by simp only[Ql] <;> omega) ⟨.int ys.length,H,I.tok _,⟨s.toks+1,by rw[Ql,hlen]⟩,q⟩
theorem dF:dI X (.type "list") (λxs H Q=>∃p ys,xs=[.ref p]/\(SqL X.K H p ys\/SqT X.K H p ys)/\∀l,H l=none->Q (.ref l) (upd H l (.lst ys))):=by
 intro pins s O H xs us Q I r h;obtain⟨p,ys,rfl,hq,q⟩:=h;obtain⟨u,rfl,rx⟩:=dJ r;cases rx
 have fin:∀(its:List Value),aJ ys its->ys.length<=sizeLine->∀(h':Heap) (c':Nat),(∀b o',s.heap.get? b=some o'->h'.get? b=some o') ->
   h'.get? s.heap.objs.size=some { cls:=.type "list", dict:=none,data:=.seq its.toArray c',slots:=#[] }->EP X pins O Q (.ref s.heap.objs.size) { s with heap:=h' }:=λits r' hz h' c' kp e =>
  ⟨.ref s.heap.objs.size,_,I.laid (t':=s.toks) kp (Qi _) (show bp X.prog X.w _ h' _ (.lst ys) from⟨hz,its,c',r',e⟩),rfl,q _ (I.hok.fresh (Qi _))⟩
 rcases hq with hq|hq
 ·obtain⟨its,r',pl,hz⟩:=I.list hq;have hlen:=r'.length;obtain⟨o,ho,hc,n,hd⟩:=pl.isList;exact call_list_seq p (.inl rfl) ho hc hd (λh' c' kp e=>fin its r' hz h' c' kp e) (by simp only[Ql] <;> omega)
 obtain⟨its,r',pl,hz⟩:=I.tuple hq;have hlen:=r'.length;obtain⟨o,ho,hc,n,hd⟩:=pl;exact call_list_seq p (.inr rfl) ho hc hd (λh' c' kp e=>fin its r' hz h' c' kp e) (by simp only[Ql] <;> omega)
def tyV (K:PySem.W.Frag) (T:String) (x:V) (H:Hp):Prop:=match x with
 | .str _=>T = "str"
 | .int _=>T = "int"
 | .ref p=>(T = "list" /\ ∃xs,SqL K H p xs)\/(T = "tuple" /\ ∃o,K.lookup p=some o/\o.cls=.type "tuple" /\ o.dict=none) \/
   (T = "dict" /\ ((∃kvs,H p=some (.dK kvs))\/∃kvs,H p=some (.dT kvs)))\/(T = "set" /\ ∃S n,H p=some (.set S n))
 | _=>False
theorem qJ {O:St} {H:Hp} {T:String} {x:V} (I:Inv X pins O H s) (r:aR x v) (ty:tyV X.K T x H) :
  s.TypeIs v T/\∀a,v=.ref a->∃ob,s.heap.get? a=some ob/\ob.dict=none:=by
 cases x with
 | str z =>
  obtain⟨t,rfl⟩:=r;cases (show T = "str" from ty);exact⟨typeIs_str s z t,λ_ e=>nomatch e⟩
 | int i =>
  obtain⟨t,rfl⟩:=r;cases (show T = "int" from ty);exact⟨typeIs_int s i t,λ_ e=>nomatch e⟩
 | ref p =>
  cases r;rcases ty with⟨rfl,xs,hq⟩|⟨rfl,o,hk,hc,hd⟩|⟨rfl,hk⟩|⟨rfl,S,n,hk⟩
  ·obtain⟨its,_,pl,_⟩:=I.list hq;refine⟨pl.isList.typeIs,λa e=>?_⟩;cases e;obtain⟨o,n,e,c,hd,_⟩:=pl;exact⟨o,e,hd⟩
  ·refine⟨⟨o,I.kIn p o hk,hc⟩,λa e=>?_⟩;cases e;exact⟨o,I.kIn _ o hk,hd⟩
  ·have z:∃o,s.heap.get? p=some o/\o.ExactDict:=by
    rcases hk with⟨kvs,hk⟩|⟨kvs,hk⟩
    ·obtain⟨_,_,_,_,o,_,_,e,ex,_⟩:=I.hok p _ hk;exact⟨o,e,ex⟩
    obtain⟨_,_,_,_,o,_,_,e,ex,_⟩:=I.hok p _ hk;exact⟨o,e,ex⟩
   obtain⟨o,e,ex⟩:=z;refine⟨⟨o,e,ex.1⟩,λa e2=>?_⟩;cases e2;exact⟨o,e,ex.2.1⟩
  obtain⟨o,_,_,_,e,ex,_⟩:=I.hok p _ hk;refine⟨⟨o,e,ex.1⟩,λa e2=>?_⟩;cases e2;exact⟨o,e,ex.2.1⟩
 | _=>exact False.elim ty
def yb (K:PySem.W.Frag) (T:String) (r:V->List V->Hp->VK->Prop) (to:TE):TE:=λO H Q=>to O H λx H1=>tyV K T x H1/\r x [] H1 Q
def tBM (K:PySem.W.Frag) (T:String) (r:V->List V->Hp->VK->Prop) (to:TE) (t:TA):TE:=λO H Q=>to O H λx H1=>tyV K T x H1/\t O H1 λxs H2=>r x xs H2 Q
variable {o e:Expr} {es:List Expr} {to:TE} {t:TA} {name:Str} {apos cpos:Pos} {T id:String} {r:V->List V->Hp->VK->Prop}
theorem wO (pa:PlainAttrs T) (slot:Slot T name id) (hty:typeOf (.builtin id)=pure (.type "method_descriptor")) (hm:MtR X id r) (ho:PE X o to)
  (hbase:attributeBase o name X.env (eval o X.env)=eval o X.env:=by rfl) (hline:(apos.endLine==cpos.line)=true:=by rfl):PE X (.Call (.Attribute o name apos) [] [] cpos) (yb X.K T r to):=by
 intro pins s O H Q I h;refine wpAny_Call_method0_late hbase hline (thn (ho pins s O H _ I h) λv s1 ⟨x,H1,I1,r1,ty,q1⟩=>?_);obtain⟨h1,h2⟩:=qJ I1 r1 ty;exact⟨T,id,pa,slot,hty,h1,h2,Calls.callWith_builtin rfl (PySem.evalArgs_none (hm pins s1 O H1 x [] v [] Q I1 r1 .nil q1))⟩
theorem cP (pa:PlainAttrs T) (slot:Slot T name id) (hty:typeOf (.builtin id)=pure (.type "method_descriptor")) (hm:MtR X id r) (ho:PE X o to) (ha:PA X (e::es) t)
  (hbase:attributeBase o name X.env (eval o X.env)=eval o X.env:=by rfl)
  (hfew:((backTo cpos (starEach (e::es) X.env)).all (fun x=>!x.1)&&(backToKw cpos (keywordEach [] X.env)).all (fun x=>x.1.isSome)
   && decide ((e::es).length+([]:List Keyword).length+(if ([]:List Keyword).isEmpty then 0 else 1)<30))=true:=by rfl)
  (hline:(apos.endLine==cpos.line)=true:=by rfl) (hs:starEach (e::es) X.env=(false,eval e X.env)::starEach es X.env:=by rfl) (hplain:(backTo cpos (starEach es X.env)).any (·.1)=false:=by rfl) :
  PE X (.Call (.Attribute o name apos) (e::es) [] cpos) (tBM X.K T r to t):=by
 intro pins s O H Q I h;refine wpAny_Call_method_late hbase hfew hline rfl (thn (ho pins s O H _ I h) λv s1 ⟨x,H1,I1,r1,ty,q1⟩=>?_);obtain⟨h1,h2⟩:=qJ I1 r1 ty;refine⟨T,id,pa,slot,hty,h1,h2,?_⟩;have hA:=ha cpos pins s1 O H1 _ I1 q1;rw[hs]at hA ⊢;refine Calls.callWith_builtin (by show (false || (backTo cpos (starEach es X.env)).any (·.1))=false;rw[hplain] <;> rfl) (Calls.evalArgs_plain ?_);exact thn hA λus s2 ⟨vs,H2,I2,r2,q2⟩=>hm pins s2 O H2 x vs v us Q I2 r1 r2 q2
end
def MtM (X:Cx) (id:String) (r:V->List V->Hp->VK->Prop):Prop :=
 ∀(pins:D0) (s:Shared) (O:St) (H:Hp) (x:V) (xs:List V) (v:Value) (us:List Value) (Q:VK),Inv X pins O H s->aR x v->aJ xs us->r x xs H Q ->
  wpAny (model X.prog X.w) X.A (call (.builtin id) (v::us)) (EP X pins O Q) X.xe s
theorem aJ.one:∀{x:V} {us:List Value},aJ [x] us->∃u,us=[u]/\aR x u
 | _,_,.cons r .nil=>⟨_,rfl,r⟩
theorem aJ.two:∀{x y:V} {us:List Value},aJ [x,y] us->∃u v,us=[u,v]/\aR x u/\aR y v
 | _,_,_,.cons r (.cons q .nil)=>⟨_,_,rfl,r,q⟩
theorem aJ.zero:∀{us:List Value},aJ [] us->us=[]
 | _,.nil=>rfl
theorem aJ.dropLast {xs:List V} {us:List Value} (h:aJ xs us):aJ xs.dropLast us.dropLast:=by
 induction h with
 | nil=>exact .nil
 | cons r t ih =>
 cases t with
 | nil=>exact .nil
 | cons q t'=>exact .cons r ih
theorem aJ.eraseIdx:∀{xs:List V} {us:List Value} (i:Nat),aJ xs us->aJ (xs.eraseIdx i) (us.eraseIdx i)
 | _,_,_,.nil=>.nil
 | _,_,0,.cons _ t=>t
 | _,_,i+1,.cons r t=>.cons r (aJ.eraseIdx i t)
theorem aJ.reverse {xs:List V} {us:List Value} (h:aJ xs us):aJ xs.reverse us.reverse:=by
 induction h with
 | nil=>exact .nil
 | cons r t ih=>rw[List.reverse_cons,List.reverse_cons];exact aJ.append ih (.cons r .nil)
theorem mW {α:Type} (l:List α):l.eraseIdx (l.length-1)=l.dropLast:=by
 induction l with
 | nil=>rfl
 | cons a r ih =>
 cases r with
 | nil=>rfl
 | cons b r =>
 have e:(a::b::r).length-1=((b::r).length-1)+1:=by
  have h1:(a::b::r).length=r.length+2:=rfl;have h2:(b::r).length=r.length+1:=rfl;omega
 rw[e,List.eraseIdx_cons_succ,ih]
 all_goals rfl
theorem fP {α:Type}:∀(l:List α) (i:Nat),(l.eraseIdx i).length<=l.length
 | [],_=>Qi _
 | _::_,0=>Nat.le_succ _
 | _::r,i+1=>Nat.succ_le_succ (fP r i)
section
variable {X:Cx} {pins:D0} {O:St} {H:Hp} {s:Shared} {l b:Addr} {xs ys zs:List V}
theorem Inv.lset {its its':List Value} {n:Nat} {f:Array Value->Array Value} {t':Nat} (I:Inv X pins O H s) (hH:H l=some (.lst xs))
  (e:s.heap.get? l=some { cls:=.type "list", data:=.seq its.toArray n }) (hf:f its.toArray=its'.toArray) (hv:aJ ys its') (hz:ys.length<=sizeLine) :
  Inv X pins O (upd H l (.lst ys)) { s with heap:=s.heap.update l (Obj.mapSeq f),toks:=t' }:=by
 have q:=PySem.IsL.update e f;rw[hf]at q;refine I.write (x:=l) (e:=l) (by rw[hH];exact trivial) (.inl rfl) (λb' u hb hu=>(Qq s.heap (Obj.mapSeq f) (Xo hb)).trans hu) ⟨_,q⟩ ?_;exact⟨hz,its',_,hv,q⟩
theorem Inv.lnew {its:List Value} {t':Nat} (I:Inv X pins O H s) (hv:aJ ys its) (hz:ys.length<=sizeLine) :
  Inv X pins O (upd H s.heap.objs.size (.lst ys)) { s with heap:=s.heap.push { cls:=.type "list", data:=.seq its.toArray },toks:=t' } :=
 I.laid (λ_ _ q=>Qc _ q) (Qi _) ⟨hz,its,0,hv,Qs _ rfl⟩
theorem Inv.fresh (I:Inv X pins O H s):H s.heap.objs.size=none:=I.hok.fresh (Qi _)
theorem Inv.lstM (I:Inv X pins O H s) (hH:H l=some (.lst xs)):xs.length<=sizeLine/\∃(its:List Value) (n:Nat),aJ xs its/\xs.length=its.length/\s.heap.get? l=some { cls:=.type "list", data:=.seq its.toArray n }:=by
 obtain⟨z,its,n,r,e⟩:=I.hok l _ hH;exact⟨z,its,n,r,r.length,e⟩
end
section
variable {X:Cx}
def jA:V->List V->Hp->VK->Prop:=λx vs H Q=>∃l xs y,x=.ref l/\vs=[y]/\H l=some (.lst xs)/\xs.length<sizeLine/\Q .non (upd H l (.lst (xs++[y])))
theorem bL:MtM X "list.append" jA:=by
 intro pins s O H x vs v us Q I rx rv h;obtain⟨l,xs,y,rfl,rfl,hH,hz,q⟩:=h;cases rx;obtain⟨u,rfl,ru⟩:=rv.one;obtain⟨z,its,n,r,hl,e⟩:=I.lstM hH;refine call_meets F.slot_list_append ⟨_,e,rfl⟩ F.entry_list_append (F.args_list_append_2 _ _) (PySem.list_append l its.toArray n u (by rw[Ql];omega)) ⟨e,?_⟩;refine⟨.non,_,I.lset (its':=its++[u]) hH e (by simp) (r.append (.cons ru .nil)) ?_,rfl,q⟩;rw[Qh,XY];omega
def BU:V->List V->Hp->VK->Prop:=λx vs H Q=>∃l xs y,x=.ref l/\vs=[]/\H l=some (.lst xs)/\xs[xs.length-1]?=some y/\Q y (upd H l (.lst xs.dropLast))
theorem xf:MtM X "list.pop" BU:=by
 intro pins s O H x vs v us Q I rx rv h;obtain⟨l,xs,y,rfl,rfl,hH,hy,q⟩:=h;cases rx;have hus:=rv.zero;subst hus;obtain⟨z,its,n,r,hl,e⟩:=I.lstM hH;obtain⟨u,hu,ru⟩:=r.get hy
 have hy':its.toArray[its.toArray.size-1]?=some u:=by
  show its.toArray[its.length-1]?=some u;rw[<-Qv,<-hl];exact hu
 refine call_meets F.slot_list_pop ⟨_,e,rfl⟩ F.entry_list_pop (F.args_list_pop_1 _) (MeetsSeq.list_pop_last l its.toArray n u hy' (by rw[Ql];omega)) ⟨e,?_⟩;refine⟨y,_,I.lset (its':=its.dropLast) hH e ?_ r.dropLast ?_,ru,q⟩
 ·show its.toArray.eraseIdxIfInBounds (its.toArray.size-1)=its.dropLast.toArray;rw[Ql,List.eraseIdxIfInBounds_toArray,mW]
 rw[List.length_dropLast];omega
def wH:V->List V->Hp->VK->Prop:=λx vs H Q=>∃l xs i k y,x=.ref l/\vs=[.int i]/\H l=some (.lst xs)/\-(2 ^ 63)<=i/\i<2 ^ 63/\seqIndex? i xs.length=some k/\xs[k]?=some y/\Q y (upd H l (.lst (xs.eraseIdx k)))
theorem lh:MtM X "list.pop" wH:=by
 intro pins s O H x vs v us Q I rx rv h;obtain⟨l,xs,i,k,y,rfl,rfl,hH,h1,h2,hk,hy,q⟩:=h;cases rx;obtain⟨u,rfl,ru⟩:=rv.one;obtain⟨t,rfl⟩:=ru;obtain⟨z,its,n,r,hl,e⟩:=I.lstM hH;obtain⟨w,hw,rw'⟩:=r.get hy
 refine call_meets F.slot_list_pop ⟨_,e,rfl⟩ F.entry_list_pop (F.args_list_pop_2 _ _)
  (MeetsSeq.list_pop_at l its.toArray n i t k w (fitsIndex_both h1 h2) (by rw[Ql,<-hl];exact hk) (by rw[<-Qv];exact hw) (by rw[Ql];omega)) ⟨e,?_⟩
 refine⟨y,_,I.lset (its':=its.eraseIdx k) hH e ?_ (r.eraseIdx k) ?_,rw',q⟩
 ·show its.toArray.eraseIdxIfInBounds k=(its.eraseIdx k).toArray;rw[List.eraseIdxIfInBounds_toArray]
 have:=fP xs k;omega
def yh:R2:=λx y H Q=>∃l b xs zs,x=.ref l/\y=.ref b/\H l=some (.lst xs)/\H b=some (.lst zs)/\xs.length+zs.length<=sizeLine/\∀p,H p=none->Q (.ref p) (upd H p (.lst (xs++zs)))
theorem bJ:OpR X (binaryOp .Add) yh:=by
 intro pins s O H x y v u Q I rx ry h;obtain⟨l,b,xs,zs,rfl,rfl,hH,hB,hz,q⟩:=h;cases rx;cases ry;obtain⟨z,its,n,r,hl,e⟩:=I.lstM hH;obtain⟨z2,its2,n2,r2,hl2,e2⟩:=I.lstM hB;refine PySem.P.add_list e e2 ?_ (by rw[Ql,Ql];omega);have ea:its.toArray++its2.toArray=(its++its2).toArray:=by simp
 rw[ea];exact⟨.ref _,_,I.lnew (t':=s.toks) (r.append r2) (by rw[Qh];omega),rfl,q _ I.fresh⟩
end
section
variable {prog:Program} {w:World} {A:Around} {E:C9} {s:Shared}
end
section
variable {X:Cx}
end
section
variable {κ:Type} [DecidableEq κ]
def aW (kvs:List (κ × V)) (k:κ):Option V:=(kvs.find? λkv=>decide (kv.1=k)).map (·.2)
def bn (kvs:List (κ × V)) (k:κ) (v:V):List (κ × V) :=
 if (kvs.any λkv=>decide (kv.1=k))=true then kvs.map (λkv=>if kv.1=k then (kv.1,v) else kv) else kvs++[(k,v)]
variable {r kvs:List (κ × V)}
theorem bA {p:κ × V} {k:κ} (e:p.1=k):aW (p::r) k=some p.2:=by simp[aW,List.find?_cons,e]
theorem bB {p:κ × V} {k:κ} (e:¬p.1=k):aW (p::r) k=aW r k:=by simp[aW,List.find?_cons,e]
theorem b9 (k:κ):∀kvs:List (κ × V),(kvs.any λkv=>decide (kv.1=k))=(aW kvs k).isSome
 | []=>rfl
 | p::r=>by
  rw[List.any_cons];by_cases e:p.1=k
  ·simp only[bA e,QG e,Bool.true_or,Option.isSome_some]
  rw[bB e,QE e,Bool.false_or];exact b9 k r
theorem ke (k j:κ) (y:V):∀kvs:List (κ × V),aW (kvs.map λkv=>if kv.1=k then (kv.1,y) else kv) j=(aW kvs j).map λx=>if j=k then y else x
 | []=>rfl
 | p::r=>by
  have ih:=ke k j y r;rw[Qu];by_cases h:p.1=k
  ·rw[Qp h];by_cases e:p.1=j
   ·rw[bA (p:=(p.1,y)) e,bA e,Option.map_some,Qp (e.symm.trans h)]
   rw[bB (p:=(p.1,y)) e,bB e,ih]
  rw[Qn h];by_cases e:p.1=j
  ·rw[bA (p:=p) e,bA e,Option.map_some,Qn (λz=>h (e.trans z))]
  rw[bB (p:=p) e,bB e,ih]
theorem iL (k j:κ) (y:V):∀kvs:List (κ × V),aW kvs k=none->aW (kvs++[(k,y)]) j=if j=k then some y else aW kvs j
 | [],_=>by
  by_cases e:k=j
  ·rw[Qp e.symm];exact bA (p:=(k,y)) e
  rw[Qn (λz=>e z.symm)];exact bB (p:=(k,y)) e
 | p::r,hn=>by
  rw[List.cons_append];have hk:¬p.1=k:=λz=>by rw[bA z]at hn;cases hn
  rw[bB hk]at hn;have ih:=iL k j y r hn;by_cases e:p.1=j
  ·rw[bA e,bA e,Qn (λz=>hk (e.trans z))]
  rw[bB e,bB e,ih]
theorem bt (kvs:List (κ × V)) (k j:κ) (y:V):aW (bn kvs k y) j=if j=k then some y else aW kvs j:=by
 unfold bn;by_cases a:(kvs.any λkv=>decide (kv.1=k))=true
 ·rw[Qp a,ke];rw[b9]at a;by_cases e:j=k
  ·obtain⟨x,hx⟩:=Option.isSome_iff_exists.mp a;rw[Qp e,e,hx,Option.map_some,Qp rfl]
  rw[Qn e]
  cases aW kvs j with
  | none=>rfl
  | some x=>rw[Option.map_some,Qn e]
 rw[Qn a];refine iL k j y kvs ?_;rw[b9]at a
 cases q:aW kvs k with
 | none=>rfl
 | some x=>rw[q]at a;exact(a rfl).elim
theorem br (kvs:List (κ × V)) (k:κ) (v:V):(bn kvs k v).length<=kvs.length+1:=by
 unfold bn
 split
 ·rw[Qb];omega
 rw[Qh,Q2,List.length_nil];omega
theorem kM {k:κ} (v:V) (h:aW kvs k=none):bn kvs k v=kvs++[(k,v)]:=by
 unfold bn;rw[b9,h];exact Qn (by decide)
theorem eQ.isSome_eq {o:Option V} {u:Option Value} (r:eQ o u):o.isSome=u.isSome:=by
 cases o with
 | none=>cases u with
  | none=>rfl
  | some _=>exact(show False from r).elim
 | some _=>cases u with
  | none=>exact(show False from r).elim
  | some _=>rfl
theorem eQ.getD {o:Option V} {u:Option Value} {d:V} {d':Value} (r:eQ o u) (rd:aR d d'):aR (o.getD d) (u.getD d'):=by
 cases o with
 | none=>cases u with
  | none=>exact rd
  | some _=>exact(show False from r).elim
 | some _=>cases u with
  | none=>exact(show False from r).elim
  | some _=>exact r
variable {vs:List (κ × Value)}
theorem KV.val (r:KV kvs vs) (k:κ):eQ (aW kvs k) (valueAt vs k):=by
 unfold KV at r
 induction r with
 | nil=>exact True.intro
 | @cons p q ps qs h t ih =>
 obtain⟨h1,h2⟩:=h;by_cases e:p.1=k
 ·have e':q.1=k:=h1.symm.trans e;have b:valueAt (q::qs) k=some q.2:=by simp[valueAt,List.find?_cons,e']
  rw[bA e,b];exact h2
 have e':¬q.1=k:=λz=>e (h1.trans z);have b:valueAt (q::qs) k=valueAt qs k:=by simp[valueAt,List.find?_cons,e']
 rw[bB e,b];exact ih
theorem KV.any (r:KV kvs vs) (k:κ):(kvs.any λkv=>decide (kv.1=k))=vs.any λkv=>decide (kv.1=k):=by
 unfold KV at r
 induction r with
 | nil=>rfl
 | cons h t ih=>rw[List.any_cons,List.any_cons,ih,h.1]
theorem KV.repl (r:KV kvs vs) (k:κ) {y:V} {u:Value} (ry:aR y u) :
  KV (kvs.map λkv=>if kv.1=k then (kv.1,y) else kv) (vs.map λkv=>if kv.1=k then (kv.1,u) else kv):=by
 unfold KV at r ⊢
 induction r with
 | nil=>exact .nil
 | @cons p q ps qs h t ih =>
 rw[Qu,Qu];refine .cons ?_ ih;obtain⟨h1,h2⟩:=h;by_cases e:p.1=k
 ·rw[Qp e,Qp (h1.symm.trans e)];exact⟨h1,ry⟩
 rw[Qn e,Qn (λz=>e (h1.trans z))];exact⟨h1,h2⟩
theorem KV.put (r:KV kvs vs) (k:κ) {y:V} {u:Value} (ry:aR y u):KV (bn kvs k y) (stored vs k u):=by
 unfold bn stored;rw[r.any k];by_cases e:(vs.any λkv=>decide (kv.1=k))=true
 ·rw[Qp e,Qp e];exact r.repl k ry
 rw[Qn e,Qn e];exact Paired.snoc r ⟨rfl,ry⟩
theorem KV.length (r:KV kvs vs):kvs.length=vs.length:=X8 r
end
variable {u:Value}
theorem ie {P:Program} {w:World} {k:Key} (r:aR (kV k) u):(ax P w).is k u=true:=by
 cases k with
 | inl i=>obtain⟨t,e⟩:=(show ∃t,u=Value.int i t from r);subst e;exact lr P w i t
 | inr x=>obtain⟨t,e⟩:=(show ∃t,u=Value.str x t from r);subst e;exact f8 P w x t
theorem sE {a b:Key} (e:kV a=kV b):a=b:=by
 cases a with
 | inl i=>cases b with
  | inl j=>have e':V.int i=V.int j:=e;injection e' with e';rw[e']
  | inr y=>exact nomatch (show V.int i=V.str y from e)
 | inr x=>cases b with
  | inl j=>exact nomatch (show V.str x=V.int j from e)
  | inr y=>have e':V.str x=V.str y:=e;injection e' with e';rw[e']
theorem oD:∀{a b:List Key},a.map kV=b.map kV->a=b
 | [],[],_=>rfl
 | [],_::_,e=>by simp at e
 | _::_,[],e=>by simp at e
 | x::xs,y::ys,e=>by
  rw[Qu,Qu]at e;injection e with e1 e2;rw[sE e1,oD e2]
theorem iY {P:Program} {w:World}:∀{ks:List Key} {us:List Value},aJ (ks.map kV) us->ItemsAre (ax P w) ks us
 | [],_,r=>by rw[List.map_nil]at r;cases r;exact .nil
 | k::ks,_,r=>by
  rw[Qu]at r
  cases r with
  | cons h t=>exact .cons (ie h) (iY t)
abbrev KT (H:Hp):List (ay × V)->List (ay × Addr × Value)->Prop:=Paired λp q=>p.1=q.1/\cv H p.1 q.2.1/\aR p.2 q.2.2
variable {xs:List (ay × Addr × Value)} {kvs:List (ay × V)} {H H':Hp}
theorem KT.val (r:KT H kvs xs) (k:ay):eQ (aW kvs k) ((atKey xs k).map (·.2)):=by
 induction r with
 | nil=>exact True.intro
 | @cons p q ps qs h t ih =>
 obtain⟨h1,_,h2⟩:=h;by_cases e:p.1=k
 ·have e':q.1=k:=h1.symm.trans e;have b:atKey (q::qs) k=some q.2:=by simp[atKey,List.find?_cons,e']
  rw[bA e,b];exact h2
 have e':¬q.1=k:=λz=>e (h1.trans z);have b:atKey (q::qs) k=atKey qs k:=by simp[atKey,List.find?_cons,e']
 rw[bB e,b];exact ih
theorem KT.repl (r:KT H kvs xs) (k:ay) {y:V} (ry:aR y u) :
  KT H (kvs.map λkv=>if kv.1=k then (kv.1,y) else kv) (xs.map (putAt k u)):=by
 induction r with
 | nil=>exact .nil
 | @cons p q ps qs h t ih =>
 rw[Qu,Qu];refine .cons ?_ ih;obtain⟨h1,h2,h3⟩:=h;unfold putAt;by_cases e:p.1=k
 ·rw[Qp e,Qp (h1.symm.trans e)];exact⟨h1,h2,ry⟩
 rw[Qn e,Qn (λz=>e (h1.trans z))];exact⟨h1,h2,h3⟩
variable {b a:Addr}
theorem KT.put (r:KT H kvs xs) (k:ay) {y:V} (hb:cv H k b) (ry:aR y u) :
  KT H (bn kvs k y) (storedH xs k b u):=by
 have e:(kvs.any λkv=>decide (kv.1=k))=(atKey xs k).isSome:=by
  rw[b9,(r.val k).isSome_eq,Option.isSome_map]
 unfold bn storedH;rw[e];by_cases q:(atKey xs k).isSome=true
 ·rw[Qp q,Qp q];exact r.repl k ry
 rw[Qn q,Qn q];exact Paired.snoc r ⟨rfl,hb,ry⟩
theorem KT.keeps (r:KT H kvs xs) (ht:∀b ys,H b=some (.tup ys)->H' b=some (.tup ys)):KT H' kvs xs :=
 Paired.mapP r λ_ _ z=>⟨z.1,z.2.1.keeps ht,z.2.2⟩
section
variable {P:Program} {w:World} {H:Hp} {h:Heap} {a:Addr}
theorem rc {u:HO} (ok:HOk P w H h) (e:Rd H a u):bp P w H h a u:=e.ok ok
variable {kvs:List (Key × V)}
theorem iu (ok:HOk P w H h) (e:Rd H a (.dK kvs)):kvs.length<=sizeLine/\(a==sysModules)=false/\∃vs,KV kvs vs/\h.DictOf (ax P w) a vs :=
 show bp P w H h a (.dK kvs) from rc ok e
theorem oN (ok:HOk P w H h) (e:H a=some (.dK kvs)):kvs.length<=sizeLine/\(a==sysModules)=false/\∃vs,KV kvs vs/\h.DictOf (ax P w) a vs:=iu ok (.inl e)
theorem lF (ok:HOk P w H h):∀{ks:ay} {vs:List V} {its:List Value},Paired (KIt H) ks vs->aJ vs its->TK.Its (ax P w) h ks its
 | _,_,_,.nil,.nil=>.nil
 | k::_,_,_,.cons q t,.cons rv r=>.cons (by
   cases k with
   | inl k=>cases q;exact ie rv
   | inr ks =>
   obtain⟨c,rfl,q⟩:=q;obtain⟨_,its,r,o,h1,h2,n,h3⟩:=(show bp P w H h c (.tup (ks.map kV)) from ok c _ q)
   exact⟨c,rv,o,its.toArray,n,h1,h2,h3,by simpa using iY r⟩) (lF ok t r)
theorem fQ {ks:ay} (ok:HOk P w H h) (e:cv H ks a):(bq P w).is h ks a:=by
 obtain⟨vs,e,pr⟩:=e;obtain⟨_,its,r,o,h1,h2,n,h3⟩:=(show bp P w H h a (.tup vs) from ok a _ e);exact⟨o,its.toArray,n,h1,h2,h3,by simpa using lF ok pr r⟩
theorem i5 {kvs:List (ay × V)} (ok:HOk P w H h) (e:Rd H a (.dT kvs)):kvs.length<=sizeLine/\(a==sysModules)=false /\
  ∃xs,KT H kvs xs/\h.DictOfH (bq P w) a xs:=by
 obtain⟨z,y,xs,r,o,es,ep,h1,h2,h3,h4,h5⟩:=(show bp P w H h a (.dT kvs) from rc ok e);refine⟨z,y,xs,r,o,es,ep,h1,h2,h3,h4,λx hx=>?_,h5⟩
 have all:∀{l:List (ay × V)} {m:List (ay × Addr × Value)},KT H l m->∀x∈m,(bq P w).is h x.1 x.2.1:=by
  intro l m q
  induction q with
  | nil=>intro x hx;exact nomatch hx
  | @cons p q ps qs hq t ih =>
  intro x hx;rcases Qw.mp hx with e|hx
  ·subst e;exact fQ ok (by rw[<-hq.1];exact hq.2.1)
  exact ih x hx
 exact all r x hx
theorem BC {kvs:List (ay × V)} (ok:HOk P w H h) (e:H a=some (.dT kvs)):kvs.length<=sizeLine/\(a==sysModules)=false /\
  ∃xs,KT H kvs xs/\h.DictOfH (bq P w) a xs:=i5 ok (.inl e)
end
def cL (H:Hp) (a:Addr) (y:V) (r:Option V):Prop :=
 (∃kvs k,Rd H a (.dK kvs)/\y=kV k/\r=aW kvs k)\/∃kvs k b,Rd H a (.dT kvs)/\y=.ref b/\cv H k b/\r=aW kvs k
def eS (H:Hp) (a:Addr) (y v:V) (H':Hp):Prop :=
 (∃kvs k,H a=some (.dK kvs)/\y=kV k/\kvs.length<sizeLine/\H'=upd H a (.dK (bn kvs k v))) \/
 ∃kvs k b,H a=some (.dT kvs)/\y=.ref b/\cv H k b/\kvs.length<sizeLine/\H'=upd H a (.dT (bn kvs k v))
theorem cL.k {H:Hp} {a:Addr} {kvs:List (Key × V)} {k:Key} (e:H a=some (.dK kvs)):cL H a (kV k) (aW kvs k):=.inl ⟨kvs,k,.inl e,rfl,rfl⟩
theorem cL.t {k:ay} (e:H a=some (.dT kvs)) (eb:cv H k b):cL H a (.ref b) (aW kvs k):=.inr ⟨kvs,k,b,.inl e,rfl,eb,rfl⟩
theorem eS.k {H:Hp} {a:Addr} {kvs:List (Key × V)} {k:Key} {v:V} (e:H a=some (.dK kvs)) (hl:kvs.length<sizeLine):eS H a (kV k) v (upd H a (.dK (bn kvs k v))):=.inl ⟨kvs,k,e,rfl,hl,rfl⟩
theorem eS.t {k:ay} {v:V} (e:H a=some (.dT kvs)) (eb:cv H k b) (hl:kvs.length<sizeLine) :
  eS H a (.ref b) v (upd H a (.dT (bn kvs k v))):=.inr ⟨kvs,k,b,e,rfl,eb,hl,rfl⟩
section
variable {X:Cx} {pins:D0} {O:St} {H:Hp} {s:Shared} {a:Addr} {y v:V} {u r:Value} {o:Option V} {A:Around} {E:C9}
theorem Inv.big (I:Inv X pins O H s):sysModules<s.heap.objs.size:=by
 have h:mainGlobals<s.heap.objs.size:=(I.mod.glob.keeps I.bk).lt;exact Nat.lt_trans (by decide) h
variable {Q:C9}
theorem qx (hu:A.units+8<cLine) (I:Inv X pins O H s) (g:cL H a y (some v)) (ry:aR y u) (h:∀w' s',Inv X pins O H s'->aR v w'->Q w' s') :
  wpAny (model X.prog X.w) A (getItem (.ref a) u) Q E s:=by
 rcases g with⟨kvs,k,e,ey,l⟩|⟨kvs,k,b,e,ey,eb,l⟩
 ·subst ey;obtain⟨z,hd,vs,rel,dd⟩:=iu I.hok e;obtain⟨w',hw,rw'⟩:=eQ.some_of (v:=v) (o:=valueAt vs k) (by rw[l];exact rel.val k);exact wpAny_getItem_of (ie ry) dd.mapOf hw (h w' _ (I.tok _) rw')
 subst ey;cases (show u=Value.ref b from ry);obtain⟨z,hd,xs,rel,dd⟩:=i5 I.hok e;obtain⟨w',hw,rw'⟩:=eQ.some_of (v:=v) (o:=(atKey xs k).map (·.2)) (by rw[l];exact rel.val k);obtain⟨p,hp,hp2⟩:=Xy.mp hw;refine wpAny_getItem_heap (gp hu) (fQ I.hok eb) dd hp ?_;rw[hp2];exact h w' _ (I.tok _) rw'
theorem uW (hu:A.units+8<cLine) (I:Inv X pins O H s) (g:cL H a y o) (ry:aR y u) (h:∀s',Inv X pins O H s'->Q (.bool (!o.isSome)) s') :
  wpAny (model X.prog X.w) A (compareOp .NotIn u (.ref a)) Q E s:=by
 rcases g with⟨kvs,k,e,ey,l⟩|⟨kvs,k,b,e,ey,eb,l⟩
 ·subst ey;obtain⟨z,hd,vs,rel,dd⟩:=iu I.hok e;refine wpAny_notIn_of (ie ry) hd dd.mapOf ?_;rw[<-(rel.val k).isSome_eq,<-l];exact h _ (I.tok _)
 subst ey;cases (show u=Value.ref b from ry);obtain⟨z,hd,xs,rel,dd⟩:=i5 I.hok e;refine wpAny_notIn_heap (gp hu) (fQ I.hok eb) hd dd ?_;have q:=(rel.val k).isSome_eq;rw[Option.isSome_map]at q;rw[<-q,<-l];exact h _ (I.tok _)
theorem gv {h':Heap} {t':Nat} {ob:HO} (I:Inv X pins O H s) (mu:Mut (H a)) (hs:Heap.SameBut a s.heap h') (he:∃q,h'.get? a=some q) (new:bp X.prog X.w (upd H a ob) h' a ob) :
  Inv X pins O (upd H a ob) { s with heap:=h',toks:=t' } :=
 I.write (x:=a) (e:=a) mu (.inl rfl) (λb q hb z=>(hs.2 b hb).trans z) he new
theorem m8 {P:Program} {w:World} {H':Hp} {h':Heap} {kvs:List (Key × V)} {vs:List (Key × Value)} (z:kvs.length<=sizeLine) (hd:(a==sysModules)=false) (rel:KV kvs vs) (dd:h'.DictOf (ax P w) a vs) :
  bp P w H' h' a (.dK kvs):=⟨z,hd,vs,rel,dd⟩
theorem qv {H':Hp} {Q:Unit->Shared->Prop} (hu:A.units+8<cLine) (I:Inv X pins O H s) (g:eS H a y v H') (ry:aR y u) (rv:aR v r) (h:∀s',Inv X pins O H' s'->Q () s') :
  wpAny (model X.prog X.w) A (setItem (.ref a) u r) Q E s:=by
 rcases g with⟨kvs,k,e,ey,l,eH⟩|⟨kvs,k,b,e,ey,eb,l,eH⟩
 ·subst ey eH;obtain⟨z,hd,vs,rel,dd⟩:=oN I.hok e;have hz:vs.length<=sizeLine:=by rw[<-rel.length];exact z
  have hl:(bn kvs k v).length<=sizeLine:=by have:=br kvs k v;omega
  refine wpAny_setItem_pairs (hsz:=hz) (ie ry) dd λh' dd' hs=>h _ ?_;have he:∃q,h'.get? a=some q:=let ⟨q,_,_,hq,_⟩:=dd';⟨q,hq⟩;exact gv I (by rw[e];exact True.intro) hs he (m8 hl hd (rel.put k rv) dd')
 subst ey eH;cases (show u=Value.ref b from ry);obtain⟨z,hd,xs,rel,dd⟩:=BC I.hok e;have hz:xs.length<=sizeLine:=by rw[<-X8 rel];exact z
 have hl:(bn kvs k v).length<=sizeLine:=by have:=br kvs k v;omega
 refine wpAny_setItem_heap (hsz:=hz) (gp hu) (fQ I.hok eb) dd λh' dd' hs=>h _ ?_;obtain⟨q,es,ep,hq,h2,h3,h4,_,h5⟩:=dd';refine gv I (by rw[e];exact True.intro) hs ⟨q,hq⟩ ⟨hl,hd,_,(rel.put k eb rv).keeps λc ys ec=>?_,q,es,ep,hq,h2,h3,h4,h5⟩;rw[am (hU ec e (λz=>nomatch z))];exact ec
end
section
variable {X:Cx} {pins:D0} {O:St} {H:Hp} {s:Shared} {a:Addr} {kvs:List (Key × V)} {k:Key} {u:Value} {A:Around} {E:C9}
theorem BD {Q:C9} (I:Inv X pins O H s) (e:Rd H a (.dK kvs)) (h:∀t s',Inv X pins O H s'->Q (.int kvs.length t) s'):wpAny (model X.prog X.w) A (call (.builtin "len") [.ref a]) Q E s:=by
 obtain⟨z,hd,vs,rel,dd⟩:=iu I.hok e;refine call_len_dict hd dd (by rw[<-rel.length];rw[sizeLine_eq]at z;omega) ?_;rw[<-rel.length];exact h _ _ (I.tok _)
end
def BN (i:Expr):Prop:=∀ov iv,subscripted i false ov iv=operate [ov,iv] (getItem ov iv)
variable {Q E:C9} {pos:Pos} {s:Shared}
theorem tV {prog:Program} {w:World} {A:Around} {env:Env} {value slice:Expr} {T id:String}
  (hl:typeLookup (.type T) "__getitem__" = pure (some (.builtin id))) (hs:BN slice)
  (h:wpAny (model prog w) A (eval value env) (λo s₁=>wpAny (model prog w) A (eval slice env) (λi s₂=>s₂.TypeIs o T/\wpAny (model prog w) A (getItem o i) Q E s₂) E s₁) E s) :
  wpAny (model prog w) A (eval (.Subscript value slice pos) env) Q E s:=by
 refine Subscript_ (Xm h (λo s₁ h₁=>Xm h₁ (λi s₂ h₂=>?_) λ_ _ x=>x) λ_ _ x=>x);obtain⟨hT,h₂⟩:=h₂;unfold subscriptTail;refine Qa ?_;rw[getitemInPython_of_ne hT.not_modules];refine Qa (wpAny_specialOf hT hl ?_)
 have fin:wpAny (model prog w) A (subscripted slice false o i) (λr s₃=>wpAny (model prog w) A (letTemporaryGo value o r >>= λ_=>pure r) Q E s₃) E s₂:=by
  rw[hs o i];exact wpAny_operating (Xm h₂ (λr s₃ h₃=>Qa (wpAny_letTemporaryGo (Qe h₃))) λ_ _ x=>x)
 first
  | exact Qe (Qa fin)
  | exact Qa (Qe (Qa fin))
  | exact Qa fin
variable {pins:D0} {X:Cx}
theorem lK {O:St} {y:V} {o:Option V} (I:Inv X pins O H s) (g:cL H a y o):s.TypeIs (.ref a) "dict" := by
 rcases g with⟨kvs,k,e,_,_⟩|⟨kvs,k,b,e,_,_,_⟩
 ·obtain⟨_,_,vs,_,dd⟩:=iu I.hok e;exact dd.typeIs
 obtain⟨_,_,xs,_,dd⟩:=i5 I.hok e;exact dd.typeIs
def qP (td ty:TE):TE:=λO H Q=>td O H λx H1=>ty O H1 λy H2=>∃a v,x=.ref a/\cL H2 a y (some v)/\Q v H2
def nG (ty td:TE):TE:=λO H Q=>ty O H λy H1=>td O H1 λx H2=>∃a o,x=.ref a/\cL H2 a y o/\Q (.bl (!o.isSome)) H2
def nQ (td ty tv:TE):TS:=λD O H=>tv O H λv H1=>td O H1 λx H2=>ty O H2 λy H3=>∃a H4,x=.ref a/\eS H3 a y v H4/\D.nx O H4
section
variable {X:Cx} {o i e value:Expr} {pos pos' tpos:Pos} {td ty tv:TE}
theorem cr (hu:X.A.units+8<cLine) (ho:PE X o td) (hi:PE X i ty) (hs:BN i:=by exact λ_ _=>rfl):PE X (.Subscript o i pos) (qP td ty):=by
 intro pins s O H Q I h;refine tV PySem.F.slot_dict_getitem.lookup hs (thn (ho pins s O H _ I h) λu s1 ⟨x,H1,I1,rx,q1⟩=>thn (hi pins s1 O H1 _ I1 q1) λiv s2 ⟨y,H2,I2,ry,a,v,ex,g,q2⟩=>?_);subst ex;obtain rfl:u=Value.ref a:=rx;exact⟨lK I2 g,qx hu I2 g ry λw' s3 I3 rw'=>⟨v,H2,I3,rw',q2⟩⟩
theorem pK (hu:X.A.units+8<cLine) (hi:PE X i ty) (ho:PE X o td):PC X .NotIn i o (nG ty td):=by
 intro pins s O H Q I h;refine thn (hi pins s O H _ I h) λiv s1 ⟨y,H1,I1,ry,q1⟩=>thn (ho pins s1 O H1 _ I1 q1) λu s2 ⟨x,H2,I2,rx,a,ov,ex,g,q2⟩=>?_;subst ex;obtain rfl:u=Value.ref a:=rx;exact uW hu I2 g ry λs3 I3=>⟨.bl (!ov.isSome),H2,I3,rfl,q2⟩
theorem ce (hu:X.A.units+8<cLine) (ho:PE X o td) (hi:PE X i ty) (hv:PE X value tv) (hs:swapsWith value (some (.Subscript o i pos')) pos.line X.env=pure false) :
  PS X (.Assign [.Subscript o i pos'] value pos) (nQ td ty tv):=by
 intro pins s O H D I h;refine wpAny_Assign_Subscript (thn (hv pins s O H _ I h) λr s1 ⟨v,H1,I1,rv,q1⟩=>thn (ho pins s1 O H1 _ I1 q1) λu s2 ⟨x,H2,I2,rx,q2⟩=>thn (hi pins s2 O H2 _ I2 q2) λiv s3 ⟨y,H3,I3,ry,a,H4,ex,g,q3⟩=>?_) hs;subst ex;obtain rfl:u=Value.ref a:=rx;exact qv hu I3 g ry rv λs4 I4=>⟨O,H4,I4,q3⟩
end
theorem lJ {P:Program} {w:World} (h:Heap) (hb:sysModules<h.objs.size):bp P w H (h.push { cls:=.type "dict", data:=.dict #[] }) h.objs.size (.dK []) :=
 ⟨Q0 _,beq_eq_false_iff_ne.mpr (Xo (QM hb)),[],.nil,Heap.DictOf.new h⟩
theorem sY {P:Program} {w:World} (h:Heap) (hb:sysModules<h.objs.size):bp P w H (h.push { cls:=.type "dict", data:=.dict #[] }) h.objs.size (.dT []) :=
 ⟨Q0 _,beq_eq_false_iff_ne.mpr (Xo (QM hb)),[],.nil,_,#[],0,Qs _ rfl,⟨rfl,rfl,rfl⟩,rfl,rfl,List.nodup_nil⟩
def wx:TE:=λ_ H Q=>∀p,H p=none->Q (.ref p) (upd H p (.dK []))
def ww:TE:=λ_ H Q=>∀p,H p=none->Q (.ref p) (upd H p (.dT []))
section
variable {X:Cx} {pos:Pos}
theorem gR:PE X (.Dict [] [] pos) wx:=λpins s O H Q I h =>
 wpAny_Dict_empty ⟨.ref s.heap.objs.size,_,I.laid (a:=s.heap.objs.size) (o:=.dK []) (t':=s.toks) (λ_ _ q=>Qc _ q) (Qi _) (lJ s.heap I.big),rfl,h _ (I.hok.fresh (Qi _))⟩
theorem kU:PE X (.Dict [] [] pos) ww:=λpins s O H Q I h =>
 wpAny_Dict_empty ⟨.ref s.heap.objs.size,_,I.laid (a:=s.heap.objs.size) (o:=.dT []) (t':=s.toks) (λ_ _ q=>Qc _ q) (Qi _) (sY s.heap I.big),rfl,h _ (I.hok.fresh (Qi _))⟩
end
def jr:List (TE × TE)->St->Hp->(List (V × V)->Hp->Prop)->Prop
 | [],_,H,Q=>Q [] H
 | (tk,tv)::r,O,H,Q=>tk O H λx H1=>tv O H1 λy H2=>jr r O H2 λps H3=>Q ((x,y)::ps) H3
abbrev VV:List (V × V)->List (Value × Value)->Prop:=Paired λp q=>aR p.1 q.1/\aR p.2 q.2
def PPs (X:Cx) (pos:Pos) (keys:List (Option Expr)) (values:List Expr) (trs:List (TE × TE)):Prop :=
 ∀(pins:D0) (s:Shared) (O:St) (H:Hp) (Q:List (V × V)->Hp->Prop),Inv X pins O H s->jr trs O H Q ->
  wpAny (model X.prog X.w) X.A (evalPairs (pairTrees keys values X.env pos)) (λvs s'=>∃ps H',Inv X pins O H' s'/\VV ps vs/\Q ps H') X.xe s
theorem ue:PPs X pos [] [] []:=λpins s O H Q I h=>pairTrees_nil_walk ⟨[],H,I,.nil,h⟩
variable {trs:List (TE × TE)}
theorem kP {k v:Expr} {ks:List (Option Expr)} {vs:List Expr} {tk tv:TE} (hk:PE X k tk) (hv:PE X v tv) (hr:PPs X pos ks vs trs) :
  PPs X pos (some k::ks) (v::vs) ((tk,tv)::trs):=λpins s O H Q I h =>
 pairTrees_cons_walk (thn (hk pins s O H _ I h) λu s1 ⟨x,H1,I1,rx,q1⟩=>thn (hv pins s1 O H1 _ I1 q1) λw2 s2 ⟨y,H2,I2,ry,q2⟩ =>
  thn (hr pins s2 O H2 _ I2 q2) λws s3 ⟨ps,H3,I3,rel,q3⟩=>⟨(x,y)::ps,H3,I3,.cons ⟨rx,ry⟩ rel,q3⟩)
def bS (kvs more:List (Key × V)):List (Key × V):=more.foldl (λacc kv=>bn acc kv.1 kv.2) kvs
theorem KV.merge:∀{more:List (Key × V)} {rs:List (Key × Value)} {kvs:List (Key × V)} {vs:List (Key × Value)},KV more rs->KV kvs vs->KV (bS kvs more) (merged vs rs):=by
 intro more rs kvs vs r;unfold KV at r
 induction r generalizing kvs vs with
 | nil=>intro q;exact q
 | @cons p q ps qs h t ih =>
 intro r0
 have e:KV (bn kvs p.1 p.2) (stored vs q.1 q.2):=by
  have:=r0.put p.1 h.2;rw[<-h.1];exact this
 exact ih e
theorem c_:∀(more kvs:List (Key × V)),(bS kvs more).length<=kvs.length+more.length
 | [],kvs=>by show kvs.length<=kvs.length+0;omega
 | p::r,kvs=>by
  have h1:=c_ r (bn kvs p.1 p.2);have h2:=br kvs p.1 p.2;show (bS (bn kvs p.1 p.2) r).length<=_;rw[Q2];omega
theorem iA {P:Program} {w:World}:∀{kvs:List (Key × V)} {ws:List (Value × Value)},VV (kvs.map λkv=>(kV kv.1,kv.2)) ws->∃rs,Carries (ax P w) ws rs/\KV kvs rs
 | [],_,r=>by rw[List.map_nil]at r;cases r;exact⟨[],True.intro,.nil⟩
 | p::kvs,_,r=>by
  rw[Qu]at r
  cases r with
  | @cons a b as bs h t =>
  obtain⟨rs,c,q⟩:=iA (P:=P) (w:=w) t;obtain⟨b1,b2⟩:=b;exact⟨(p.1,b2)::rs,⟨ie h.1,rfl,c⟩,.cons ⟨rfl,h.2⟩ q⟩
def vg (trs:List (TE × TE)):TE:=λO H Q=>∀p,H p=none->jr trs O (upd H p (.dK [])) λps H2=>H2 p=some (.dK [])/\∃kvs:List (Key × V),ps=kvs.map (λkv=>(kV kv.1,kv.2))/\kvs.length<=15/\Q (.ref p) (upd H2 p (.dK (bS [] kvs)))
theorem uk {keys:List (Option Expr)} {values:List Expr} (h:PPs X pos keys values trs) (hall:keys.all (·.isSome)=true) (hl:keys.length=values.length) (h0:keys≠[])
  (h15:keys.length<=15):PE X (.Dict keys values pos) (vg trs):=by
 intro pins s O H Q I q;have hn:=I.hok.fresh (Qi s.heap.objs.size);have I1:=I.laid (a:=s.heap.objs.size) (o:=.dK []) (h':=s.heap.push { cls:=.type "dict", data:=.dict #[] }) (t':=s.toks) (λ_ _ q=>Qc _ q) (Qi _) (lJ s.heap I.big);refine wpAny_Dict_walk (knd:=ax X.prog X.w) hall hl h0 h15 (thn (h pins _ O _ _ I1 (q _ hn)) λws s2 ⟨ps,H2,I2,rel,e,kvs,ep,lk,q2⟩=>?_);subst ep;obtain⟨rs,c,rk⟩:=iA (P:=X.prog) (w:=X.w) rel;obtain⟨z,hd,vs0,r0,dd⟩:=oN I2.hok e;cases r0;refine⟨rs,c,dd,λh' dd' hs=>⟨.ref s.heap.objs.size,_,?_,rfl,q2⟩⟩
 have hz:(bS [] kvs).length<=sizeLine:=by
  have h1:=c_ kvs [];rw[List.length_nil]at h1;rw[sizeLine_eq];omega
 have he:∃q,h'.get? s.heap.objs.size=some q:=let ⟨q,_,_,hq,_⟩:=dd';⟨q,hq⟩;exact gv I2 (by rw[e];exact True.intro) hs he (m8 hz hd (rk.merge .nil) dd')
structure M1 (X:Cx) (o:Expr) (m:Str) (apos:Pos) (e:Expr) (cpos:Pos):Prop where
 base:attributeBase o m X.env (eval o X.env)=eval o X.env
 few:((backTo cpos (starEach [e] X.env)).all (λx=>!x.1)&&(backToKw cpos (keywordEach [] X.env)).all (λx=>x.1.isSome)
  && decide (([e]:List Expr).length+([]:List Keyword).length+(if ([]:List Keyword).isEmpty then 0 else 1)<30))=true
 line:(apos.endLine==cpos.line)=true
 trees:backTo cpos (starEach [e] X.env)=[(false,eval e X.env)]
structure M2 (X:Cx) (o:Expr) (m:Str) (apos:Pos) (e f:Expr) (cpos:Pos):Prop where
 base:attributeBase o m X.env (eval o X.env)=eval o X.env
 few:((backTo cpos (starEach [e,f] X.env)).all (λx=>!x.1)&&(backToKw cpos (keywordEach [] X.env)).all (λx=>x.1.isSome)
  && decide (([e,f]:List Expr).length+([]:List Keyword).length+(if ([]:List Keyword).isEmpty then 0 else 1)<30))=true
 line:(apos.endLine==cpos.line)=true
 trees:backTo cpos (starEach [e,f] X.env)=[(false,eval e X.env),(false,eval f X.env)]
def IsD (H:Hp) (a:Addr):Prop:=(∃kvs,Rd H a (.dK kvs))\/∃kvs,Rd H a (.dT kvs)
theorem xu {O:St} (I:Inv X pins O H s) (d:IsD H a) :
  s.TypeIs (.ref a) "dict" /\ (∀b,Value.ref a=.ref b->∃ob,s.heap.get? b=some ob/\ob.dict=none)/\(a==sysModules)=false:=by
 rcases d with⟨kvs,e⟩|⟨kvs,e⟩
 ·obtain⟨_,hd,vs,_,dd⟩:=iu I.hok e;refine⟨dd.typeIs,λb q=>?_,hd⟩;cases q;obtain⟨ob,_,_,h1,h2,_⟩:=dd;exact⟨ob,h1,h2.2.1⟩
 obtain⟨_,hd,xs,_,dd⟩:=i5 I.hok e;refine⟨dd.typeIs,λb q=>?_,hd⟩;cases q;obtain⟨ob,_,_,h1,h2,_⟩:=dd;exact⟨ob,h1,h2.2.1⟩
section
variable {X:Cx} {pins:D0} {O:St} {H:Hp} {s:Shared} {a:Addr} {y d:V} {u r:Value} {o:Option V} {A:Around} {E:C9}
theorem xF {Q:C9} (hu:A.units+8<cLine) (I:Inv X pins O H s) (g:cL H a y o) (ry:aR y u) (rd:aR d r) (h:∀w' s',Inv X pins O H s'->aR (o.getD d) w'->Q w' s') :
  wpAny (model X.prog X.w) A (call (.builtin "dict.get") [.ref a,u,r]) Q E s:=by
 rcases g with⟨kvs,k,e,ey,l⟩|⟨kvs,k,b,e,ey,eb,l⟩
 ·subst ey;obtain⟨z,hd,vs,rel,dd⟩:=iu I.hok e;refine call_meetsIn PySem.F.slot_dict_get dd.typeIs PySem.F.entry_dict_get (PySem.F.args_dict_get_3 _ _ _) (meets_dict_get_default (ax X.prog X.w) a (ie ry) hd r) ⟨_,dd.mapOf,h _ _ (I.tok _) ?_⟩;rw[l];exact(rel.val k).getD rd
 subst ey;cases (show u=Value.ref b from ry);obtain⟨z,hd,xs,rel,dd⟩:=i5 I.hok e;refine call_meetsIn PySem.F.slot_dict_get dd.typeIs PySem.F.entry_dict_get (PySem.F.args_dict_get_3 _ _ _) (meetsH_dict_get_default (bq X.prog X.w) a b hd r) ⟨gp hu,k,xs,fQ I.hok eb,dd,h _ _ (I.tok _) ?_⟩;rw[l];exact(rel.val k).getD rd
end
def qO (td ty tx:TE):TE:=λO H Q=>td O H λx H1=>∃a,x=.ref a/\IsD H1 a/\ty O H1 λy H2=>tx O H2 λz H3=>∃o,cL H3 a y o/\Q (o.getD z) H3
section
variable {X:Cx} {o e f:Expr} {apos cpos:Pos} {td ty tx:TE}
theorem kW (hu:X.A.units+8<cLine) (ho:PE X o td) (he:PE X e ty) (hf:PE X f tx) (m:M2 X o "get" apos e f cpos):PE X (.Call (.Attribute o "get" apos) [e,f] [] cpos) (qO td ty tx):=by
 intro pins s O H Q I h;refine wpAny_Call_method m.base m.few m.line PySem.F.plainAttrs_dict PySem.F.slot_dict_get PySem.F.type_dict_get (thn (ho pins s O H _ I h) λu s1 ⟨x,H1,I1,rx,a,ex,d,q1⟩=>?_);subst ex;obtain rfl:u=Value.ref a:=rx;obtain⟨t1,t2,_⟩:=xu I1 d;refine⟨t1,t2,?_⟩;rw[m.trees]
 refine Calls.callWith_builtin rfl (Calls.evalArgs_plain (Calls.spliced_cons (thn (he pins s1 O H1 _ I1 q1) λiv s2 ⟨y,H2,I2,ry,q2⟩ =>
  Calls.spliced_cons (thn (hf pins s2 O H2 _ I2 q2) λfv s3 ⟨z,H3,I3,rz,ov,g,q3⟩=>Calls.spliced_nil ?_))))
 exact xF hu I3 g ry rz λw' s4 I4 rw'=>⟨_,H3,I4,rw',q3⟩
end
section
variable {X:Cx} {pins:D0} {O:St} {H:Hp} {s:Shared} {a:Addr} {kvs:List (Key × V)} {A:Around} {E:C9}
end
section
variable {X:Cx} {pins:D0} {O:St} {H:Hp} {s:Shared} {a:Addr} {y:V} {u:Value} {A:Around} {E:C9}
end
end L2
namespace Att
open PySem PySem.W PySem.Calls PyProof.Rows
theorem gj {P:Params} {h:Heap}:∀(ns:List Int) (vs:List Value),WellAll P h vs (ns.map WData.int)->IntsAre vs ns:=by
 intro ns
 induction ns with
 | nil =>
  intro vs w;rw[List.map_nil]at w;cases w;exact .nil
 | cons n ns ih =>
 intro vs w;rw[Qu]at w
 cases w with
 | cons a b =>
 cases a;exact .cons _ _ (ih _ b)
theorem pC {l:OpenLaw} {n:Nat} (hn:l.most=some n) {P:Params} {h:Heap} {args:List WData} {vals:List Value}
  (hpre:l.row.toRowW.claim.pre args=true) (hwl:WellAll P h vals args) :
  ∃a vs ns,vals=[Value.ref a]/\args=[WData.list (ns.map WData.int)]/\h.get? a=some { cls:=.type "list", data:=.seq vs.toArray }/\IntsAre vs ns/\ns.length<=n:=by
 have hsh:WShape.hasAll [] args [.list .int]=true:=(pre_splitW hpre).1;have hc:l.pre.holds [] { args:=args }=true:=(pre_splitW hpre).2;obtain⟨d,r,rfl,h1,h2⟩:=hasAllW_cons hsh;obtain rfl:=hasAllW_nil h2;obtain⟨xs,rfl,h3⟩:=hasW_list h1;obtain⟨ns,rfl⟩:=items_int h3
 have hlen:ns.length<=n:=by
  unfold OpenLaw.pre at hc
  have h4:(WTm.not (.lt (.lit (.int (n:Int))) (.len (.arg 0)))).holds [] { args:=[.list (ns.map .int)] }=true:=by
   have h4:=(holds_andW hc).1;rw[hn]at h4;exact h4
  have h5:=condW_of h4 (w_not (w_lt w_lit (w_len_list (w_arg rfl))));rw[Qb]at h5;refine Nat.le_of_not_lt λq=>?_;have q':(n:Int)<((ns.length:Nat):Int):=by omega
  first
   | (rw[QG q']at h5;exact absurd h5 (by decide))
   | (simp at h5;omega)
 cases hwl with
 | cons w1 w2 =>
 cases w2
 cases w1 with
 | list ho hall=>exact⟨_,_,ns,rfl,rfl,ho,gj ns _ hall,hlen⟩
theorem pG (l:OpenLaw) (args:List WData):l.row.toRowW.claim.post args (.bool true) args=true :=
 postW_of (r:=l.row.toRowW) (X:=(true==true))
  (show WShape.has [] (.bool true) .bool=true by first|rfl|decide|simp[WShape.has,WShape.arms,WShape.armsAll])
  (show (WTm.eq .res (.lit (.bool true))).value [] { args:=args,res:=some (.bool true),after:=args }=some (.bool (true==true)) from w_eq_bool (w_res rfl) w_lit) rfl
theorem lN {l:OpenLaw} {n:Nat} {q:Program} {loose:List Str} {XP:D3->Heap->Prop} {YP:World->Heap->Prop} {d:DefRec}
  (hn:l.most=some n) (hdf:d.params.defaults=[])
  (call:∀(w:World) (s₀ s₁:Shared) (mg mb:D3) (fa:Addr) (o:Obj) (pm cd doc:Value) (a:Addr) (vs:List Value) (ns:List Int),
   Ground q loose [] XP w s₀ mg mb s₁.heap->YP w s₁.heap ->
   s₁.heap.get? fa=some o->o.data=.func (docDef d.name d.params d.body d.scope pm cd doc)->s₁.heap.CodeRec cd d.name->mg d.name=some (.ref fa) ->
   s₁.heap.get? a=some { cls:=.type "list", data:=.seq vs.toArray }->IntsAre vs ns->ns.length<=n->s₁.gens=#[] ->
   codeAny (model l.prog w) callerA (.call (.ref fa) ⟨[.ref a],[]⟩) (λr s'=>r=.ok (.ret (.bool true))/\OldK s₁.heap s'.heap/\s'.os=s₁.os/\AllBare s'.gens) s₁) :
  WalkO q loose XP YP l.row.toRowW d [] (λf vs=>PySem.call f vs):=by
 intro w s₀ s₁ mg mb G Y fa o pm cd doc dV kV ho hd hcd hD hmg hg args vals as hpre hlay hrd hwl hlo;obtain rfl:dV=.none:=Dflts.none hD hdf;obtain rfl:kV=.none:=Dflts.noKw hD;obtain⟨a,vs,ns,rfl,rfl,hobj,hints,hlen⟩:=pC hn hpre hwl;refine enter_call (codeAny_mono (call w s₀ s₁ mg mb fa o pm cd doc a vs ns G Y ho (fd_plain hd) hcd hmg hobj hints hlen hg) λr s' hq=>?_);obtain⟨rfl,h2,h3,h4⟩:=hq;exact⟨.inl ⟨.bool true,.bool true,[],rfl,λ_=>rfl,.bool true,pG l _,λ_=>⟨List.Pairwise.nil,λ_ hm=>(nomatch hm)⟩⟩,h2,h3,h4⟩
section
variable {prog:Program} {w:World} {A:Around} {E:C9} {s:Shared} {K:Frag}
end
end Att
namespace L2
open PySem PySem.Spec PyProof.Rows
theorem iK:∀{vs:List Value} {ns:List Int},IntsAre vs ns->aJ (ns.map V.int) vs
 | _,_,.nil=>.nil
 | _,_,.cons n t h=>.cons ⟨t,rfl⟩ (iK h)
end L2
/- THE LAST THEOREM (shape;LID,My.* are yours):
  My.Adr: a structure of the addresses that your layer names (classes,functions);My.Txt K t: a structure (Prop) of the equations over K;
  My.txt_mk:{K} {implicit addresses ..} (e1:nsIn K mainGlobals "law" = some (some (.ref f))) (e2:K.lookup f=some ⟨oc,od,.func (fnOf "law" "law" params body scope dV kV doc pm an cdv ct),sl⟩) (e3:codeIn K cdv "law" = true) ..:∃t,My.Txt K t
(the tactic k_is has no namespace: write k_is) -/
namespace L2
open PySem PySem.Spec PyProof.Rows
abbrev CX0:CXT:=λ_ _ _ _ _ _=>False
abbrev E0:XK:=λ_ _ _=>False
variable {X:Cx}
theorem ym:eR CX0 X E0:=λ_ _ _ _ _ _ _ h=>h.elim
structure Fun (K:PySem.W.Frag) (x qual:Str) (st:Stmt) (f:Addr) (fd:FuncData):Prop where
 ex:∃(oc:Value) (od:Option Addr) (kV doc pm:Value) (an:Option Addr) (cdv ct:Value) (osl:Array (Option Value)),
  fd=PySem.W.fnOf x qual (cu st) (bN st) (aA st) .none kV doc pm an cdv ct/\K.lookup f=some ⟨oc,od,.func fd,osl⟩/\PySem.W.codeIn K cdv qual=true
 kp:PySem.W.keepIn K (.ref f)=true
section
variable {P:Program} {w:World} {K:PySem.W.Frag} {mg:D3} {base:Heap}
variable {x qual:Str}
theorem Fun.ok {st:Stmt} {f:Addr} {fd:FuncData} {N ps:List Str} {k:Nat} {sp:Sp} (F:Fun K x qual st f fd) (S:FnScope N ps (aA st)) (len:∀vs H Q E,sp vs H Q E->vs.length=ps.length)
  (hbody:∀(cdv:Value) (A:Around) (outer:List Env) (s:Shared) (H:Hp) (vs:List V) (Q:VK) (E:XK),Room k (A.deeper (envOfC qual (aA st) s.heap.objs.size f cdv))->sp vs H Q E ->
   ∃t,PSs (cxOf CX0 P w K mg base N qual (aA st) f cdv A outer s H E).nox (bN st) t/\t { nx:=λ_ H'=>Q .non H',rt:=Q } (start N vs) H):FnOk P w K mg base CX0 (k+1) f fd ps sp:=by
 obtain⟨oc,od,kV,doc,pm,an,cdv,ct,osl,rfl,lk,hcd⟩:=F.ex;refine lH lk hcd S len λA outer s H vs Q E hr hsp=>?_;obtain⟨t,h,q⟩:=hbody cdv A outer s H vs Q E hr hsp;exact⟨t,h.nox,q⟩
theorem Fun.binds {st:Stmt} {f:Addr} {fd:FuncData} {ps:List Str} (F:Fun K x qual st f fd)
  (h:∀(kV doc pm:Value) (an:Option Addr) (cdv ct:Value) (us:List Value),us.length=ps.length->bindArgs (PySem.W.fnOf x qual (cu st) (bN st) (aA st) .none kV doc pm an cdv ct) ⟨us,[]⟩=pure (ps.zip us)):dS K fd ps []:=by
 obtain⟨oc,od,kV,doc,pm,an,cdv,ct,osl,rfl,lk,hcd⟩:=F.ex;exact .all (h kV doc pm an cdv ct)
theorem sQ {st:Stmt} {f:Addr} {oc:Value} {od an:Option Addr} {osl:Array (Option Value)} {kV doc pm cdv ct:Value} (l:K.lookup f=some ⟨oc,od,.func (PySem.W.fnOf x qual (cu st) (bN st) (aA st) .none kV doc pm an cdv ct),osl⟩)
  (c:PySem.W.codeIn K cdv qual=true) (k:PySem.W.keepIn K (.ref f)=true):Fun K x qual st f (PySem.W.fnOf x qual (cu st) (bN st) (aA st) .none kV doc pm an cdv ct):=⟨⟨oc,od,kV,doc,pm,an,cdv,ct,osl,rfl,l,c⟩,k⟩
end
theorem di {A:Around} {k:Nat} (hr:Room k A):A.units+8<cLine:=Xx (Nat.add_le_add_left (by decide:8<=64) _) hr.units
section
variable {X:Cx}
theorem pv (i:Nat) {x:Str} {pos:Pos} (hN:X.N[i]?=some x:=by rfl) (hv:Vis X.env.scope x:=by first|exact Or.inl rfl|exact Or.inr (Or.inl rfl)|exact Or.inr (Or.inr rfl)) (hd:(x==("__debug__" : Str))=false:=by decide)
  (hcd:(x==("__classdict__" : Str))=false:=by decide):PE X (.Name x pos) (cT i):=wN hN hv hd hcd
end
theorem iteF {A B:Prop} (h:B):if false=true then A else B:=by
 rw[Qn Qk];exact h
theorem iteT {A B:Prop} (h:A):if true=true then A else B:=by
 rw[Qp rfl];exact h
theorem qb {c A B:Prop} [Decidable c] (h1:c->A) (h2:¬c->B):if c then A else B:=by
 by_cases h:c
 ·rw[Qp h];exact h1 h
 rw[Qn h];exact h2 h
def av (H H':Hp):Prop:=∀b o,H b=some o->H' b=some o
theorem av.refl (H:Hp):av H H:=λ_ _ h=>h
variable {H H1 H2 H' H4:Hp}
theorem av.trans (a:av H H1) (b:av H1 H2):av H H2:=λc o h=>b c o (a c o h)
variable {l a c e T p:Addr}
theorem av.free (e:av H H') (h:H' l=Option.none):H l=Option.none:=by
 cases q:H l with
 | none=>rfl
 | some o =>
 rw[e l o q]at h;cases h
theorem av.seq {K:PySem.W.Frag} {xs:List V} (e:av H H') (h:SqL K H a xs):SqL K H' a xs:=by
 rcases h with(h|⟨o,h⟩)|h
 ·exact .inl (.inl (e _ _ h))
 ·exact .inl (.inr ⟨o,e _ _ h⟩)
 exact .inr h
section
variable {κ:Type} [DecidableEq κ]
variable {kvs:List (κ × V)}
theorem eW {k:κ} (h:aW kvs k=none):¬k∈kvs.map (·.1):=by
 intro m;obtain⟨p,hp,e⟩:=Qr.mp m;have q:(kvs.any λkv=>decide (kv.1=k))=true:=List.any_eq_true.mpr ⟨p,hp,QG e⟩;rw[b9,h]at q;exact absurd q (by simp)
theorem eX {k:κ} {v:V} (h:aW kvs k=some v):k∈kvs.map (·.1):=by
 have q:(kvs.any λkv=>decide (kv.1=k))=true:=by
  rw[b9,h]
  all_goals rfl
 obtain⟨p,hp,e⟩:=List.any_eq_true.mp q;exact Qr.mpr ⟨p,hp,XX e⟩
theorem jF:∀{l:List κ} {k:κ},l.Nodup->¬k∈l->(l++[k]).Nodup
 | [],k,_,_=>by simp
 | a::r,k,h,hk=>by
  obtain⟨h1,h2⟩:=Q4.mp h;show (a::(r++[k])).Nodup;refine Q4.mpr ⟨λm=>?_,jF h2 λm=>hk (Qw.mpr (Or.inr m))⟩;rcases Qj.mp m with q|q
  ·exact h1 q
  exact hk (Qw.mpr (Or.inl (QF.mp q).symm))
end
section
variable {X:Cx}
theorem ja:dI X (.builtin "len") (λxs H Q=>∃a kvs,xs=[V.ref a]/\H a=some (.dK kvs)/\Q (.int kvs.length) H):=by
 intro pins s O H xs us Q I r h;obtain⟨a,kvs,rfl,ha,q⟩:=h;obtain⟨u,rfl,ru⟩:=dJ r;cases ru;exact BD I (.inl ha) λt s' I'=>⟨.int kvs.length,H,I',⟨t,rfl⟩,q⟩
end
def wk:St->St->Prop
 | [],[]=>True
 | none::a,_::b=>wk a b
 | some x::a,y::b=>y=some x/\wk a b
 | _,_=>False
theorem jj:∀{a b:St},wk a b->a.length=b.length
 | [],[],_=>rfl
 | [],_::_,h=>h.elim
 | none::_,[],h=>h.elim
 | some _::_,[],h=>h.elim
 | none::a,_::b,h=>congrArg (·+1) (jj (a:=a) (b:=b) h)
 | some _::a,_::b,h=>congrArg (·+1) (jj (a:=a) (b:=b) h.2)
theorem jk:∀{a b:St},wk a b->∀(i:Nat) (v:V),a[i]?=some (some v)->b[i]?=some (some v)
 | [],[],_,i,v,e=>by simp at e
 | [],_::_,h,_,_,_=>h.elim
 | none::_,[],h,_,_,_=>h.elim
 | some _::_,[],h,_,_,_=>h.elim
 | none::a,y::b,h,0,v,e=>by simp at e
 | none::a,y::b,h,i+1,v,e=>by
  have:=jk (a:=a) (b:=b) h i v (by simpa using e);simpa using this
 | some x::a,y::b,h,0,v,e=>by
  have e':x=v:=by simpa using e
  subst e';rw[h.1];rfl
 | some x::a,y::b,h,i+1,v,e=>by
  have:=jk (a:=a) (b:=b) h.2 i v (by simpa using e);simpa using this
def cz (env:Env):List (Str × NameKind)->List (Str × Addr)->List (Str × Addr)
 | [],acc=>acc
 | (n,k)::r,acc=>cz env r (if (k==.free)=true then (n,(env.cells.lookup n).getD 0)::acc else acc)
theorem iy {env:Env}:∀(ns:List (Str × NameKind)) (acc:List (Str × Addr)),(∀y∈ns,y.2=.free->∃c,env.cells.lookup y.1=some c) ->
  (forIn ns acc (fun x r=>match x with
   | (name,kind)=>if (kind==NameKind.free)=true then (do let c <-cellOf env name;pure (ForInStep.yield ((name,c)::r))) else pure (ForInStep.yield r)):Sem (List (Str × Addr)))=pure (cz env ns acc)
 | [],acc,_=>rfl
 | (n,k)::r,acc,h=>by
  rw[XR];have ih:=λa=>iy (env:=env) r a λy hy=>h y (Qo _ hy);by_cases hk:(k==NameKind.free)=true
  ·obtain⟨c,hc⟩:=h (n,k) Xl (by simpa using hk);have e1:cellOf env n=pure c:=by unfold cellOf;rw[hc]
   simp only[hk,if_true,e1,pure_bind];unfold cz;simp only[hk,if_true,hc,Option.getD_some];exact ih _
  simp only[hk,Xp,pure_bind];unfold cz;simp only[hk,Xp];exact ih _
variable {env:Env} {scope:Scope}
theorem iz (h:∀y∈scope.names,y.2=.free->∃c,env.cells.lookup y.1=some c):closureFor scope env=pure (cz env scope.names []):=by
 have e:=iy scope.names [] h;unfold closureFor
 first
  | (rw[show (forIn scope.names ([]:List (Str × Addr)) _:Sem (List (Str × Addr)))=pure (cz env scope.names []) from e];rfl)
  | (simp only[bind_pure];exact e)
  | exact(congrArg (· >>= pure) e)
theorem fT {env:Env}:∀(ns:List (Str × NameKind)) (acc:List (Str × Addr)) (n:Str) (a:Addr),(n,a)∈cz env ns acc->(n,a)∈acc\/(a=(env.cells.lookup n).getD 0/\(n,NameKind.free)∈ns)
 | [],acc,n,a,h=>.inl h
 | (m,k)::r,acc,n,a,h=>by
  unfold cz at h;by_cases hk:(k==NameKind.free)=true
  ·rw[Qp hk]at h;rcases fT r _ n a h with q|⟨q1,q2⟩
   ·rcases Qw.mp q with q|q
    ·cases q;have hk':k=.free:=by simpa using hk
     subst hk';exact .inr ⟨rfl,Xl⟩
    exact .inl q
   exact .inr ⟨q1,Qo _ q2⟩
  rw[Qn hk]at h;rcases fT r _ n a h with q|⟨q1,q2⟩
  ·exact .inl q
  exact .inr ⟨q1,Qo _ q2⟩
theorem i7 {env:Env}:∀(ns:List (Str × NameKind)) (acc:List (Str × Addr)) (p:Str × Addr),p∈acc->p∈cz env ns acc
 | [],_,_,h=>h
 | (m,k)::r,acc,p,h=>by
  unfold cz;refine i7 r _ p ?_
  split
  ·exact Qo _ h
  exact h
theorem iw {env:Env}:∀(ns:List (Str × NameKind)) (acc:List (Str × Addr)) (n:Str),(n,NameKind.free)∈ns->(n,(env.cells.lookup n).getD 0)∈cz env ns acc
 | [],_,_,h=>nomatch h
 | (m,k)::r,acc,n,h=>by
  unfold cz;rcases Qw.mp h with q|q
  ·cases q;refine i7 r _ _ ?_;rw[Qp (by rfl)];exact Xl
  exact iw r _ n q
theorem dD {α β:Type} [BEq α] [LawfulBEq α]:∀{l:List (α × β)} {x:α} {y:β},l.lookup x=some y->(x,y)∈l
 | [],_,_,h=>by simp at h
 | (a,b)::r,x,y,h=>by
  rw[Xi]at h;by_cases e:(x==a)=true
  ·rw[e]at h;have e':x=a:=by simpa using e
   have h':b=y:=by simpa using h
   subst e' h';exact Xl
  have e2:(x==a)=false:=by simpa using e
  rw[e2]at h;exact Qo _ (dD (by simpa using h))
theorem eh {α β:Type} [BEq α] [LawfulBEq α]:∀{l:List (α × β)} {x:α} {y:β},(x,y)∈l->∃z,l.lookup x=some z
 | [],_,_,h=>nomatch h
 | (a,b)::r,x,y,h=>by
  rw[Xi];by_cases e:(x==a)=true
  ·rw[e];exact⟨b,rfl⟩
  have e2:(x==a)=false:=by simpa using e
  rw[e2];rcases Qw.mp h with q|q
  ·cases q;simp at e
  exact eh q
variable {x:Str} {ns:List (Str × NameKind)}
theorem tq (h:(cz env ns []).lookup x=some c) (hall:∀y∈ns,y.2=.free->∃c,env.cells.lookup y.1=some c):env.cells.lookup x=some c:=by
 rcases fT ns [] x c (dD h) with q|⟨q1,q2⟩
 ·nomatch q
 obtain⟨c',hc⟩:=hall _ q2 rfl;have hc':env.cells.lookup x=some c':=hc;rw[hc']at q1;rw[hc',q1];rfl
theorem oS {env:Env} (h:(x,NameKind.free)∈ns):∃c,(cz env ns []).lookup x=some c:=eh (iw ns [] x h)
noncomputable def Cx.block (X:Cx) (N:List Str) (scope:Scope) (C:Addr) (s:Shared) (H:Hp) (fp:D4):Cx :=
 { X with N:=N,s₀:=s,H₀:=H,env:=compEnvC scope (cz X.env scope.names []) C X.env,outer:=X.stack,ex:=fp,fn:=λ_=>false,pn:=[],xe:=λ_ _=>False }
theorem jy {k:NameKind} (h:(relabel scope env).names.lookup x=some k):∃k',scope.names.lookup x=some k'/\(k=k'\/(k'=.free/\k=.cell)):=by
 unfold relabel at h;generalize scope.names=ns at h
 induction ns with
 | nil=>simp at h
 | cons p r ih =>
 obtain⟨n,k0⟩:=p;rw[Qu]at h;by_cases e:(x==n)=true
 ·refine⟨k0,by rw[Xi,e],?_⟩;by_cases c:(k0==NameKind.free&&env.scope.kind==.function&&env.kindOf n==some .cell)=true
  ·have h1:some NameKind.cell=some k:=by
    have h2:=h;simp only[c,if_true]at h2;rw[Xi,e]at h2;exact h2
   have h3:k0=.free:=by
    simp only[Xq,beq_iff_eq]at c;exact c.1.1
   exact .inr ⟨h3,(QN h1).symm⟩
  have h1:some k0=some k:=by
   have h2:=h;simp only[c,QB,Xp]at h2;rw[Xi,e]at h2;exact h2
  exact .inl (QN h1).symm
 have e2:(x==n)=false:=by simpa using e
 rw[Xi,e2];refine ih ?_;by_cases c:(k0==NameKind.free&&env.scope.kind==.function&&env.kindOf n==some .cell)=true
 ·have h2:=h;simp only[c,if_true]at h2;rw[Xi,e2]at h2;exact h2
 have h2:=h;simp only[c,QB,Xp]at h2;rw[Xi,e2]at h2;exact h2
theorem jz (h:scope.names.lookup x=some .free):(relabel scope env).names.lookup x=some .cell\/(relabel scope env).names.lookup x=some .free:=by
 unfold relabel;show List.lookup x (scope.names.map _)=_\/List.lookup x (scope.names.map _)=_;generalize scope.names=ns at h
 induction ns with
 | nil=>simp at h
 | cons p r ih =>
 obtain⟨n,k0⟩:=p;rw[Qu];by_cases e:(x==n)=true
 ·rw[Xi,e]at h;have h':k0=.free:=by simpa using h
  subst h';by_cases c:(NameKind.free==NameKind.free&&env.scope.kind==.function&&env.kindOf n==some .cell)=true
  ·left
   simp only[c,if_true];rw[Xi,e]
  right
  simp only[c,QB,Xp];rw[Xi,e]
 have e2:(x==n)=false:=by simpa using e
 rw[Xi,e2]at h;have h3:=ih h;by_cases c:(k0==NameKind.free&&env.scope.kind==.function&&env.kindOf n==some .cell)=true
 ·simp only[c,if_true];rw[Xi,e2];exact h3
 simp only[c,QB,Xp];rw[Xi,e2];exact h3
def u7 (X:Cx) (ifs:List Expr) (t:TT):Prop :=
 ∀(pins:D0) (s:Shared) (O:St) (H:Hp) (Q:Bool->Hp->Prop),Inv X pins O H s->t O H Q ->
  wpAny (model X.prog X.w) X.A (forIn ifs true λc r=>if r=true then do let ok <-isTrue c X.env (eval c X.env);pure (ForInStep.yield ok) else pure (ForInStep.yield r)) (TP X pins O Q) X.xe s
def tT:TT:=λ_ H Q=>Q true H
theorem gQ:u7 X [] tT:=λ_ _ _ H _ I h=>wpAny_tests_nil ⟨H,I,h⟩
theorem eZ {c:Expr} {t:TT} (h:PT X c t):u7 X [c] t:=λpins s O H Q I hw=>wpAny_tests_one (h pins s O H Q I hw)
theorem fk {prog:Program} {w:World} {A:Around} {R:Result->Shared->Prop} {s:Shared} {elt target iter:Expr} {ifs:List Expr} {pos:Pos} {it acc:Value} (I:Nat->Shared->Prop)
  (turn:∀n s,I n s->wpAny (model prog w) A (pyNext it) (fun r s1=>match r with
   | none=>R (.ok .next) s1
   | some v=>wpAny (model prog w) A (letOwnedTupleGo target it v) (λ_ s2=>wpAny (model prog w) A (assign target env v) (λ_ s3 =>
     wpAny (model prog w) A (forIn ifs true λc r=>if r=true then do let ok <-isTrue c env (eval c env);pure (ForInStep.yield ok) else pure (ForInStep.yield r)) (λok s4 =>
      if ok=true then wpAny (model prog w) A (eval elt env) (λx s5 =>
       wpAny (model prog w) A (call (.builtin "list.append") [acc,x]) (λ_ s6=>∃m,m<n/\I m s6) (λ_ _=>False) s5) (λ_ _=>False) s4
      else ∃m,m<n/\I m s4) (λ_ _=>False) s3) (λ_ _=>False) s2) (λ_ _=>False) s1) (λ_ _=>False) s)
  (n:Nat) (h:I n s):codeAny (model prog w) A (.compLoop (.ListComp elt [⟨target,iter,ifs,0⟩] scope pos) 0 it acc env) R s:=by
 refine codeAny_loop rfl I (λn s hI=>?_) n h;show wpAny _ A ((compTurn (.ListComp elt [⟨target,iter,ifs,0⟩] scope pos) 0 it acc env).onRaise (λx=>do noteFrame x env;theTreesLotGoes x)) _ _ s;refine wpAny_noted ?_;rw[compTurn_list];have no:∀{E:C9},∀e s',(λ(_:Value) (_:Shared)=>False) e s'->E e s':=λ_ _ z=>False.elim z;refine Qa (wpAny_standAt (Qa (Xm (turn n s hI) (λr s1 h1=>?_) no)))
 cases r with
 | none=>exact Qe h1
 | some v =>
 refine Qa (Xm h1 (λ_ s2 h2=>?_) no);refine Qa (Xm h2 (λ_ s3 h3=>Qa (Xm h3 (λok s4 h4=>?_) no)) no)
 cases ok with
 | false=>exact Qe ⟨rfl,h4⟩
 | true =>
 exact Qa (Qa (Xm h4 (λx s5 h5=>Qa (Xm h5 (λ_ s6 h6=>Qe (Qe ⟨rfl,h6⟩)) no)) no))
def bv (tgs:List Str) (cap:List (Str × Nat)) (O:St):St:=tgs.map (λ_=>none)++cap.map λc=>(O[c.2]?).join
def km (wi:TI) (g:TG) (tt:TT) (te:TE) (f:St->St):TE:=λO H Q=>wi O H λJ H1=>∀D,H1 D=none->∃W:Nat->Nat->Hp->List V->Prop,(∃m,W 0 m (upd H1 D (.lst [])) []) /\
 ∀i m H ys,W i m H ys->H D=some (.lst ys)/\((J.stop i H/\Q (.ref D) H)\/(J.go i H/\∀x H',J.yld i H x H'->g x (f O) H' λσ2 H2=>wk (f O) σ2/\tt σ2 H2 λb H3 =>
  if b=true then te σ2 H3 λv H4=>H4 D=some (.lst ys)/\ys.length<sizeLine/\∃m',m'<m/\W (i+1) m' (upd H4 D (.lst (ys++[v]))) (ys++[v])
  else ∃m',m'<m/\W (i+1) m' H3 ys))
structure BlockOk (X:Cx) (scope:Scope) (tgs:List Str) (cap:List (Str × Nat)):Prop where
 kind:scope.kind=.function
 nocell:(scope.names.all λy=>!(y.2==NameKind.cell))=true
 names:(scope.names.all λy=>!(y.2==NameKind.local) || (scope.names.lookup y.1==some .local))=true
 free:(scope.names.all λy=>!(y.2==NameKind.free) || (X.env.scope.names.lookup y.1==some .cell) || (X.env.scope.names.lookup y.1==some .free))=true
 caps:(cap.all λc=>decide (X.N[c.2]?=some c.1)&&(scope.names.lookup c.1==some .free)&&(decide (X.env.scope.names.lookup c.1=some .cell) || decide (X.env.scope.names.lookup c.1=some .free)))=true
 tgl:(tgs.all λx=>(scope.names.lookup x==some .local))=true
section
variable {X:Cx} {scope:Scope} {tgs:List Str} {cap:List (Str × Nat)}
theorem BlockOk.cellAt (B:BlockOk X scope tgs cap) (ok:X.Ok):∀y∈scope.names,y.2=.free->∃c,X.env.cells.lookup y.1=some c:=λy hy hk=>by
 have q:=XS.mp B.free y hy;rw[hk]at q;refine ok.has y.1 ?_;simp only[beq_self_eq_true,Bool.not_true,Bool.false_or,Bool.or_eq_true,beq_iff_eq]at q;exact q
theorem BlockOk.noc (B:BlockOk X scope tgs cap):∀y∈scope.names,y.2≠.cell:=λy hy hk=>by
 have q:=XS.mp B.nocell y hy;rw[hk]at q;simp at q
theorem BlockOk.locs (B:BlockOk X scope tgs cap):∀y∈scope.names,y.2=.local->scope.names.lookup y.1=some .local:=λy hy hk=>by
 have q:=XS.mp B.names y hy;rw[hk]at q;simpa using q
variable {pins:D0}
theorem Inv.enter {O:St} {H:Hp} {s:Shared} {h1:Heap} {tk:Nat} {fp:D4} (B:BlockOk X scope tgs cap) (I:Inv X pins O H s) (hfp:∀b∈fp,dR X pins H b) (hlt:∀b∈fp,b<s.heap.objs.size)
  (hns:h1.Ns s.heap.objs.size (λ_=>none)) (old:∀b o,s.heap.get? b=some o->h1.get? b=some o) :
  Inv (X.block (tgs++cap.map (·.1)) scope s.heap.objs.size s H fp) [] (bv tgs cap O) H { s with heap:=h1,toks:=tk }:=by
 have cellsIn:∀x c,(cz X.env scope.names []).lookup x=some c->X.env.cells.lookup x=some c:=λx c e=>tq e (B.cellAt I.ok)
 have kindIn:∀x,((relabel scope X.env).names.lookup x=some .cell\/(relabel scope X.env).names.lookup x=some .free)->(x,NameKind.free)∈scope.names:=λx hx=>by
  have go:∀k,(relabel scope X.env).names.lookup x=some k->(k=.cell\/k=.free)->(x,NameKind.free)∈scope.names:=λk hk hc=>by
   obtain⟨k',e1,e2⟩:=jy hk;have m:=dD e1;rcases e2 with e2|⟨e2,_⟩
   ·subst e2;rcases hc with z|z
    ·exact absurd z (B.noc _ m)
    subst z;exact m
   subst e2;exact m
  rcases hx with h|h
  ·exact go _ h (.inl rfl)
  exact go _ h (.inr rfl)
 have nocl:∀x c,X.env.cells.lookup x=some c->c≠s.heap.objs.size:=λx c e=>by
  obtain⟨v,q⟩:=I.cell x c e;exact QM q.lt
 refine⟨⟨I.ok.mod,?_,I.ok.glob,I.ok.blt,Qi _,λx y c e1 e2=>I.ok.inj x y c (cellsIn x c e1) (cellsIn y c e2),λx hx=>?_,λx c hf _=>absurd (show false=true from hf) Qk,I.ok.hd,I.ok.frames,.inl rfl,
  λb hb=>⟨QM (hlt b hb),λx c e=>?_⟩,I.bs,QR I.ok.bsz I.sz,λb o e hb=>?_,λb hb hf=>?_,I.stack,I.stkFree⟩,
  rfl,I.bare,Un.kept old,⟨_,hns,λi x v h2 h3 h4=>?_⟩,λx c e=>?_,?_,λx c e=>I.freeC x c (cellsIn x c e),λp hp=>absurd (show p∈([]:D0) from hp) (by simp),I.hok.kept old,?_⟩
 ·exact B.kind
 ·exact oS (kindIn x hx)
 ·exact(hfp b hb).2.2.2.2.1 x c (cellsIn x c e)
 ·-- no object of the base is an iterator of ours
  rcases(hfp b hb).2.2.2.1 with z|z
  ·exact I.ok.noex b o e z
  have q:=I.ok.bs b o e;exact absurd (QS (Qm q.1) z) (Nat.lt_irrefl _)
 ·have hf':b∈frs X.stack:=hf;rcases Qw.mp (I.stkSub b hf') with z|z
  ·exact(hfp b hb).2.1 z
  exact(hfp b hb).2.2.1 z
 ·-- a name that is known: one of the captured ones
  have hi:tgs.length<=i:=by
   by_cases hl:i<tgs.length
   ·exfalso;unfold bv at h3;rw[Xd (by simpa using hl),Qy]at h3
    cases e:tgs[i]? with
    | none=>rw[e]at h3;cases h3
    | some z=>rw[e]at h3;cases h3
   exact om2 hl
  unfold bv at h3;rw[QZ (by simpa using hi),Qb,Qy]at h3;have h2':(tgs++cap.map (·.1))[i]?=some x:=h2;rw[QZ hi,Qy]at h2'
  cases e:cap[i-tgs.length]? with
  | none=>rw[e]at h2';cases h2'
  | some c =>
  rw[e]at h2' h3;have hx:c.1=x:=by simpa using h2'
  have hv:(O[c.2]?).join=some v:=by simpa using h3
  have hm:c∈cap:=QC e;have q:=XS.mp B.caps c hm;simp only[Xq,decide_eq_true_eq,beq_iff_eq,Bool.or_eq_true]at q;obtain⟨⟨q1,q2⟩,q3⟩:=q
  have hσ:O[c.2]?=some (some v):=by
   cases z:O[c.2]? with
   | none=>rw[z]at hv;cases hv
   | some o =>
   rw[z]at hv;have:o=some v:=by simpa using hv
   rw[this]
  obtain⟨m,_,hl⟩:=I.loc
  obtain⟨u,r,l⟩:=hl c.2 c.1 v q1 hσ (by
   rcases q3 with z|z
   ·exact .inr (.inl z)
   exact .inr (.inr z))
  subst hx;refine⟨u,r,.inr ⟨jz q2,?_⟩⟩
  have nl:¬X.env.kindOf c.1=some .local:=λz=>by
   rcases q3 with y|y
   ·have:X.env.kindOf c.1=some .cell:=y;rw[this]at z;cases z
   have:X.env.kindOf c.1=some .free:=y;rw[this]at z;cases z
  rcases l with⟨l1,_⟩|⟨_,d,l2,l3⟩
  ·exact absurd l1 nl
  obtain⟨d',e'⟩:=oS (env:=X.env) (dD q2);have:d=d':=QN (l2.symm.trans (cellsIn _ _ e'));subst this;obtain⟨oc,ho,hd⟩:=l3;exact⟨d,e',oc,old d oc ho,hd⟩
 ·obtain⟨v,oc,ho,hd⟩:=I.cell x c (cellsIn x c e);exact⟨v,oc,old c oc ho,hd⟩
 ·exact I.hok.fresh (Qi _)
 unfold bv;show _=(tgs++cap.map (·.1)).length;simp
theorem Inv.leave {O σ':St} {H H':Hp} {s s':Shared} {h2:Heap} {fp:D4} {N:List Str} (I:Inv X pins O H s) (hfp:∀b∈fp,dR X pins H b)
  (J:Inv (X.block N scope s.heap.objs.size s H fp) [] σ' H' s') (hs:Heap.SameBut s.heap.objs.size s'.heap h2):Inv X pins O H' { s' with heap:=h2 }:=by
 have u:Un (frs X.stack) fp H H' s.heap s'.heap:=J.base;have ne:∀b o,s.heap.get? b=some o->b≠s.heap.objs.size:=λb o e=>QM (Qm e);have hf:H' s.heap.objs.size=none:=J.free;have k:∀b o,b≠s.heap.objs.size->s'.heap.get? b=some o->h2.get? b=some o:=λb o hb e=>(hs.2 b hb).trans e
 have u2:Un (frs X.stack) fp H H' s.heap h2 :=
  ⟨λb o e n h1 h3=>k b o (ne b o e) (u.keep b o e n h1 h3),λb o e n h1 h3=>let ⟨sl,q⟩:=u.slot b o e n h1 h3;⟨sl,k b _ (ne b o e) q⟩,u.free,λb o e h3=>let ⟨o',q⟩:=u.there b o e h3;⟨o',k b o' (ne b o e) q⟩,u.tups,u.frzs,u.tbls⟩
 have hok:HOk X.prog X.w H' h2:=λb ob e=>(J.hok b ob e).stay (λc v hc q=>k c v (by
  rcases hc with z|z
  ·subst z;intro y;rw[y,hf]at e;cases e
  intro y
  rw[y,hf]at z;cases z) q) (λ_ q=>q) λ_ _ q=>q
 exact Inv.call' I (s':={ s' with heap:=h2 }) J.os u2 hok J.bare λb hb=>by
  obtain⟨f0,f1,f2,f3,f4,f5⟩:=hfp b hb;exact⟨f3,f1,f4,f5⟩
theorem rD {elt tg iter:Expr} {ifs:List Expr} {pos:Pos} {wi:TI} {g:TG} {tt:TT} {te:TE} (hc:X.calm=true) (B:BlockOk X scope tgs cap) (hi:PI X tg iter wi)
  (hg:∀C s H fp,PG (X.block (tgs++cap.map (·.1)) scope C s H fp) tg g) (ht:∀C s H fp,u7 (X.block (tgs++cap.map (·.1)) scope C s H fp) ifs tt) (he:∀C s H fp,PE (X.block (tgs++cap.map (·.1)) scope C s H fp) elt te)
  (hs:∀x,foldedSetIterable iter X.env x=pure x:=by intro _;rfl):PE X (.ListComp elt [⟨tg,iter,ifs,0⟩] scope pos) (km wi g tt te (bv tgs cap)):=by
 intro pins s O H Q I h;rw[eval_ListComp];refine wpAny_comprehension_free (use:=none) rfl hs (iz (B.cellAt I.ok)) B.kind B.locs (thn (hi pins s O H _ I h) λv s1 h1=>thn h1 λitv s2 h2=>?_);obtain⟨it,fp,tn,J,H2,e,I2,T,st2,f2,q⟩:=h2;subst e;have lt2:∀b∈fp,b<s2.heap.objs.size:=λb hb=>let ⟨o,e,_⟩:=T.obj _ _ st2 b hb;Qm e;have hD:H2 s2.heap.objs.size=none:=I2.hok.fresh (Qi _);obtain⟨W,⟨m0,w0⟩,turn⟩:=q s2.heap.objs.size hD;refine wpAny_newObj_type ?_;have I3:Inv X pins O (upd H2 s2.heap.objs.size (.lst [])) { s2 with heap:=s2.heap.push { cls:=.type "list", dict:=none,data:=.seq ([]:List Value).toArray } }:=I2.lnew (t':=s2.toks) (ys:=[]) (its:=[]) .nil (Q0 _);have st3:tn 0 (s2.heap.push { cls:=.type "list", dict:=none,data:=.seq ([]:List Value).toArray }):=T.keep _ _ _ st2 λb _ o e=>Qc _ e;have nD:∀b∈fp,b≠s2.heap.objs.size:=λb hb=>QM (lt2 b hb);have f3:∀b∈fp,dR X pins (upd H2 s2.heap.objs.size (.lst [])) b:=λb hb=>⟨by rw[am (nD b hb)];exact(f2 b hb).1,(f2 b hb).2⟩;generalize hs3:({ s2 with heap:=s2.heap.push { cls:=.type "list", dict:=none,data:=.seq ([]:List Value).toArray } }:Shared)=s3 at I3 st3 ⊢;have st3':tn 0 s3.heap:=by rw[<-hs3];exact st3
 have lt3:∀b∈fp,b<s3.heap.objs.size:=λb hb=>let ⟨o,e,_⟩:=T.obj _ _ st3' b hb;Qm e;generalize hH3:upd H2 s2.heap.objs.size (.lst [])=H3 at I3 f3 w0;generalize s2.heap.objs.size=D at *;refine wpAny_newFunctionEnv B.noc (by intro y hy;simp at hy) (λh1 hns hsb=>?_) B.kind;have old:∀b o,s3.heap.get? b=some o->h1.get? b=some o:=λb o e=>hsb.extBut b o (QM (Qm e)) (Qc _ e);have I4:=Inv.enter (tk:=s3.toks+([]:List (Str × Value)).length) (h1:=h1) B I3 f3 lt3 hns old;have st4:tn 0 h1:=T.keep _ _ _ st3' λb _ o e=>old b o e
 have fpB:∀{H':Hp},(∀b∈fp,H' b=none)->∀b∈fp,dR (X.block (tgs++cap.map (·.1)) scope s3.heap.objs.size s3 H3 fp) [] H' b:=λ{H'} hn b hb =>
  ⟨hn b hb,QM (lt3 b hb),I4.ok.exfs b hb,.inl hb,λx c e=>(I4.ok.exf b hb).2 x c e,λp hp=>absurd (show p∈([]:D0) from hp) (by simp)⟩
 have loop:codeAny (model X.prog X.w) X.A (.compLoop (.ListComp elt [⟨tg,iter,ifs,0⟩] scope pos) 0 (.ref it) (.ref D) (compEnvC scope (cz X.env scope.names []) s3.heap.objs.size X.env))
   (compPost (model X.prog X.w) X.A X.xe none (EP X pins O Q) (.ref D) s3.heap.objs.size) { s3 with heap:=h1,toks:=s3.toks+([]:List (Str × Value)).length }:=by
  refine fk (λn s'=>∃i H' ys,Inv (X.block (tgs++cap.map (·.1)) scope s3.heap.objs.size s3 H3 fp) [] (bv tgs cap O) H' s'/\tn i s'.heap/\(∀b∈fp,H' b=none)/\W i n H' ys) ?_ m0 ⟨0,H3,[],I4,st4,λb hb=>(f3 b hb).1,w0⟩;rintro n s5 ⟨i,H5,ys,I5,st5,fr5,w5⟩;obtain⟨hl,ht5⟩:=turn i n H5 ys w5;rcases ht5 with⟨stop,qd⟩|⟨go,step⟩
  ·refine thn (T.done (X.block (tgs++cap.map (·.1)) scope s3.heap.objs.size s3 H3 fp) rfl rfl rfl hc i [] s5 _ H5 _ I5 (fpB fr5) st5 stop) λr s6 ⟨hr,I6⟩=>?_;subst hr;obtain⟨m6,n6,_⟩:=I6.loc;exact⟨m6,n6,λh' hs'=>⟨.ref D,H5,Inv.leave I3 f3 I6 hs',rfl,qd⟩⟩
  refine thn (T.item (X.block (tgs++cap.map (·.1)) scope s3.heap.objs.size s3 H3 fp) rfl rfl rfl hc i [] s5 _ H5 _ I5 (fpB fr5) st5 go) λr s6 ⟨u,hr,h6⟩=>?_;subst hr;refine thn h6 λ_ s7 ⟨x,H7,I7,r7,y7,st7,fr7⟩=>?_;have I7':=I7.pinned (fpB fr7) (T.obj _ _ st7)
  have again:∀{σ8:St} {H8:Hp} {s8:Shared} {ys8:List V},Inv (X.block (tgs++cap.map (·.1)) scope s3.heap.objs.size s3 H3 fp) ([]++fJ fp s7.heap) σ8 H8 s8->wk (bv tgs cap O) σ8->(∃m',m'<n/\W (i+1) m' H8 ys8) ->
    ∃m,m<n/\∃i H' ys,Inv (X.block (tgs++cap.map (·.1)) scope s3.heap.objs.size s3 H3 fp) [] (bv tgs cap O) H' s8/\tn i s8.heap/\(∀b∈fp,H' b=none)/\W i m H' ys:=λ{σ8 H8 s8 ys8} I8 k8 ⟨m',hm,w8⟩=>by
   refine⟨m',hm,i+1,H8,ys8,I8.unpinned.weak (jj k8) (jk k8),T.keep _ _ _ st7 λb hb o e=>(I8.pin (b,o) (QJ _ (QJ _ (cC hb e)))).1,λb hb=>?_,w8⟩;obtain⟨o,e,d⟩:=T.obj _ _ st7 b hb;exact(I8.pin (b,o) (QJ _ (QJ _ (cC hb e)))).2.1
  refine thn (hg _ _ _ _ _ s7 _ H7 x u _ I7' r7 (step x H7 y7)) λ_ s8 ⟨σ8,H8,I8,k8,q8⟩=>?_;refine thn (ht _ _ _ _ _ s8 σ8 H8 _ I8 q8) λok s9 ⟨H9,I9,q9⟩=>?_
  cases ok with
  | false =>
   rw[Qn Qk]at q9 ⊢;exact again I9 k8 q9
  | true =>
  rw[Qp rfl]at q9 ⊢;refine thn (he _ _ _ _ _ s9 σ8 H9 _ I9 q9) λy sA ⟨yv,HA,IA,rA,hA,zA,qA⟩=>?_;exact thn (bL _ sA σ8 HA (.ref D) [yv] (.ref D) [y] (λv H'=>v=.non/\∃m',m'<n/\W (i+1) m' H' (ys++[yv])) IA rfl (.cons rA .nil) ⟨D,ys,yv,rfl,rfl,hA,zA,rfl,qA⟩) λ_ sB ⟨_,HB,IB,_,_,qB⟩=>again IB k8 qB
 exact codeAny_compStart_list loop (T.self _ 0 _ _ _ st4 loop)
theorem iT {X:Cx} {scope:Scope} {elt iter:Expr} {p pos:Pos} {wi:TI} {te:TE} (x:Str) (cap:List (Str × Nat)) (hi:PI X (.Name x p) iter wi) (he:∀C s H fp,PE (X.block ([x]++cap.map (·.1)) scope C s H fp) elt te) (hc:X.calm=true:=by rfl) (B:BlockOk X scope [x] cap:=by exact⟨rfl,rfl,rfl,rfl,rfl,rfl⟩) (hN:([x]++cap.map (·.1)).Nodup:=by decide +kernel) (hg:([x]++cap.map (·.1)).Nodup->∀C s H fp,PG (X.block ([x]++cap.map (·.1)) scope C s H fp) (.Name x p) (dH 0):=by intro h _ _ _ _;exact bK (i:=0) h rfl (by z_go)) (hs:∀x,foldedSetIterable iter X.env x=pure x:=by intro _;rfl):PE X (.ListComp elt [⟨.Name x p,iter,[],0⟩] scope pos) (km wi (dH 0) tT te (bv [x] cap)):=rD hc B hi (hg hN) (λ_ _ _ _=>gQ) he hs
end
def Itf (n:Nat) (f:Nat->V):It:=⟨λi _=>i<n,λi H x H'=>H'=H/\x=f i,λi _=>i=n⟩
def dM (z:Str) (i:Nat):V:=.str ⟨#[z.cps.getD i 0]⟩
section
variable {X:Cx} {x:Str} {px:Pos}
def CL (tl:TE):TI:=λO H R=>tl O H λv H1=>∃z:Str,v=.str z/\R (Itf z.cps.size (dM z)) H1
end
section
variable {X:Cx}
def yg:V->Option Int->Option Int->Hp->VK->Prop:=λx lo hi H Q=>∃z:Str,x=.str z/\z.length<=sizeLine/\Q (.str (Txt.slice z lo hi)) H
theorem fG:SlR X yg:=by
 intro pins s O H x v vl vu lo hi sl Q I rx hs pl pu h;obtain⟨z,e,hz,q⟩:=h;subst e;obtain⟨t,e⟩:=rx;subst e;refine⟨"str", _,F.slot_str_getitem.lookup,typeIs_str _ _ _,?_⟩;have fin:∀(t':Tok) (k:Nat),EP X pins O Q (.str (Txt.slice z lo hi) t') { s with toks:=k }:=λt' k=>⟨.str _,H,I.tok k,⟨t',rfl⟩,q⟩
 cases pl with
 | none =>
  cases pu with
  | none=>exact wpAny_getItem_str_slice (l:=none) (u:=none) (st:=none) hs rfl (post_val_or_str ⟨QR (Txt.slice_le z _ _) hz,fin⟩)
  | int j uj=>exact wpAny_getItem_str_slice (l:=none) (u:=some (j,uj)) (st:=none) hs rfl (post_val_or_str ⟨QR (Txt.slice_le z _ _) hz,fin⟩)
 | int i ui =>
 cases pu with
 | none=>exact wpAny_getItem_str_slice (l:=some (i,ui)) (u:=none) (st:=none) hs rfl (post_val_or_str ⟨QR (Txt.slice_le z _ _) hz,fin⟩)
 | int j uj=>exact wpAny_getItem_str_slice (l:=some (i,ui)) (u:=some (j,uj)) (st:=none) hs rfl (post_val_or_str ⟨QR (Txt.slice_le z _ _) hz,fin⟩)
theorem eD:∀{ys:List Str} {us:List Value},aJ (ys.map V.str) us->StrsAre us ys
 | [],_,r=>by
  rw[List.map_nil]at r;cases r;exact .nil
 | y::ys,_,r=>by
  rw[Qu]at r
  cases r with
  | cons r1 r2 =>
  obtain⟨t,e⟩:=r1;subst e;exact .cons y t (eD r2)
def vq (K:PySem.W.Frag):V->List V->Hp->VK->Prop:=λx vs H Q=>∃(z:Str) (l:Addr) (ys:List Str),x=.str z/\vs=[.ref l]/\SqL K H l (ys.map V.str)/\(ys.map (·.length)).sum+ys.length*z.length<=16777216/\Q (.str (Txt.join z ys)) H
theorem ou:MtR X "str.join" (vq X.K):=by
 intro pins s O H x vs v us Q I rx rv h;obtain⟨z,l,ys,e1,e2,hl,hz,q⟩:=h;subst e1 e2;obtain⟨t,e⟩:=rx;subst e;obtain⟨u,e,ru⟩:=rv.one;subst e;cases ru;obtain⟨its,r,pl,_⟩:=I.list hl;exact join_list pl.isList (by simpa using eD r) hz λt' k=>⟨.str _,H,I.tok k,⟨t',rfl⟩,q⟩
theorem i0 (ys:List Str):(Txt.join Str.empty ys).cps.toList=(ys.map (·.cps.toList)).flatten:=by
 unfold Txt.join;rw[PySem.StrLaws.glued_eq_join]
 induction ys with
 | nil=>rfl
 | cons y r ih =>
 cases r with
 | nil=>simp[Str.join]
 | cons y2 r2 =>
 show (y++Str.empty++Str.join Str.empty (y2::r2)).cps.toList=_;rw[Qu,List.flatten_cons,<-ih];show (y.cps++Str.empty.cps++(Str.join Str.empty (y2::r2)).cps).toList=_;simp[Str.empty]
end
inductive EqD (K:PySem.W.Frag) (H:Hp):Nat->V->V->Bool->Prop
 | flat {n:Nat} {x y:V}:dQ x=true->dQ y=true->EqD K H n x y (eqV x y)
 | same {n:Nat} {a:Addr}:EqD K H n (.ref a) (.ref a) true
 | lists {n:Nat} {a b:Addr} {xs ys:List V} {e:Nat->Bool}:SqL K H a xs->SqL K H b ys->xs.length=ys.length->(∀(j:Nat) x y,xs[j]?=some x->ys[j]?=some y->EqD K H n x y (e j))->a≠b ->
   EqD K H (n+1) (.ref a) (.ref b) ((List.range xs.length).all e)
 | tups {n:Nat} {a b:Addr} {xs ys:List V} {e:Nat->Bool}:SqT K H a xs->SqT K H b ys->(∀(j:Nat) x y,xs[j]?=some x->ys[j]?=some y->EqD K H n x y (e j))->a≠b ->
   EqD K H (n+1) (.ref a) (.ref b) ((List.range (min xs.length ys.length)).all e&&xs.length==ys.length)
theorem EqD.at {X:Cx} {pins:D0} {O:St} {H:Hp} {s:Shared} (I:Inv X pins O H s) {n:Nat} {x y:V} {b:Bool} (h:EqD X.K H n x y b) :
  ∀{A:Around} {u v:Value},A.units+n<cLine->aR x u->aR y v->SeqAt.EqAt A s u v b:=by
 induction h with
 | flat fx fy=>intro A u v _ rx ry;exact sW rx ry fx fy
 | same =>
  intro A u v _ rx ry;cases rx;cases ry;exact SeqAt.EqAt.same _
 | @lists n a c xs ys e ha hb hl hi hne ih =>
  intro A u v hu rx ry;cases rx;cases ry;obtain⟨its,r1,p1,_⟩:=I.list ha;obtain⟨its2,r2,p2,_⟩:=I.list hb;have l1:=r1.length;have l2:=r2.length;refine SeqAt.EqAt.of_refs hne ?_
  have q:=SeqAt.RcAt.lists (A:=A) (e:=e) p1.isList p2.isList (by rw[Ql,Ql];exact om7 hl l1 l2) (by exact om8 hu) λj h1 h2=>by
   rw[Ql]at h1 h2;have e1:xs[j]?=some xs[j]:=Qd (by exact om9 hl l1 l2 h1);have e2:ys[j]?=some ys[j]:=Qd (by exact CG hl l1 l2 h1);obtain⟨w1,g1,rr1⟩:=r1.get e1;obtain⟨w2,g2,rr2⟩:=r2.get e2
   have g1':its.toArray[j]=w1:=by
    have:=(Qf.mp g1).2;simpa using this
   have g2':its2.toArray[j]=w2:=by
    have:=(Qf.mp g2).2;simpa using this
   rw[g1',g2'];exact ih j _ _ e1 e2 (by show A.units+1+n<cLine;exact Bb hu) rr1 rr2
  rw[Ql,<-l1]at q;exact q
 | @tups n a c xs ys e ha hb hi hne ih =>
 intro A u v hu rx ry;cases rx;cases ry;obtain⟨its,r1,p1,_⟩:=I.tuple ha;obtain⟨its2,r2,p2,_⟩:=I.tuple hb;have l1:=r1.length;have l2:=r2.length;refine SeqAt.EqAt.of_refs hne ?_
 have q:=SeqAt.RcAt.tuples (A:=A) (e:=e) (show s.heap.IsTuple a its.toArray from p1) (show s.heap.IsTuple c its2.toArray from p2) (by exact om8 hu) λj h1 h2=>by
  rw[Ql]at h1 h2;have e1:xs[j]?=some xs[j]:=Qd (by exact uu l1 h1);have e2:ys[j]?=some ys[j]:=Qd (by exact uu l2 h2);obtain⟨w1,g1,rr1⟩:=r1.get e1;obtain⟨w2,g2,rr2⟩:=r2.get e2
  have g1':its.toArray[j]=w1:=by
   have:=(Qf.mp g1).2;simpa using this
  have g2':its2.toArray[j]=w2:=by
   have:=(Qf.mp g2).2;simpa using this
  rw[g1',g2'];exact ih j _ _ e1 e2 (by show A.units+1+n<cLine;exact Bb hu) rr1 rr2
 rw[Ql,Ql,<-l1,<-l2]at q;exact q
section
variable {X:Cx}
theorem EqD.items {pins:D0} {O:St} {H:Hp} {s:Shared} (I:Inv X pins O H s) {n:Nat} {A:Around} (hu:A.units+1+n<cLine) {xs ys:List V} {its its2:List Value} (r1:aJ xs its) (r2:aJ ys its2) {e:Nat->Bool}
  (h:∀(j:Nat) x y,xs[j]?=some x->ys[j]?=some y->EqD X.K H n x y (e j)) (j:Nat) (h1:j<its.toArray.size) (h2:j<its2.toArray.size):SeqAt.EqAt A.in1 s its.toArray[j] its2.toArray[j] (e j):=by
 have l1:=r1.length;have l2:=r2.length;rw[Ql]at h1 h2;have e1:xs[j]?=some xs[j]:=Qd (by exact AX h1 l1);have e2:ys[j]?=some ys[j]:=Qd (by exact AX h2 l2);obtain⟨w1,g1,rr1⟩:=r1.get e1;obtain⟨w2,g2,rr2⟩:=r2.get e2
 have g1':its.toArray[j]=w1:=by
  have:=(Qf.mp g1).2;simpa using this
 have g2':its2.toArray[j]=w2:=by
  have:=(Qf.mp g2).2;simpa using this
 rw[g1',g2'];exact EqD.at I (h j _ _ e1 e2) (by show A.units+1+n<cLine;exact hu) rr1 rr2
def t_ (K:PySem.W.Frag) (neg:Bool):R2:=λx y H Q=>∃a b xs ys e,x=.ref a/\y=.ref b/\SqL K H a xs/\SqL K H b ys/\(∀(j:Nat) x y,xs[j]?=some x->ys[j]?=some y->EqD K H 8 x y (e j)) /\
 Q (.bl (if neg then !(xs.length==ys.length&&(List.range xs.length).all e) else (xs.length==ys.length&&(List.range xs.length).all e))) H
theorem wW (hu:X.A.units+64<cLine):OpR X (compareOp .Eq) (t_ X.K false):=by
 intro pins s O H x y v u Q I rx ry h;obtain⟨a,b,xs,ys,e,e1,e2,ha,hb,hi,q⟩:=h;subst e1 e2;cases rx;cases ry;obtain⟨its,r1,p1,_⟩:=I.list ha;obtain⟨its2,r2,p2,_⟩:=I.list hb;have l1:=r1.length;have l2:=r2.length;by_cases hl:xs.length=ys.length
 ·refine SeqAt.eq_listAt (e:=e) p1.isList p2.isList (by rw[Ql,Ql];exact AL l1 l2 hl) (by exact ut hu) (EqD.items I (by exact Aw hu) r1 r2 hi) ⟨.bl _,H,I,rfl,?_⟩;rw[Ql,<-l1];have:(xs.length==ys.length)=true:=by simpa using hl
  rw[this]at q;exact q
 refine SeqAt.eq_list_lengthsAt p1.isList p2.isList (by rw[Ql,Ql,<-l1,<-l2];simpa using hl) (by exact ut hu) ⟨.bl _,H,I,rfl,?_⟩;have:(xs.length==ys.length)=false:=by simpa using hl
 rw[this]at q;exact q
theorem jE (hu:X.A.units+64<cLine):OpR X (compareOp .NotEq) (t_ X.K true):=by
 intro pins s O H x y v u Q I rx ry h;obtain⟨a,b,xs,ys,e,e1,e2,ha,hb,hi,q⟩:=h;subst e1 e2;cases rx;cases ry;obtain⟨its,r1,p1,_⟩:=I.list ha;obtain⟨its2,r2,p2,_⟩:=I.list hb;have l1:=r1.length;have l2:=r2.length;by_cases hl:xs.length=ys.length
 ·refine SeqAt.RcNeAt.lists (e:=e) p1.isList p2.isList (by rw[Ql,Ql];exact AL l1 l2 hl) (by exact ut hu) (EqD.items I (by exact Aw hu) r1 r2 hi) _ _ _ _ ⟨.bl _,H,I,rfl,?_⟩;rw[Ql,<-l1];have:(xs.length==ys.length)=true:=by simpa using hl
  rw[this]at q;exact q
 refine SeqAt.RcNeAt.lists_lengths p1.isList p2.isList (by rw[Ql,Ql,<-l1,<-l2];simpa using hl) (by exact ut hu) _ _ _ _ ⟨.bl _,H,I,rfl,?_⟩;have:(xs.length==ys.length)=false:=by simpa using hl
 rw[this]at q;exact q
end
section
variable {X:Cx}
abbrev nA (K:PySem.W.Frag) (T:Addr) (D:List (Str × KTD.Dat)):Prop:=KTD.tabLook (KTD.datLooks λa=>K.lookup a) (λa=>K.lookup a) T D=true
theorem db:dI X (.type "int") (λxs H Q=>∃z n,xs=[.str z]/\PySem.intText? z=some n/\z.length<=640/\Q (.int n) H):=by
 intro pins s O H xs us Q I r h;obtain⟨z,n,e,h1,h2,q⟩:=h;subst e;obtain⟨u,e,ru⟩:=dJ r;subst e;obtain⟨t,e⟩:=ru;subst e;exact PySem.W.KIN.call_text h1 h2 ⟨.int n,H,I.tok _,⟨_,rfl⟩,q⟩
def By (K:PySem.W.Frag) (n:Nat) (t:TGs):TG:=λv O H Q=>∃a xs,v=.ref a/\SqL K H a xs/\xs.length=n/\t xs O H Q
theorem ug {es:List Expr} {k:Nat} {t:TGs} {n:Nat} {pos:Pos} (hc:X.calm=true) (h:PGs X es t)
  (hn:(assignEach es X.env).length=n:=by rfl) (hst:(assignEach es X.env).findIdx? (·.1)=none:=by rfl):PG X (.Tuple es k pos) (By X.K n t):=by
 intro pins s O H v u Q I r hw;obtain⟨a,xs,e1,hq,hl,hw⟩:=hw;subst e1;cases r;obtain⟨its,rv,ht,hz⟩:=I.list hq;rw[assign_Tuple];refine Qa (wpAny_standAt ?_);unfold unpack;have hsz:(assignEach es X.env).length=its.toArray.size:=by rw[hn,Ql,<-rv.length,hl]
 rw[hsz,hst];refine Qa (QT (PySem.W.kun_itemsOf (I.ok.hd hc) ht.isList λh' hx=>?_));have I1:Inv X pins O H { s with heap:=h' }:=I.kept (t':=s.toks) λb o e=>hx b o (QM (Qm e)) e;exact h pins _ O H xs _ Q I1 (by simpa using rv) hw
end
theorem Inv.turned2 {pins:D0} {O:St} {s:Shared} {h':Heap} {t':Nat} {it:Addr} {o:HO} (I:Inv X pins O H s) (k:∀b o,b≠e->b≠it->s.heap.get? b=some o->h'.get? b=some o)
  (f1:dR X pins H e) (f2:dR X pins H it) (hT:s.heap.objs.size<=T) (new:bp X.prog X.w (upd H T o) h' T o):Inv X pins O (upd H T o) { s with heap:=h',toks:=t' }:=by
 have hn:H T=none:=I.hok.fresh hT;have nT:∀b u,s.heap.get? b=some u->b≠T:=λb u q=>QM (QS (Qm q) hT);have n1:∀b u,H b=some u->b≠e:=λb u q z=>by rw[z,f1.1]at q;cases q
 have n2:∀b u,H b=some u->b≠it:=λb u q z=>by rw[z,f2.1]at q;cases q
 have kk:∀b u,b∉[e,it]->s.heap.get? b=some u->h'.get? b=some u:=λb u hc q=>k b u (λz=>hc (by simp[z])) (λz=>hc (by simp[z])) q
 refine I.step (g':=s.gens) (d':=s.drawn) (ch:=[e,it]) (λb hb=>?_) (λb u _ _ hc q _=>kk b u hc q) (λb u _ _ hc q _=>⟨u.slots,kk b u hc q⟩) (λb u _ q n=>by rw[am (nT b u q)];exact n)
  (λb u hc q=>⟨u,kk b u hc q⟩) (λb xs q=>by rw[am (aB q hn)];exact q) (λb u xs q=>by rw[am (aB q hn)];exact q) (λb ps q=>⟨#[],by rw[am (aB q hn),q];simp⟩) (λm hm=>?_) (λb u q=>?_) I.bare
 ·have z:b=e\/b=it:=by simpa using hb
  rcases z with z|z
  ·subst z;obtain⟨_,a2,_,a4,a5,a6⟩:=f1;exact⟨a4,a2,a5,a6⟩
  subst z;obtain⟨_,a2,_,a4,a5,a6⟩:=f2;exact⟨a4,a2,a5,a6⟩
 ·obtain⟨ob,es,ep,ho,r⟩:=hm;exact⟨ob,es,ep,k _ ob (Xo f1.2.1) (Xo f2.2.1) ho,r⟩
 by_cases hb:b=T
 ·subst hb;rw[ah]at q;cases q;exact new
 rw[am hb]at q;refine(I.hok b u q).stay (λc v hc z=>k c v ?_ ?_ z) (λc z=>by rw[am (aB z hn)];exact z) λc xs z=>by rw[am (aB z hn)];exact z
 ·rcases hc with z|z
  ·rw[z];exact n1 b u q
  exact n1 c _ z
 rcases hc with z|z
 ·rw[z];exact n2 b u q
 exact n2 c _ z
noncomputable def Ite (K:PySem.W.Frag) (a:Addr):It :=
 ⟨λi H=>∃xs x,SqL K H a xs/\xs[i]?=some x,λi H x H'=>∃T v,H T=none/\x=.ref T/\H'=upd H T (.tup [.int (i:Nat),v])/\∀xs,SqL K H a xs->xs[i]?=some v,λi H=>∃xs,SqL K H a xs/\xs.length<=i⟩
theorem pf {P:Program} {w:World} {K:PySem.W.Frag} {elts:List Expr} {k:Nat} {pos:Pos} (a e it:Addr) (hne:e≠it) :
  Turn P w K (.Tuple elts k pos) (Ite K a) [e,it] e (λi h=>(∃old,IsEnum h e it (i:Nat) old)/\h.IsListIter it a i) where
 mem:=by simp
 obj:=λi h st b hb=>by
  obtain⟨⟨old,he⟩,o,ho,hc,hd⟩:=st;have z:b=e\/b=it:=by simpa using hb
  rcases z with z|z
  ·subst z
   exact⟨_,he,λv q=>by
    have q':Data.fields _=Data.cell v:=q
    cases q'⟩
  subst z;exact⟨o,ho,λv q=>by rw[hd]at q;cases q⟩
 keep:=λi h h' st kk=>by
  obtain⟨⟨old,he⟩,hl⟩:=st;exact⟨⟨old,kk e (by simp) _ he⟩,hl.at λo q=>kk it (by simp) o q⟩
 item:=by
  intro X hP hw hK hc i pins s O H E I hf st hg;subst hP hw hK;obtain⟨xs,x,hq,hx⟩:=hg;obtain⟨its,rv,p,hz⟩:=I.list hq;obtain⟨u,hu,ru⟩:=rv.get hx;obtain⟨⟨old,he⟩,hl⟩:=st;have f1:=hf e (by simp);have f2:=hf it (by simp);refine wpAny_pyNext_enum_item he hl p.isList (x:=u) (by simpa using hu) hne λh1 a1 a2 a3 a4 a5=>⟨_,rfl,?_⟩;refine wpAny_letOwnedTupleGo_enum a1 λh2 b1 b2=>?_
  have nTe:s.heap.objs.size≠e:=λz=>by
   have q:=Qm (show s.heap.get? e=some _ from he);rw[<-z]at q;exact Nat.lt_irrefl _ q
  have keep2:∀b o,b≠e->b≠it->s.heap.get? b=some o->h2.get? b=some o:=λb o n1 n2 q=>b2.extBut b o n1 (a5 b o n1 n2 q);have tup2:h2.get? s.heap.objs.size=some { cls:=.type "tuple", data:=.seq #[.int i s.toks,u] }:=b2.extBut _ _ nTe a3
  have I2:Inv X pins O (upd H s.heap.objs.size (.tup [.int (i:Nat),x])) { s with heap:=h2,toks:=s.toks+1 } :=
   I.turned2 keep2 f1 f2 (Qi _) ⟨(by show 2<=sizeLine;decide),[.int i s.toks,u],.cons ⟨_,rfl⟩ (.cons ru .nil),⟨_,tup2,rfl,_,rfl⟩⟩
  refine⟨.ref s.heap.objs.size,_,I2,rfl,⟨s.heap.objs.size,x,I.hok.fresh (Qi _),rfl,rfl,λys hy=>by rw[I.list_inj hy hq];exact hx⟩,⟨⟨u,?_⟩,(a2.extBut b2.extBut (Xo hne))⟩,λb hb=>?_⟩
  ·have q:IsEnum h2 e it ((i:Int)+1) u:=b1;have c:(((i+1:Nat):Nat):Int)=(i:Int)+1:=by omega
   rw[c];exact q
  have z:b=e\/b=it:=by simpa using hb
  have nT:b≠s.heap.objs.size:=by
   rcases z with z|z
   ·rw[z];exact Xo nTe
   rw[z];obtain⟨o,ho,_⟩:=hl;exact QM (Qm ho)
  rw[am nT];exact(hf b hb).1
 done:=by
  intro X hP hw hK hc i pins s O H E I hf st hg;subst hP hw hK;obtain⟨xs,hq,hx⟩:=hg;obtain⟨its,rv,p,hz⟩:=I.list hq;obtain⟨⟨old,he⟩,hl⟩:=st;obtain⟨f0,f1,f2,f3,f4,f5⟩:=hf it (by simp);have hlen:=rv.length;exact wpAny_pyNext_enum_end (I.ok.hd hc) he hl p.isList (by simp;exact om4 hx hlen) λh' eb=>⟨rfl,I.turned (t':=s.toks) (λb o hb q=>eb b o hb q) f0 f1 f3 f4 f5⟩
 self:=λ_ _ _ _ _ st h=>by
  obtain⟨⟨old,he⟩,_⟩:=st;exact wpAny_pyIter_enum he h
section
variable {X:Cx} {elts:List Expr} {k:Nat} {tpos:Pos}
def Bx (K:PySem.W.Frag) (ta:TA):TI:=λO H R=>ta O H λvs H1=>∃a,vs=[.ref a]/\(∃xs,SqL K H1 a xs)/\R (Ite K a) H1
theorem uf {a:Expr} {ta:TA} {p pos:Pos} (hg:Gl X "enumerate") (hm:X.mg "enumerate" = none) (ha:PA X [a] ta) (hs:starEach [a] X.env=[(false,eval a X.env)]:=by rfl):PI X (.Tuple elts k tpos) (.Call (.Name "enumerate" p) [a] [] pos) (Bx X.K ta):=by
 intro pins s O H R I h;refine Call_ (cO I hg hm boot_enumerate (Q7 (thn (ha pos pins s O H _ I h) λus s1 ⟨vs,H1,I1,r1,q1⟩=>?_) hs rfl));obtain⟨l,e,⟨xs,hq⟩,q⟩:=q1;subst e
 cases r1 with
 | cons r rr =>
 cases rr;cases r;obtain⟨its,rv,pl,hz⟩:=I1.list hq;refine call_enumerate_list pl.isList λh' b1 b2 b3 b4=>?_;refine wpAny_pyIter_enum b1 ?_;have I2:Inv X pins O H1 { s1 with heap:=h' }:=I1.kept (t':=s1.toks) b4;refine⟨s1.heap.objs.size+1,[s1.heap.objs.size+1,s1.heap.objs.size],_,_,H1,rfl,I2,pf l (s1.heap.objs.size+1) s1.heap.objs.size (by show @Ne Nat _ _;exact om5),⟨⟨_,b1⟩,b2⟩,λb hb=>?_,q⟩;have z:b=s1.heap.objs.size+1\/b=s1.heap.objs.size:=by simpa using hb
 have hle:s1.heap.objs.size<=b:=by
  rcases z with z|z
  ·rw[z];exact Nat.le_succ _
  rw[z];exact Qi _
 exact I1.fpOk hle (I1.hok.fresh hle)
end
theorem sR {K:PySem.W.Frag} {xs:List V} {g:TG} {tb:TS} {D:Ends} {O:St} (Pv:Nat->St->Hp->Prop) (h0:Pv 0 O H) (hl:∀i O H,i<=xs.length->Pv i O H->SqL K H a xs)
  (hs:∀i x O H T,xs[i]?=some x->Pv i O H->H T=none->g (.ref T) O (upd H T (.tup [.int (i:Nat),x])) λσ2 H2=>tb { D with nx:=Pv (i+1),ct:=Pv (i+1),bk:=D.nx } σ2 H2) (hd:∀O H,Pv xs.length O H->D.nx O H) :
  ∃W:Nat->Nat->St->Hp->Prop,(∃m,W 0 m O H)/\∀i m O H,W i m O H ->
   ((Ite K a).stop i H/\D.nx O H)\/((Ite K a).go i H/\∃N:St->Hp->Prop,(∀σ' H',N σ' H'->∃m',m'<m/\W (i+1) m' σ' H')/\∀x H',(Ite K a).yld i H x H'->g x O H' λσ2 H2=>tb { D with nx:=N,ct:=N,bk:=D.nx } σ2 H2):=by
 refine⟨λi m O H=>m=xs.length-i/\i<=xs.length/\Pv i O H,⟨xs.length,by simp,Q0 _,h0⟩,?_⟩;rintro i m O H ⟨rfl,hi,p⟩;have q:=hl i O H hi p;by_cases hlt:i<xs.length
 ·refine .inr ⟨⟨xs,xs[i],q,by simp[hlt]⟩,Pv (i+1),λσ' H' p'=>⟨xs.length-(i+1),by exact om6 hlt,rfl,hlt,p'⟩,λx H' y=>?_⟩;obtain⟨T,v,hT,ex,eH,y⟩:=y;subst ex eH;exact hs i v O H T (y xs q) p hT
 have e:i=xs.length:=by exact om0 hi hlt
 subst e;exact .inl ⟨⟨xs,q,Qi _⟩,hd O H p⟩
structure Fn (P:Program) (w:World) (K:PySem.W.Frag) (mg:D3) (base:Heap) (x:Str) (ps:List Str) (k:Nat) (sp:Sp):Prop where
 ex:∃f fd,FnOk P w K mg base CX0 k f fd ps sp/\mg x=some (.ref f)/\PySem.W.keepIn K (.ref f)=true/\dS K fd ps []
section
variable {X:Cx}
theorem yk {x:Str} {ps:List Str} {k:Nat} {sp:Sp} {e:Expr} {es:List Expr} {t:TA} {p pos:Pos} (F:Fn X.prog X.w X.K X.mg X.base x ps k sp) (hr:Room k X.A) (hg:Gl X x) (ha:PA X (e::es) t)
  (hdb:(x==("__debug__" : Str))=false:=by decide) (he:starEach (e::es) X.env=(false,eval e X.env)::starEach es X.env:=by rfl) (hpl:(backTo pos (starEach es X.env)).any (·.1)=false:=by rfl) :
  PE X (.Call (.Name x p) (e::es) [] pos) (iM sp [] E0 t):=by
 obtain⟨f,fd,G,hm,hk,hb⟩:=F.ex;exact n8 G hr hg hm hk hb .nil ym ha hdb he hpl
theorem bi {x:Str} {ps:List Str} {k j:Nat} {sp:Sp} {e:Expr} {es:List Expr} {t:TA} {p pos:Pos} (F:Fn X.prog X.w X.K X.mg X.base x ps k sp) (hr:Room j X.A) (ha:PA X (e::es) t) (hk:k<=j:=by first|decide|omega) (hg:Gl X x:=by rfl) (hdb:(x==("__debug__" : Str))=false:=by decide) (he:starEach (e::es) X.env=(false,eval e X.env)::starEach es X.env:=by rfl) (hpl:(backTo pos (starEach es X.env)).any (·.1)=false:=by rfl):PE X (.Call (.Name x p) (e::es) [] pos) (iM sp [] E0 t):=yk F (hr.mono hk) hg ha hdb he hpl
end
section
variable {O:St} {H:Hp} {Q:VK} {K:PySem.W.Frag}
variable {v x y:V}
theorem ba {i:Nat} (h:O[i]?=some (some v)) (q:Q v H):cT i O H Q:=⟨v,h,q⟩
theorem i_c (q:Q v H):tC v O H Q:=q
variable {ta tb te to ti tl:TE}
theorem i_op {r:R2} (q:ta O H λx H1=>tb O H1 λy H2=>r x y H2 Q):tOp r ta tb O H Q:=q
variable {i j:Int}
theorem i_rI0 {g:Int->Int->V} (q:Q (g i j) H):rI0 g (.int i) (.int j) H Q:=⟨i,j,rfl,rfl,q⟩
theorem i_rI {C:Int->Int->Prop} {g:Int->Int->V} (c:C i j) (q:Q (g i j) H):rI C g (.int i) (.int j) H Q:=⟨i,j,rfl,rfl,c,q⟩
theorem i_eq (h:t5 x y=true) (q:Q (.bl (decide (x=y))) H):rEq x y H Q:=⟨h,q⟩
theorem i_ne (h:t5 x y=true) (q:Q (.bl (!decide (x=y))) H):rNe x y H Q:=⟨h,q⟩
variable {R:Bool->Hp->Prop}
theorem i_test {t:TE} (q:t O H λx H'=>∃k,x=.bl k/\R k H'):vd t O H R:=q
theorem i_tB {t:TE} (q:t O H λx H'=>∃k,x=.bl k/\R k H'):tB t O H R:=q
theorem i_and {t u:TT} (q:t O H λc H1=>if c=true then u O H1 R else R false H1):yc t u O H R:=q
theorem i_or {t u:TT} (q:t O H λc H1=>if c=true then R true H1 else u O H1 R):tOr t u O H R:=q
theorem i_not {t:TT} (q:t O H λc H1=>R (!c) H1):xY t O H R:=q
theorem i_andV (q:ta O H λx H1=>∃c,x=.bl c/\if c=true then tb O H1 Q else Q (.bl false) H1):vh ta tb O H Q:=q
theorem i_orV (q:ta O H λx H1=>∃c,x=.bl c/\if c=true then Q (.bl true) H1 else tb O H1 Q):xW ta tb O H Q:=q
theorem i_notV (q:ta O H λx H1=>∃c,x=.bl c/\Q (.bl (!c)) H1):xX ta O H Q:=q
theorem i_ifE {t:TT} (q:t O H λc H1=>if c=true then ta O H1 Q else tb O H1 Q):tIf t ta tb O H Q:=q
theorem bC {R:List V->Hp->Prop} (q:R [] H):pq O H R:=q
theorem i_cons {tr:TA} {R:List V->Hp->Prop} (q:te O H λx H1=>tr O H1 λxs H2=>R (x::xs) H2):dG te tr O H R:=q
theorem i_call {sp:Sp} {E:XK} {t:TA} (q:t O H λvs H1=>sp vs H1 Q E):iM sp [] E t O H Q:=by
 show t O H λvs H1=>sp (vs++[]) H1 Q E;simpa only[X0] using q
theorem i_cb {r:List V->Hp->VK->Prop} {t:TA} (q:t O H λvs H1=>r vs H1 Q):tCB r t O H Q:=q
theorem i_tup {t:TA} (q:t O H λxs H1=>xs.length<=sizeLine/\∀p,H1 p=none->Q (.ref p) (upd H1 p (.tup xs))):tU t O H Q:=q
theorem i_lst {t:TA} (q:t O H λxs H1=>xs.length<=sizeLine/\∀p,H1 p=none->Q (.ref p) (upd H1 p (.lst xs))):wu t O H Q:=q
theorem i_bm {T:String} {r:V->List V->Hp->VK->Prop} {t:TA} (q:to O H λx H1=>tyV K T x H1/\t O H1 λxs H2=>r x xs H2 Q):tBM K T r to t O H Q:=q
theorem i_sl {r:V->Option Int->Option Int->Hp->VK->Prop} {tl th:TO} (q:te O H λx H1=>tl O H1 λl H2=>th O H2 λu H3=>r x l u H3 Q):tSl r te tl th O H Q:=q
theorem i_nopart {R:Option Int->Hp->Prop} (q:R none H):nC O H R:=q
theorem i_part {t:TE} {R:Option Int->Hp->Prop} (q:t O H λx H1=>∃i,x=.int i/\R (some i) H1):ve t O H R:=q
variable {xs:List V}
theorem i_ixL {p:Addr} {v:V} (h:SqL K H p xs) (e:atI xs i=some v) (q:Q v H):my K (.ref p) (.int i) H Q:=⟨p,xs,i,v,rfl,rfl,h,e,q⟩
theorem i_ixT {p:Addr} (h:H p=some (.tup xs)) (e:atI xs i=some v) (q:Q v H):wI K (.ref p) (.int i) H Q:=⟨p,xs,i,v,rfl,rfl,SqT.of h,e,q⟩
theorem ij {z:Str} {c:Nat} (hz:z.length<=sizeLine) (e:atI z.cps.toList i=some c) (q:Q (.str ⟨#[c]⟩) H):mw (.str z) (.int i) H Q:=⟨z,i,c,rfl,rfl,hz,e,q⟩
variable {D:Ends}
theorem s_seq {t u:TS} (q:t { D with nx:=u D } O H):lY t u D O H:=q
theorem s_asg {g:TG} (q:te O H λx H1=>g x O H1 D.nx):lZ te g D O H:=q
theorem aC {i:Nat} {R:St->Hp->Prop} (q:R (O.set i (some v)) H):dH i v O H R:=q
theorem s_drop (q:te O H λ_ H1=>D.nx O H1):qN te D O H:=q
theorem s_ret (q:te O H D.rt):wo te D O H:=q
theorem s_next (q:D.nx O H):vf D O H:=q
theorem s_if {c:TT} {t u:TS} (q:c O H λb H1=>if b=true then t D O H1 else u D O H1):xZ c t u D O H:=q
theorem s_sub {t:u5} {R:St->Hp->Prop} (q:to O H λo H1=>ti O H1 λi H2=>t o i v H2 λH3=>R O H3):BA to ti t v O H R:=q
theorem s_setL {p:Addr} {k:Int} {j:Nat} {R:Hp->Prop} (h:H p=some (.lst xs)) (e:ixN xs.length k=some j) (q:R (upd H p (.lst (xs.set j v)))):vp (.ref p) (.int k) v H R:=⟨p,xs,k,j,rfl,rfl,h,e,q⟩
theorem s_for {wi:TI} {g:TG} {tb:TS} (q:wi O H λJ H1=>∃W:Nat->Nat->St->Hp->Prop,(∃m,W 0 m O H1)/\∀i m O H,W i m O H ->
 (J.stop i H/\D.nx O H)\/(J.go i H/\∃N:St->Hp->Prop,(∀σ' H',N σ' H'->∃m',m'<m/\W (i+1) m' σ' H')/\∀x H',J.yld i H x H'->g x O H' λσ2 H2=>tb { D with nx:=N,ct:=N,bk:=D.nx } σ2 H2)):wv wi g tb D O H:=q
theorem s_rng1 {ta:TA} {R:It->Hp->Prop} (q:ta O H λvs H1=>∃j:Int,vs=[.int j]/\-(2 ^ 62)<=j/\j<2 ^ 62/\R (Itr 0 j.toNat) H1):vT ta O H R:=q
theorem s_list {R:It->Hp->Prop} (q:tl O H λx H1=>∃a,x=.ref a/\(∃xs,SqL K H1 a xs)/\R (Itl K a) H1):sO K tl O H R:=q
theorem s_str {R:It->Hp->Prop} (q:tl O H λv H1=>∃z:Str,v=.str z/\R (Itf z.cps.size (dM z)) H1):CL tl O H R:=q
theorem cX {wi:TI} {g:TG} {tt:TT} {f:St->St} (q:wi O H λJ H1=>∀D,H1 D=none->∃W:Nat->Nat->Hp->List V->Prop,(∃m,W 0 m (upd H1 D (.lst [])) []) /\
 ∀i m H ys,W i m H ys->H D=some (.lst ys)/\((J.stop i H/\Q (.ref D) H)\/(J.go i H/\∀x H',J.yld i H x H'->g x (f O) H' λσ2 H2=>wk (f O) σ2/\tt σ2 H2 λb H3 =>
  if b=true then te σ2 H3 λv H4=>H4 D=some (.lst ys)/\ys.length<sizeLine/\∃m',m'<m/\W (i+1) m' (upd H4 D (.lst (ys++[v]))) (ys++[v])
  else ∃m',m'<m/\W (i+1) m' H3 ys))):km wi g tt te f O H Q:=q
end
def oX (Pv:Nat->Hp->List V->Prop) (n:Nat) (D:Addr) (i:Nat) (ys:List V):VK:=λv H4=>H4 D=some (.lst ys)/\ys.length<sizeLine/\∃m',m'<n-i/\(m'=n-(i+1)/\i+1<=n/\Pv (i+1) (upd H4 D (.lst (ys++[v]))) (ys++[v]))
theorem oX.mk {Pv:Nat->Hp->List V->Prop} {n:Nat} {D:Addr} {i:Nat} {ys:List V} {v:V} (hd:H4 D=some (.lst ys)) (hi:i<n) (hl:ys.length<sizeLine) (p:Pv (i+1) (upd H4 D (.lst (ys++[v]))) (ys++[v])):oX Pv n D i ys v H4 :=
 ⟨hd,hl,n-(i+1),by exact om6 hi,rfl,hi,p⟩
section
variable {K:PySem.W.Frag} {g:TG} {te:TE} {σ0:St} {QD:Hp->Prop} {H1:Hp} {D:Addr}
end
section
variable {H:Hp} {Q:VK} {K:PySem.W.Frag}
theorem iZ {z:Str} {lo hi:Option Int} (h:z.length<=sizeLine) (q:Q (.str (Txt.slice z lo hi)) H):yg (.str z) lo hi H Q:=⟨z,rfl,h,q⟩
variable {xs zs:List V} {l b p:Addr}
theorem cJ (h1:H l=some (.lst xs)) (h2:H b=some (.lst zs)) (hz:xs.length+zs.length<=sizeLine) (q:∀p,H p=none->Q (.ref p) (upd H p (.lst (xs++zs)))):yh (.ref l) (.ref b) H Q:=⟨l,b,xs,zs,rfl,rfl,h1,h2,hz,q⟩
theorem ik {y:V} (h:H l=some (.lst xs)) (hz:xs.length<sizeLine) (q:Q .non (upd H l (.lst (xs++[y])))):jA (.ref l) [y] H Q:=⟨l,xs,y,rfl,rfl,h,hz,q⟩
theorem i_tyL (h:H p=some (.lst xs)):tyV K "list" (.ref p) H:=.inl ⟨rfl,xs,SqL.of h⟩
theorem vQ {z:Str}:tyV K "str" (.str z) H:=rfl
theorem sL {z:Str} {ys:List Str} (h:H l=some (.lst (ys.map V.str))) (hz:(ys.map (·.length)).sum+ys.length*z.length<=16777216) (q:Q (.str (Txt.join z ys)) H):vq K (.str z) [.ref l] H Q:=⟨z,l,ys,rfl,rfl,SqL.of h,hz,q⟩
end
theorem aN {o:HO} (hp:H p=none):av H (upd H p o):=λb u e=>by rw[am (aB e hp)];exact e
end L2
namespace L2
open PySem
section
variable {O:St} {H:Hp} {D:Ends}
theorem s_seqT {t u:TS} (q:let D':Ends:={ D with nx:=u D };t D' O H):lY t u D O H:=q
theorem s_nameT {i:Nat} {v:V} {R:St->Hp->Prop} (q:let σ':St:=O.set i (some v);R σ' H):dH i v O H R:=q
end
variable {H:Hp}
theorem i_yes {O:St} {R:Bool->Hp->Prop} (q:R true H):tT O H R:=q
theorem i_dget {td ty:TE} {O:St} {Q:VK} (q:td O H λx H1=>ty O H1 λy H2=>∃a v,x=.ref a/\cL H2 a y (some v)/\Q v H2):qP td ty O H Q:=q
theorem i_un {r:V->Hp->VK->Prop} {ta:TE} {O:St} {Q:VK} (q:ta O H λx H1=>r x H1 Q):tUn r ta O H Q:=q
theorem i_rU {g:Int->V} {i:Int} {Q:VK} (q:Q (g i) H):rU g (.int i) H Q:=⟨i,rfl,q⟩
end L2
namespace L2
open PySem PySem.Spec PyProof.Rows
def ir (H:Hp) (c:Addr):Hp:=λb=>if b=c then none else H b
variable {c b cell fa a T:Addr} {H H':Hp}
theorem eg:ir H c c=none:=Qp rfl
theorem bM (h:b≠c):ir H c b=H b:=Qn h
theorem qt {o:HO} (h:ir H c b=some o):b≠c/\H b=some o:=by
 by_cases e:b=c
 ·subst e;rw[eg]at h;cases h
 rw[bM e]at h;exact⟨e,h⟩
def lR (o:Obj):HO:=.frz o (.ext λ_=>True)
section
variable {P:Program} {w:World} {H H1:Hp} {h h1:Heap} {c:Addr} {o:Obj} {fs ex:D4}
theorem u0 {H:Hp} (e:h.get? c=some o):bp P w H h c (lR o):=⟨e,trivial,⟨o,e⟩,λ_ _ _ _=>trivial⟩
theorem HOk.drop (x:HOk P w H h) (hc:H c=some (lR o)):HOk P w (ir H c) h:=λb u e=>by
 obtain⟨_,e⟩:=qt e;refine(x b u e).stay (λ_ _ _ q=>q) (λd q=>?_) λd xs q=>?_
 ·rw[bM];exact q;intro z;subst z;rw[hc]at q;cases q
 rw[bM];exact q;intro z;subst z;rw[hc]at q;cases q
theorem HOk.take (x:HOk P w H h) (hc:H c=none) (e:h.get? c=some o):HOk P w (upd H c (lR o)) h:=λb u q=>by
 by_cases hb:b=c
 ·subst hb;rw[ah]at q;cases q;exact u0 e
 rw[am hb]at q;refine(x b u q).stay (λ_ _ _ r=>r) (λd r=>?_) λd xs r=>?_
 ·rw[am (aB r hc)];exact r
 rw[am (aB r hc)];exact r
theorem Un.back (u:Un fs ex (ir H c) H1 h h1) (hc:H c=some (lR o)) (e:h.get? c=some o) (nf:c∉fs) (nx:c∉ex):Un fs ex H (upd H1 c (lR o)) h h1/\H1 c=none/\h1.get? c=some o:=by
 have h1c:=u.free c o e eg nx;have e1:=u.keep c o e eg nf nx;have ne:∀{b v},H b=some v->v≠lR o->b≠c:=λq n z=>by subst z;rw[hc]at q;cases q;exact n rfl
 have nn:∀{b},H b=none->b≠c:=λq z=>by subst z;rw[hc]at q;cases q
 refine⟨⟨λb ob q n hb hx=>?_,λb ob q n hb hx=>?_,λb ob q n hx=>?_,λb ob q hx=>u.there b ob q hx,λb xs q=>?_,λb ob v q=>?_,λb ps q=>?_⟩,h1c,e1⟩
 ·exact u.keep b ob q (by rw[bM (nn n)];exact n) hb hx
 ·exact u.slot b ob q (by rw[bM (nn n)];exact n) hb hx
 ·rw[am (nn n)];exact u.free b ob q (by rw[bM (nn n)];exact n) hx
 ·have nb:=ne q (λz=>by cases z);rw[am nb];exact u.tups b xs (by rw[bM nb];exact q)
 ·by_cases nb:b=c
  ·subst nb;rw[hc]at q;cases q;exact ah
  rw[am nb];exact u.frzs b ob v (by rw[bM nb];exact q)
 have nb:=ne q (λz=>by cases z);rw[am nb];exact u.tbls b ps (by rw[bM nb];exact q)
theorem Un.out (u:Un fs ex (upd H c (lR o)) H1 h h1) (k1:HOk P w H1 h1) (hc:H c=none) (e:h.get? c=some o) (nf:c∉fs):Un fs ex H (ir H1 c) h h1/\HOk P w (ir H1 c) h1/\H1 c=some (lR o):=by
 have h1c:=u.frzs c o _ ah;have e1:=(k1 c _ h1c).1;refine⟨⟨λb ob q n hb hx=>?_,λb ob q n hb hx=>?_,λb ob q n hx=>?_,λb ob q hx=>u.there b ob q hx,λb xs q=>?_,λb ob v q=>?_,λb ps q=>?_⟩,k1.drop h1c,h1c⟩
 ·by_cases nb:b=c
  ·subst nb;rw[e]at q;cases q;exact e1
  exact u.keep b ob q (by rw[am nb];exact n) hb hx
 ·have nb:b≠c:=λz=>by subst z;exact nf hb
  exact u.slot b ob q (by rw[am nb];exact n) hb hx
 ·by_cases nb:b=c
  ·subst nb;exact eg
  rw[bM nb];exact u.free b ob q (by rw[am nb];exact n) hx
 ·have nb:=aB q hc;rw[bM nb];exact u.tups b xs (by rw[am nb];exact q)
 ·have nb:=aB q hc;rw[bM nb];exact u.frzs b ob v (by rw[am nb];exact q)
 have nb:=aB q hc;rw[bM nb];exact u.tbls b ps (by rw[am nb];exact q)
end
structure Lm where
 qual:Str
 params:Arguments
 body:Expr
 scope:Scope
 pos:Pos
def BQ (c:Addr) (qual:Str):HO:=.ext λh=>h.CodeRec (.ref c) qual
def C1 (f:Addr) (l:Lm) (cl:List (Str × Addr)) (c:Addr):HO:=.ext λh=>∃pm ctv,h.get? f=some (PySem.W.kla_obj "<lambda>" l.qual l.params l.body l.scope cl pm c ctv)
def oM (l:Lm) (c:Addr):Array Value:=#[rawInt l.pos.line,rawInt l.pos.col,.ref c]
structure Made (T:Addr) (l:Lm) (cl:List (Str × Addr)) (H:Hp) (f c:Addr) (H':Hp):Prop where
 new:H f=none
 fn:H' f=some (C1 f l cl c)
 code:H' c=some (BQ c l.qual)
 tab:H' T=some (.tbl (oM l c))
 old:∀b o,H b=some o->b≠T->H' b=some o
def f_ (base:Heap) (mg:D3):Prop:=∃bm ob,mg "__builtins__" = some (.ref bm)/\bm≠builtinsNs/\bm≠mainGlobals/\base.get? bm=some ob/\ob.cls=.type "module" /\ ob.dict=some builtinsNs/\ob.data=.plain
section
variable {X:Cx}
end
structure LmScope (x y:Str) (sc:Scope):Prop where
 kind:sc.kind=.function
 co:sc.isCoroutine=false
 gen:sc.isGenerator=false
 par:sc.names.lookup x=some .local
 fre:sc.names.lookup y=some .free
 ne:x≠y
 nocell:∀z∈sc.names,z.2≠.cell
 only:∀z,sc.names.lookup z=some .free->z=y
def Calls (P:Program) (w:World) (K:PySem.W.Frag) (mg:D3) (base:Heap) (k:Nat) (f:Addr) (r:V->Hp->VK->Prop):Prop :=
 ∀(X:Cx),X.prog=P->X.w=w->X.K=K->X.mg=mg->X.base=base->eR CX0 X E0->Room k X.A->∀pins s O H vx u (Q:VK),Inv X pins O H s->aR vx u->r vx H Q->wpAny (model X.prog X.w) X.A (call (.ref f) [u]) (EP X pins O Q) X.xe s
variable {y x:Str}
theorem Inv.cellAt {X:Cx} {pins:D0} {s:Shared} {O:St} {i:Nat} {vy:V} (I:Inv X pins O H s) (hN:X.N[i]?=some y) (hi:O[i]?=some (some vy)) (hk:X.env.kindOf y=some .cell) (hv:Vis X.env.scope y) (hl:X.env.cells.lookup y=some cell) :
  ∃o uy,s.heap.get? cell=some o/\o.data=.cell (some uy)/\aR vy uy/\H cell=none:=by
 obtain⟨m,_,loc⟩:=I.loc;obtain⟨u,ru,lk⟩:=loc i y vy hN hi hv;rcases lk with⟨k,_⟩|⟨_,c,e,o,e1,e2⟩
 ·rw[hk]at k;cases k
 rw[hl]at e;cases e;exact⟨o,u,e1,e2,ru,I.freeC y cell hl⟩
structure FunC (K:PySem.W.Frag) (x qual:Str) (st:Stmt) (f:Addr) (fd:FuncData) (c:Addr):Prop where
 ex:∃oc od kV doc pm an ct osl,fd=PySem.W.fnOf x qual (cu st) (bN st) (aA st) .none kV doc pm an (.ref c) ct/\K.lookup f=some ⟨oc,od,.func (PySem.W.fnOf x qual (cu st) (bN st) (aA st) .none kV doc pm an (.ref c) ct),osl⟩/\PySem.W.codeIn K (.ref c) qual=true
section
variable {P:Program} {w:World} {K:PySem.W.Frag} {mg:D3} {base:Heap}
theorem FunC.ok {x qual:Str} {st:Stmt} {f c:Addr} {fd:FuncData} {N ps:List Str} {k:Nat} {sp:Sp} (F:FunC K x qual st f fd c) (S:FnScope N ps (aA st)) (len:∀vs H Q E,sp vs H Q E->vs.length=ps.length)
  (hbody:∀(A:Around) (outer:List Env) (s:Shared) (H:Hp) (vs:List V) (Q:VK) (E:XK),Room k (A.deeper (envOfC qual (aA st) s.heap.objs.size f (.ref c)))->sp vs H Q E ->
   ∃t,PSs (cxOf CX0 P w K mg base N qual (aA st) f (.ref c) A outer s H E).nox (bN st) t/\t { nx:=λ_ H'=>Q .non H',rt:=Q } (start N vs) H):FnOk P w K mg base CX0 (k+1) f fd ps sp:=by
 obtain⟨oc,od,kV,doc,pm,an,ct,osl,rfl,lk,hcd⟩:=F.ex;refine lH lk hcd S len λA outer s H vs Q E hr hsp=>?_;obtain⟨t,h,q⟩:=hbody A outer s H vs Q E hr hsp;exact⟨t,h.nox,q⟩
end
structure OnlyT (tabs:List (Addr × Addr)) (H:Hp):Prop where
 tab:∀q∈tabs,H q.2=some (.tbl #[])
 other:∀b,b∉tabs.map (·.2)->H b=none\/∃o xs,H b=some (.frz o (.lst xs))
theorem pY {P:Program} {w:World} {K:PySem.W.Frag} {mg mb:D3} {CX:CXT} {k:Nat} {fd:FuncData} {sp:Sp} {s₁:Shared} {vs:List Value} {ns:List Int} {tabs:List (Addr × Addr)}
  (KX:K.In s₁.heap) (hns:s₁.heap.Ns mainGlobals mg) (hb:s₁.heap.Ns builtinsNs mb) (hbb:∀x:Str,x ≠ "__name__" -> mb x=bootBuiltins x) (hlim:s₁.heap.NoLimit) (hg:s₁.gens=#[])
  (hbm:f_ s₁.heap mg) (hT:PySem.W.TabsAt tabs s₁.heap) (hTK:∀q∈tabs,K.lookup q.2=none)
  (ha:s₁.heap.get? a=some { cls:=.type "list", data:=.seq vs.toArray }) (hi:IntsAre vs ns) (hl:ns.length<=sizeLine) (hr:Room k callerA)
  (F:∀base:Heap,K.In base->base.Ns mainGlobals mg->f_ base mg->FnOk P w K mg base CX k fa fd [x] sp) (hbind:∀(s:Shared) (u:Value),BindsTo s fd ⟨[u],[]⟩ [(x,u)])
  (hsp:∀H:Hp,OnlyT tabs H->SqL K H a (ns.map V.int)->sp [.ref a] H (λv _=>v=.bl true) λ_ _ _=>False)
  (hCX:∀H e s',CX [] H s₁ (λ_ _ _=>False) e s'->False) :
  codeAny (model P w) callerA (.call (.ref fa) ⟨[.ref a],[]⟩) (λr s'=>r=.ok (.ret (.bool true))/\OldK s₁.heap s'.heap/\s'.os=s₁.os/\AllBare s'.gens) s₁:=by
 have rv:=iK hi;have lenV:=hi.length
 have naT:a∉tabs.map (·.2):=λq=>by
  obtain⟨r,hr,e⟩:=Qr.mp q;have e2:=(hT r hr).2;rw[e,ha]at e2;cases e2
 have core:∀H:Hp,OnlyT tabs H->SqL K H a (ns.map V.int)->HOk P w H s₁.heap->(∀b,H b≠none->b=a\/b∈tabs.map (·.2))->(H a≠none->K.lookup a=none) ->
   codeAny (model P w) callerA (.call (.ref fa) ⟨[.ref a],[]⟩) (λr s'=>r=.ok (.ret (.bool true))/\OldK s₁.heap s'.heap/\s'.os=s₁.os/\AllBare s'.gens) s₁:=by
  intro H hO hS hok hA hK;have base_of:∀{b:Addr} {o:Obj},s₁.heap.get? b=some o->H b=none->(iF s₁.heap H).get? b=some o:=λe n=>sP e n
  have noA:∀{b:Addr} {o:Obj},s₁.heap.get? b=some o->(∀ps n,o.data≠.seq ps n)->(∀ps,o.data≠.fields ps)->H b=none:=λ{b o} e d1 d2=>by
   cases q:H b with
   | none=>rfl
   | some u =>
   rcases hA b (by rw[q];simp) with e'|e'
   ·subst e';rw[ha]at e;cases e;exact absurd rfl (d1 _ _)
   obtain⟨r,hr,er⟩:=Qr.mp e';have e2:=(hT r hr).2;rw[er,e]at e2;cases e2;exact absurd rfl (d2 _)
  have nsK:∀{b:Addr} {m:D3},s₁.heap.Ns b m->(iF s₁.heap H).Ns b m:=λ{b m} ⟨o,es,ep,e,d,r⟩=>⟨o,es,ep,base_of e (noA e (λ_ _ z=>by rw[d]at z;cases z) (λ_ z=>by rw[d]at z;cases z)),d,r⟩
  have hKb:K.In (iF s₁.heap H):=λb o e=>base_of (KX b o e) (by
   cases q:H b with
   | none=>rfl
   | some u =>
   rcases hA b (by rw[q];simp) with e'|e'
   ·subst e';rw[hK (by rw[q];simp)]at e;cases e
   obtain⟨r,hr,er⟩:=Qr.mp e';have e2:=hTK r hr;rw[er,e]at e2
   cases e2)
  have hM:Mod K mg (iF s₁.heap H):=⟨hKb,nsK hns,⟨mb,nsK hb,hbb⟩,let ⟨mc,h1,h2⟩:=hlim;⟨mc,nsK h1,h2⟩⟩
  have hB:f_ (iF s₁.heap H) mg:=by
   obtain⟨bm,ob,b1,b2,b3,b4,b5,b6,b7⟩:=hbm;exact⟨bm,ob,b1,b2,b3,base_of b4 (noA b4 (λ_ _ z=>by rw[b7]at z;cases z) (λ_ z=>by rw[b7]at z;cases z)),b5,b6,b7⟩
  have e0:Env0 P w K mg (iF s₁.heap H) callerA [] s₁ H:=⟨rfl,hM,λb o e=>uD e,Nat.le_of_eq (qi _ _),trivial,λb hb=>absurd (show b∈([]:D4) from hb) (by simp),hok,.of_eq hg⟩;refine codeAny_mono ((F _ hKb (nsK hns) hB).run callerA [] s₁ H ⟨[.ref a],[]⟩ [.ref a] [.ref a] _ _ hr e0 (hbind s₁ (.ref a)) (.cons rfl .nil) (hsp H hO hS)) λr s' h=>?_
  cases r with
  | error e=>exact(hCX H e s' h).elim
  | ok fl =>
  cases fl with
  | next=>exact False.elim h
  | brk=>exact False.elim h
  | cont=>exact False.elim h
  | ret u =>
  obtain⟨v,H',os,bare,un,hok',r',q⟩:=h;have q':v=.bl true:=q;subst q';obtain rfl:u=Value.bool true:=r';refine⟨rfl,⟨λb o e=>?_,λb o e=>un.there b o e (by simp)⟩,os,bare⟩
  cases q:H b with
  | none=>exact .inl (un.keep b o e q (by intro z;exact absurd (show b∈([]:D4) from z) (by simp)) (by simp))
  | some u =>
  by_cases hb:b∈tabs.map (·.2)
  ·obtain⟨r,hr,er⟩:=Qr.mp hb;have t1:=hO.tab r hr;have e2:=(hT r hr).2;have ict:=((hT r hr).1.tab (hT r hr).2).isCodeTable;rw[er]at t1 e2 ict;rw[e]at e2;cases e2;obtain⟨more,t2⟩:=un.tbls b _ t1;have t3:s'.heap.get? b=some { cls:=.none,data:=.fields (#[]++more) }:=hok' b _ t2;exact .inr (.inl ⟨ict,rfl,#[],more,rfl,t3⟩)
  rcases hO.other b hb with z|⟨ob,xs,z⟩
  ·rw[q]at z;cases z
  have z2:=un.frzs b ob _ z;obtain⟨e1,_⟩:=hok b _ z;obtain⟨e2,_⟩:=hok' b _ z2;rw[e]at e1;cases e1;exact .inl e2
 let HT:Hp:=λb=>if b∈tabs.map (·.2) then some (.tbl #[]) else none
 have htab:∀b,b∈tabs.map (·.2)->s₁.heap.get? b=some (PySem.W.tabObj #[]):=λb hb=>by
  obtain⟨r,hr,er⟩:=Qr.mp hb;rw[<-er];exact(hT r hr).2
 cases hk:K.lookup a with
 | some o =>
  have e:=KX a o hk;rw[ha]at e;cases e;refine core HT ⟨λq hq=>Qp (Qr.mpr ⟨q,hq,rfl⟩),λb hb=>.inl (Qn hb)⟩ (.inr ⟨_,vs.toArray,_,hk,rfl,rfl,rfl,by rw[Ql,lenV];exact hl,by simpa using rv⟩) (λb u z=>?_) (λb z=>?_) λz=>absurd (Qn naT) z
  ·by_cases hb:b∈tabs.map (·.2)
   ·have z':=(Qp hb).symm.trans z;cases z';exact htab b hb
   have z':=(Qn hb).symm.trans z;cases z'
  by_cases hb:b∈tabs.map (·.2)
  ·exact .inr hb
  exact absurd (Qn hb) z
 | none =>
 let HA:Hp:=λb=>if b=a then some (.frz { cls:=.type "list", data:=.seq vs.toArray } (.lst (ns.map V.int))) else HT b;have hA1:HA a=some (.frz { cls:=.type "list", data:=.seq vs.toArray } (.lst (ns.map V.int))):=Qp rfl;have hA2:∀b,b≠a->HA b=HT b:=λb h=>Qn h;refine core HA ⟨λq hq=>?_,λb hb=>?_⟩ (.inl (.inr ⟨{ cls:=.type "list", data:=.seq vs.toArray },hA1⟩)) (λb u z=>?_) (λb z=>?_) λ_=>hk
 ·rw[hA2 _ λz=>naT (Qr.mpr ⟨q,hq,z⟩)];exact Qp (Qr.mpr ⟨q,hq,rfl⟩)
 ·by_cases hba:b=a
  ·subst hba;exact .inr ⟨_,_,hA1⟩
  rw[hA2 b hba];exact .inl (Qn hb)
 ·by_cases hba:b=a
  ·subst hba;rw[hA1]at z;cases z;exact⟨ha,by rw[Qb];exact hl,vs,_,rv,ha⟩
  rw[hA2 b hba]at z;by_cases hb:b∈tabs.map (·.2)
  ·have z':=(Qp hb).symm.trans z;cases z';exact htab b hb
  have z':=(Qn hb).symm.trans z;cases z'
 by_cases hba:b=a
 ·exact .inl hba
 rw[hA2 b hba]at z;by_cases hb:b∈tabs.map (·.2)
 ·exact .inr hb
 exact absurd (Qn hb) z
variable {loose:List Str} {p q:Program}
theorem tD {mean:ExcName->Option Value} {mg mb:D3} {h:Heap} (T:Top p loose mean mg mb h):f_ h mg:=by
 obtain⟨bm,ob,b1,b2,b3,b4,b5,b6⟩:=T.bmain;refine⟨bm,ob,b1,b2,λq=>?_,b3,b4,b5,b6⟩;obtain⟨o,es,ep,e,hd,_⟩:=T.g;rw[q,e]at b3;cases b3;rw[hd]at b6;cases b6
variable {l:PySem.W.OpenLaw}
theorem qG {n k:Nat} {XP:D3->Heap->Prop} {YP:World->Heap->Prop} {d:DefRec} {K:Params->PySem.W.Frag} {CX:World->CXT} {sp:World->Sp} (tabs:World->List (Addr × Addr))
  (hn:l.most=some n) (hn2:n<=sizeLine) (hdf:d.params.defaults=[]) (hr:Room k callerA)
  (hY:∀(w:World) (h:Heap),YP w h->(K w.params).In h) (hY2:∀(w:World) (h:Heap),YP w h->PySem.W.TabsAt (tabs w) h) (hTK:∀(w:World),∀q∈tabs w,(K w.params).lookup q.2=none)
  (F:∀(w:World) (mg:D3) (fa:Addr) (h:Heap),(K w.params).In h->h.Ns mainGlobals mg->mg d.name=some (.ref fa) ->
   ∃fd:FuncData,(∀(s:Shared) (u:Value),BindsTo s fd ⟨[u],[]⟩ [(x,u)]) /\
    ∀base:Heap,(K w.params).In base->base.Ns mainGlobals mg->f_ base mg->FnOk l.prog w (K w.params) mg base (CX w) k fa fd [x] (sp w))
  (hsp:∀(w:World) (H:Hp) (a:Addr) (ns:List Int),ns.length<=n->OnlyT (tabs w) H->SqL (K w.params) H a (ns.map V.int)->sp w [.ref a] H (λv _=>v=.bl true) λ_ _ _=>False)
  (hCX:∀(w:World) (H:Hp) (s:Shared) (e:Value) (s':Shared),CX w [] H s (λ_ _ _=>False) e s'->False) :
  PySem.W.WalkO q loose XP YP l.row.toRowW d [] (λf vs=>PySem.call f vs):=by
 refine Att.lN hn hdf λw s₀ s₁ mg mb fa o pm cd doc a vs ns G Y ho hd hcd hmg hobj hints hlen hg=>?_;have KX:=hY w _ Y;obtain⟨fd,hb,hF⟩:=F w mg fa _ KX G.T.g hmg;exact pY KX G.T.g G.T.b G.T.builtins G.T.nolimit hg (tD G.T) (hY2 w _ Y) (hTK w) hobj hints (QR hlen hn2) hr hF hb (λH hO hS=>hsp w H a ns hlen hO hS) λH e s'=>hCX w H s₁ e s'
def mO (K:PySem.W.Frag) (ts:D4):List (Addr × Addr):=ts.flatMap λT=>(K.filter λp=>PySem.W.codeHdIn K p.1 T).map λp=>(p.1,T)
def fc (K:PySem.W.Frag) (ts:D4):Bool:=ts.all λT=>(K.any λp=>PySem.W.codeHdIn K p.1 T)&&(K.lookup T).isNone
variable {ts as:D4}
theorem hX {K:PySem.W.Frag} {q:Addr × Addr} (h:q∈mO K ts):q.2∈ts/\PySem.W.codeHdIn K q.1 q.2=true:=by
 obtain⟨T,hT,h⟩:=List.mem_flatMap.mp h;obtain⟨p,hp,rfl⟩:=Qr.mp h;exact⟨hT,(List.mem_filter.mp hp).2⟩
theorem mN {K:PySem.W.Frag} (ok:fc K ts=true) (hT:T∈ts):∃c,(c,T)∈mO K ts:=by
 have h:=XS.mp ok T hT;rw[Xq]at h;obtain⟨p,hp,e⟩:=List.any_eq_true.mp h.1;exact⟨p.1,List.mem_flatMap.mpr ⟨T,hT,Qr.mpr ⟨p,List.mem_filter.mpr ⟨hp,e⟩,rfl⟩⟩⟩
theorem mM {K:PySem.W.Frag} (ok:fc K ts=true) (hT:T∈ts):K.lookup T=none:=by
 have h:=XS.mp ok T hT;rw[Xq]at h;exact Option.isNone_iff_eq_none.mp h.2
theorem qH {n k:Nat} {XP:D3->Heap->Prop} {d:DefRec} {K:Params->PySem.W.Frag} {e:∀P,as=(K P).map (·.1)} {CX:World->CXT} {sp:World->Sp}
  (hn:l.most=some n) (hn2:n<=sizeLine) (hdf:d.params.defaults=[]) (hr:Room k callerA) (ok:∀w:World,fc (K w.params) ts=true)
  (F:∀(w:World) (mg:D3) (fa:Addr) (h:Heap),(K w.params).In h->h.Ns mainGlobals mg->mg d.name=some (.ref fa) ->
   ∃fd:FuncData,(∀(s:Shared) (u:Value),BindsTo s fd ⟨[u],[]⟩ [(x,u)]) /\
    ∀base:Heap,(K w.params).In base->base.Ns mainGlobals mg->f_ base mg->FnOk l.prog w (K w.params) mg base (CX w) k fa fd [x] (sp w))
  (hsp:∀(w:World) (H:Hp) (a:Addr) (ns:List Int),ns.length<=n->(∀T∈ts,H T=some (.tbl #[]))->SqL (K w.params) H a (ns.map V.int)->sp w [.ref a] H (λv _=>v=.bl true) λ_ _ _=>False)
  (hCX:∀(w:World) (H:Hp) (s:Shared) (e:Value) (s':Shared),CX w [] H s (λ_ _ _=>False) e s'->False) :
  PySem.W.WalkO q loose XP (PySem.W.kmHook K as e ts).says l.row.toRowW d [] (λf vs=>PySem.call f vs):=by
 refine qG (λw=>mO (K w.params) ts) hn hn2 hdf hr (λw h Y=>PySem.W.km_in_of Y) (λw h Y q hq=>?_) (λw q hq=>mM (ok w) (hX hq).1) F (λw H a ns h1 hO hS=>hsp w H a ns h1 (λT hT=>?_) hS) hCX
 ·obtain⟨h1,h2⟩:=hX hq;exact⟨PySem.W.codeHd_of_K (PySem.W.km_in_of Y) h2,PySem.W.km_tabs_of Y _ h1⟩
 obtain⟨c,hc⟩:=mN (ok w) hT;exact hO.tab _ hc
def Fz:HO->Prop
 | .dK _=>True
 | .dT _=>True
 | .lst _=>True
 | _=>False
def back (H:Hp) (a:Addr) (H':Hp):Hp:=λb=>if b=a then H a else H' b
theorem fU:back H a H' a=H a:=Qp rfl
theorem bz (h:b≠a):back H a H' b=H' b:=Qn h
section
variable {X:Cx} {pins:D0} {O σ':St} {H H':Hp} {s s':Shared} {a:Addr} {u:HO} {o:Obj}
theorem nV (r:Rd H a u):∃v,H a=some v:=by
 rcases r with r|⟨o,r⟩ <;> exact⟨_,r⟩
theorem vn (r:Rd H a u) (f:Fz u):(∀xs,H a≠some (.tup xs))/\(∀ps,H a≠some (.tbl ps))/\(∀x,H a≠some (.own x))/\∀ob v,H a=some (.frz ob v)->v=u:=by
 rcases r with r|⟨o,r⟩
 ·refine⟨λxs z=>?_,λps z=>?_,λx z=>?_,λob v z=>?_⟩ <;> (rw[r]at z;cases z;exact f.elim)
 refine⟨λxs z=>?_,λps z=>?_,λx z=>?_,λob v z=>?_⟩ <;> (rw[r]at z;cases z);rfl
theorem Inv.freeze (I:Inv X pins O H s) (r:Rd H a u) (f:Fz u) (e:s.heap.get? a=some o):Inv X pins O (upd H a (.frz o u)) s:=by
 obtain⟨v,hv⟩:=nV r;obtain⟨n1,n2,n3,n4⟩:=vn r f;have ne:∀{b},H b=none->b≠a:=λh z=>by rw[z,hv]at h;cases h
 have ok:=r.ok I.hok;refine⟨I.ok,I.os,I.bare,⟨I.base.keep,I.base.slot,λb ob q n hx=>?_,I.base.there,λb xs q=>?_,λb ob w q=>?_,λb ps q=>?_⟩,I.loc,I.cell,?_,λx c h=>?_,λp hp=>?_,λb w q=>?_,I.len⟩
 ·have:=I.base.free b ob q n hx;rw[am (ne this)];exact this
 ·have:=I.base.tups b xs q;rw[am (λz=>n1 xs (by rw[<-z];exact this))];exact this
 ·have z:=I.base.frzs b ob w q;by_cases hb:b=a
  ·subst hb;have ew:=n4 ob w z;subst ew;obtain⟨e1,_⟩:=I.hok b _ z;rw[e]at e1;cases e1;exact ah
  rw[am hb];exact z
 ·obtain⟨more,z⟩:=I.base.tbls b ps q;exact⟨more,by rw[am (λy=>n2 _ (by rw[<-y];exact z))];exact z⟩
 ·rw[am (ne I.free)];exact I.free
 ·rw[am (ne (I.freeC x c h))];exact I.freeC x c h
 ·obtain⟨p1,p2,p3,p4,p5⟩:=I.pin p hp;exact⟨p1,by rw[am (ne p2)];exact p2,p3,p4,p5⟩
 have st:∀{b w},bp X.prog X.w H s.heap b w->bp X.prog X.w (upd H a (.frz o u)) s.heap b w:=λh=>h.stay (λ_ _ _ q=>q) (λd q=>by rw[am (λz=>n3 _ (by rw[<-z];exact q))];exact q) λd xs q=>by rw[am (λz=>n1 _ (by rw[<-z];exact q))];exact q
 by_cases hb:b=a
 ·subst hb;rw[ah]at q;cases q;exact⟨e,st ok⟩
 rw[am hb]at q;exact st (I.hok b w q)
theorem Inv.thaw (I:Inv X pins O H s) (r:Rd H a u) (f:Fz u) (e:s.heap.get? a=some o) (J:Inv X pins σ' H' s') (h':H' a=some (.frz o u)):Inv X pins σ' (back H a H') s':=by
 obtain⟨v,hv⟩:=nV r;obtain⟨n1,n2,n3,n4⟩:=vn r f;have ne:∀{b},H' b=none->b≠a:=λh z=>by rw[z,h']at h;cases h
 have ok:=J.hok a _ h';refine⟨J.ok,J.os,J.bare,⟨J.base.keep,J.base.slot,λb ob q n hx=>?_,J.base.there,λb xs q=>?_,λb ob w q=>?_,λb ps q=>?_⟩,J.loc,J.cell,?_,λx c h=>?_,λp hp=>?_,λb w q=>?_,J.len⟩
 ·have:=J.base.free b ob q n hx;rw[bz (ne this)];exact this
 ·have:=J.base.tups b xs q;rw[bz (λz=>by rw[z,h']at this;cases this)];exact this
 ·by_cases hb:b=a
  ·subst hb;rw[fU];exact I.base.frzs b ob w q
  rw[bz hb];exact J.base.frzs b ob w q
 ·obtain⟨more,z⟩:=J.base.tbls b ps q;exact⟨more,by rw[bz (λy=>by rw[y,h']at z;cases z)];exact z⟩
 ·rw[bz (ne J.free)];exact J.free
 ·rw[bz (ne (J.freeC x c h))];exact J.freeC x c h
 ·obtain⟨p1,p2,p3,p4,p5⟩:=J.pin p hp;exact⟨p1,by rw[bz (ne p2)];exact p2,p3,p4,p5⟩
 have st:∀{b w},bp X.prog X.w H' s'.heap b w->bp X.prog X.w (back H a H') s'.heap b w:=λh=>h.stay (λ_ _ _ q=>q) (λd q=>by rw[bz (λz=>by rw[z,h']at q;cases q)];exact q) λd xs q=>by rw[bz (λz=>by rw[z,h']at q;cases q)];exact q
 by_cases hb:b=a
 ·subst hb;rw[fU]at q;rcases r with r|⟨o2,r⟩
  ·rw[r]at q;cases q;exact st ok.2
  obtain⟨e2,_⟩:=I.hok b _ r;rw[e]at e2;cases e2;rw[r]at q;cases q;exact⟨ok.1,st ok.2⟩
 rw[bz hb]at q;exact st (J.hok b w q)
def x_ (t:TE):TE:=λO H Q=>∃a u,Rd H a u/\Fz u/\∀o,t O (upd H a (.frz o u)) λv H'=>H' a=some (.frz o u)/\Q v (back H a H')
theorem rE {ex:Expr} {t:TE} (h:PE X ex t):PE X ex (x_ t):=by
 intro pins s O H Q I q;obtain⟨a,u,r,f,q⟩:=q
 obtain⟨o,e⟩:∃o,s.heap.get? a=some o:=by
  rcases r with r|⟨o,r⟩
  ·have:=(I.hok a _ r)
   cases u with
   | lst xs=>obtain⟨_,_,_,_,e⟩:=this;exact⟨_,e⟩
   | dK kvs=>obtain⟨_,_,_,_,o,_,_,e,_⟩:=this;exact⟨_,e⟩
   | dT kvs=>obtain⟨_,_,_,_,o,_,_,e,_⟩:=this;exact⟨_,e⟩
   | _=>exact f.elim
  exact⟨o,(I.hok a _ r).1⟩
 refine Xm (h pins s O _ _ (I.freeze r f e) (q o)) (λv s' z=>?_) λ_ _ z=>z;obtain⟨v',H',J,rv,h1,h2⟩:=z;exact⟨v',_,I.thaw r f e J h1,rv,h2⟩
end
theorem KV.len {κ:Type} {xs:List (κ × V)} {ys:List (κ × Value)} (r:KV xs ys):xs.length=ys.length:=X8 r
theorem KV.get {κ:Type}:∀{xs:List (κ × V)} {ys:List (κ × Value)} {i:Nat} {k:κ} {v:V},KV xs ys->xs[i]?=some (k,v)->∃u,ys[i]?=some (k,u)/\aR v u
 | _,_,_,_,_,.nil,e=>by simp at e
 | _,(k',u)::_,0,k,v,.cons r _,e=>by
  simp at e;subst e;obtain⟨r1,r2⟩:=r;have r1:k=k':=r1;subst r1;exact⟨u,rfl,r2⟩
 | _,_,i+1,k,v,.cons _ t,e=>by
  obtain⟨u,h1,h2⟩:=KV.get (i:=i) t (by simpa using e);exact⟨u,by simpa using h1,h2⟩
section
variable {X:Cx} {tg:Expr}
end
section
variable {X:Cx} {o e f:Expr} {apos cpos:Pos} {td ty tx:TE}
end
end L2
namespace Bf
section
variable {κ:Type} [DecidableEq κ]
inductive Reach (nx:κ->List κ) (s:κ):κ->Prop
 | start:Reach nx s s
 | step {a b:κ}:Reach nx s a->b∈nx a->Reach nx s b
variable {nx:κ->List κ} {s:κ}
theorem eI:∀(xs ys:List κ),xs.Nodup->(∀x∈xs,x∈ys)->xs.length<=ys.length
 | [],_,_,_=>Q0 _
 | x::xs,ys,nd,h=>by
  rw[Q4]at nd;have hx:x∈ys:=h x Xl;have:=eI xs (ys.erase x) nd.2 λy hy=>(List.mem_erase_of_ne (λz:y=x=>nd.1 (by rw[<-z];exact hy))).mpr (h y (Qo _ hy));rw[List.length_erase_of_mem hx]at this;have:0<ys.length:=List.length_pos_of_mem hx;simp only[Q2];omega
end
end Bf
namespace L2
open PySem PySem.Spec PyProof.Rows
section
variable {X:Cx}
def wJ:V->List V->Hp->VK->Prop:=λx vs H Q=>∃(l:Addr) (xs:List Str) (y:Str) (j:Nat),x=.ref l/\vs=[.str y]/\H l=some (.lst (xs.map V.str))/\xs[j]?=some y/\(∀m,m<j->xs[m]?≠some y)/\xs.length<=100000/\Q (.int j) H
theorem lq:MtR X "list.index" wJ:=by
 intro pins s O H x vs v us Q I rx rv h;obtain⟨l,xs,y,j,rfl,rfl,hH,hj,hno,hz,q⟩:=h;cases rx;obtain⟨u,rfl,t,rfl⟩:=dJ rv;obtain⟨z,its,n,r,hl,e⟩:=I.lstM hH;have sa:=eD r;have hlen:its.length=xs.length:=by rw[<-hl,Qb]
 have hjl:j<xs.length:=(Qf.mp hj).1
 have at':∀m (hm:m<its.toArray.size),isStrOf y its.toArray[m]=(xs[m]'(by rw[Ql]at hm;exact k_ hlen hm)==y):=λm hm=>by
  rw[Ql]at hm;obtain⟨u,hu,ru⟩:=r.get (i:=m) (show (xs.map V.str)[m]?=some (.str (xs[m]'(by exact k_ hlen hm))) from by rw[Qy,Qd (by exact k_ hlen hm)];rfl);obtain⟨tu,eu⟩:=ru;subst eu
  have e2:its.toArray[m]=.str (xs[m]'(by exact k_ hlen hm)) tu:=by
   have:=(Qf.mp hu).2;simpa using this
  rw[e2];rfl
 refine call_meets F.slot_list_index ⟨_,e,rfl⟩ F.entry_list_index (F.args_list_index_2 _ _) (MeetsSeq.list_index l its.toArray n (.str y t) (isStrOf y) (λv hv=>eq_isStrOf y t sa v (by simpa using hv)) j (by rw[Ql];exact uu hlen hjl) (by omega) ?_ (λm hm hmj=>?_)) ⟨e,?_⟩
 ·rw[at' j (by rw[Ql];exact uu hlen hjl)];have:=(Qf.mp hj).2;rw[this];simp
 ·rw[at' m hm];rw[Ql]at hm;have h1:=hno m hmj;rw[Qd (by exact k_ hlen hm)]at h1;simpa using h1
 exact⟨.int j,H,I.tok _,⟨_,rfl⟩,q⟩
end
section
variable {X:Cx}
end
section
variable {X:Cx}
end
end L2
set_option maxHeartbeats 1000000
namespace Tm
open PySem PyProof.Rows
def jO:Bool->Keyed->Array Keyed->Nat->Nat->Nat->StateT SortSt Sem (Option Nat):=sortPriv% PySem.Builtin.gallop
def lA:Array Keyed->Array Keyed->StateT SortSt Sem (Array Keyed):=sortPriv% PySem.Builtin.mergeLo
def lB:Array Keyed->Array Keyed->StateT SortSt Sem (Array Keyed):=sortPriv% PySem.Builtin.mergeHi
def gk (κ:KeyKind) (kd:SortKind) (prog:Program) (w:World) (A:Around) (s:Shared):Prop :=
 ∀(E:C9) (x y:Value) (a b:κ.α) (Q:Bool->Shared->Prop),κ.keyOf x=some a->κ.keyOf y=some b->Q (κ.blt a b) s->wpAny (model prog w) A (keyLt' kd x y) Q E s
def kv (κ:KeyKind) (p:Keyed):κ.α:=(κ.keyOf p.1).getD κ.dflt
def Hk (κ:KeyKind) (p:Keyed):Prop:=∃a,κ.keyOf p.1=some a
variable {prog:Program} {w:World} {A:Around} {E:C9} {s:Shared} {κ:KeyKind} {kd:SortKind}
section
theorem aH {O α:Type} {M:Model} {Q:α->O->Prop} {st:O} {c:Prop} [Decidable c] {t e:StateT O Sem α} (h:c) (q:wpS M A E s t Q st):wpS M A E s (if c then t else e) Q st:=by rw[Qp h];exact q
theorem aF {O α:Type} {M:Model} {Q:α->O->Prop} {st:O} {c:Prop} [Decidable c] {t e:StateT O Sem α} (h:¬c) (q:wpS M A E s e Q st):wpS M A E s (if c then t else e) Q st:=by rw[Qn h];exact q
variable {i j n hint:Nat}
theorem bT (h:i=j):(i==j)=true:=by simp[h]
theorem bF (h:¬i=j):¬(i==j)=true:=by simpa using h
variable {Q:Option Bool->SortSt->Prop} {x y p key:Keyed} {st:SortSt}
theorem gy (hL:gk κ kd prog w A s) (hk:kindOf st=kd) (hx:Hk κ x) (hy:Hk κ y) (h:Q (some (κ.blt (kv κ x) (kv κ y))) st):wpS (model prog w) A E s (lt' x y) Q st:=by
 obtain⟨a,ha⟩:=hx;obtain⟨b,hb⟩:=hy;rw[lt'_eq];refine Qt (wpS_get ?_);rw[hk];refine Qt (wpS_lift (wpAny_attempt (hL _ _ _ _ _ _ ha hb ⟨rfl,?_⟩)));unfold kv at h;rw[ha,hb]at h;exact Qz h
variable {arr:Array Keyed}
theorem aX {Q:Keyed->SortSt->Prop} (h:arr[i]?=some p) (q:Q p st):wpS (model prog w) A E s (elem' arr i) Q st:=by
 rw[elem'_eq,h];exact Qz q
def bey (κ:KeyKind) (left:Bool) (key p:Keyed):Bool:=if left then κ.blt (kv κ p) (kv κ key) else !κ.blt (kv κ key) (kv κ p)
theorem cS (hL:gk κ kd prog w A s) {left:Bool} {b:Bool} (hk:kindOf st=kd) (hkey:Hk κ key)
  (hP:∃p,arr[j]?=some p/\Hk κ p/\bey κ left key p=b) (h:Q (some b) st) :
  wpS (model prog w) A E s (elem' arr j >>= λx=>if left=true then lt' x key else lt' key x >>= λr=>pure (Option.map (λz=>!z) r)) Q st:=by
 obtain⟨p,hp,hkp,rfl⟩:=hP;refine Qt (aX hp ?_);unfold bey at h
 cases left with
 | true=>exact gy hL hk hkp hkey h
 | false=>exact Qt (gy hL hk hkey hkp (Qz h))
theorem lU (hL:gk κ kd prog w A s) {left:Bool} {base:Nat} {Q:Option Nat->SortSt->Prop} (P:Nat->Bool) (hk:kindOf st=kd) (hkey:Hk κ key)
  (hP:∀i,i<n->∃p,arr[base+i]?=some p/\Hk κ p/\bey κ left key p=P i) (mono:∀i j,i<=j->j<n->P j=true->P i=true) (hh:hint<n)
  (h:∀k,k<=n->(∀i,i<k->P i=true)->(∀i,k<=i->i<n->P i=false)->Q (some k) st):wpS (model prog w) A E s (jO left key arr base n hint) Q st:=by
 have monoF:∀i j,i<=j->j<n->P i=false->P j=false:=λi j h1 h2 h3=>by
  cases e:P j with
  | false=>rfl
  | true=>rw[mono i j h1 h2 e]at h3;cases h3
 unfold jO;refine Qt (cS hL hk hkey (hP hint hh) ?_)
 have fin:∀(lo hi:Nat) (F:(Option (Option Nat) × Nat × Nat)->StateT SortSt Sem (Option Nat)) (body:Nat->(Option (Option Nat) × Nat × Nat)->StateT SortSt Sem (ForInStep (Option (Option Nat) × Nat × Nat))),lo<=hi->hi<=n->(∀i,i<lo->P i=true)->(∀i,hi<=i->i<n->P i=false) ->
   (∀l k,F (none,l,k)=pure (some k))->(∀x l k (R:ForInStep (Option (Option Nat) × Nat × Nat)->SortSt->Prop),l<=k->k<=n->(l=k->R (.done (none,l,k)) st)->(l<k->P (l+(k-l) / 2)=true->R (.yield (none,l+(k-l) / 2+1,k)) st)->(l<k->P (l+(k-l) / 2)=false->R (.yield (none,l,l+(k-l) / 2)) st)->wpS (model prog w) A E s (body x (none,l,k)) R st) ->
   wpS (model prog w) A E s (forIn [0:n] (none,lo,hi) body >>= F) Q st:=λlo hi F body h1 h2 h3 h4 hF hb=>by
  refine Qt (wpS_mono (Xz (I:=λx c st'=>st'=st/\∃l k,c=(none,l,k)/\l<=k/\k<=n/\k-l<=n-x/\(∀i,i<l->P i=true)/\(∀i,k<=i->i<n->P i=false))
   (Q:=λc st'=>st'=st/\∃k,c=(none,k,k)/\k<=n/\(∀i,i<k->P i=true)/\(∀i,k<=i->i<n->P i=false)) ?_ ?_ ⟨rfl,lo,hi,rfl,h1,h2,by exact CF h1 h2,h3,h4⟩) ?_)
  ·rintro x c st' _ hx ⟨rfl,l,k,rfl,a1,a2,a3,a4,a5⟩;refine hb x l k _ a1 a2 (λe=>?_) (λe p=>?_) (λe p=>?_)
   ·subst e;exact⟨rfl,l,rfl,a2,a4,a5⟩
   ·exact⟨rfl,_,k,rfl,by exact CD e,a2,yC a3,λi hi=>mono i _ (by exact CC hi) (by exact CB a2 e) p,a5⟩
   exact⟨rfl,l,_,rfl,by exact CA,by exact Cz a2 e,yB a3 e,a4,λi h1 h2=>monoF _ i h1 h2 p⟩
  ·rintro c st' ⟨rfl,l,k,rfl,a1,a2,a3,a4,a5⟩;have:l=k:=by exact zc a1 a3
   subst this;exact⟨rfl,l,rfl,a2,a4,a5⟩
  rintro c st' ⟨rfl,k,rfl,a2,a4,a5⟩;rw[hF];exact Qz (h k a2 a4 a5)
 dsimp only
 cases hp:P hint with
 | true =>
  refine aH rfl ?_
  refine Qt (wpS_mono (Xz (I:=λx c st'=>st'=st/\∃l o,c=(none,l,o)/\l<o/\x+1<=o/\hint+l<n/\P (hint+l)=true)
   (Q:=λc st'=>st'=st/\∃l o,c=(none,l,o)/\l<o/\hint+l<n/\P (hint+l)=true/\(o<n-hint->P (hint+o)=false)) ?_ ?_ ⟨rfl,0,1,rfl,by omega,by omega,by exact Cy hh,hp⟩) ?_)
  ·rintro x c st' _ hx ⟨rfl,l,o,rfl,a1,a2,a3,a4⟩;dsimp only;by_cases c1:o>=n-hint
   ·refine aH c1 ?_;exact Qz ⟨rfl,l,o,rfl,a1,a3,a4,λz=>by omega⟩
   refine aF c1 ?_;refine Qt (cS hL hk hkey (hP (hint+o) (by exact yX hh c1)) ?_);dsimp only
   cases e:P (hint+o) with
   | true =>
    refine aF Qk ?_;exact Qz ⟨rfl,o,2*o+1,rfl,by exact yS,by omega,by exact yX hh c1,e⟩
   | false =>
   refine aH rfl ?_;exact Qz ⟨rfl,l,o,rfl,a1,a3,a4,λ_=>e⟩
  ·rintro c st' ⟨rfl,l,o,rfl,a1,a2,a3,a4⟩;exact⟨rfl,l,o,rfl,a1,a3,a4,λz=>by omega⟩
  rintro c st' ⟨rfl,l,o,rfl,a1,a3,a4,a5⟩;dsimp only;refine fin _ _ _ _ (by exact Cw hh a1 a3) (by exact Cv hh) (λi hi=>mono i (hint+l) (by exact Cu hi) a3 a4) (λi h1 h2=>?_) (λl k=>rfl) ?_
  ·by_cases z:o<n-hint
   ·exact monoF (hint+o) i (by exact Ct hh h1 z) h2 (a5 z)
   omega
  intro x l k R h1 h2 q1 q2 q3;dsimp only;by_cases c:l>=k
  ·refine aH c ?_;exact Qz (q1 (by exact xa h1 c))
  refine aF c ?_;refine Qt (cS hL hk hkey (hP _ (by exact yR h2 c)) ?_);dsimp only
  cases e:P (l+(k-l) / 2) with
  | true=>refine aH rfl ?_;exact Qz (q2 (by exact ur c) e)
  | false=>refine aF Qk ?_;exact Qz (q3 (by exact ur c) e)
 | false =>
 refine aF Qk ?_
 refine Qt (wpS_mono (Xz (I:=λx c st'=>st'=st/\∃l o,c=(none,l,o)/\l<o/\x+1<=o/\l<=hint/\P (hint-l)=false)
  (Q:=λc st'=>st'=st/\∃l o,c=(none,l,o)/\l<o/\l<=hint/\P (hint-l)=false/\(o<hint+1->P (hint-o)=true)) ?_ ?_ ⟨rfl,0,1,rfl,by omega,by omega,by exact w_,hp⟩) ?_)
 ·rintro x c st' _ hx ⟨rfl,l,o,rfl,a1,a2,a3,a4⟩;dsimp only;by_cases c1:o>=hint+1
  ·refine aH c1 ?_;exact Qz ⟨rfl,l,o,rfl,a1,a3,a4,λz=>by omega⟩
  refine aF c1 ?_;refine Qt (cS hL hk hkey (hP (hint-o) (by exact Cs hh a1 c1)) ?_);dsimp only
  cases e:P (hint-o) with
  | true =>
   refine aH rfl ?_;exact Qz ⟨rfl,l,o,rfl,a1,a3,a4,λ_=>e⟩
  | false =>
  refine aF Qk ?_;exact Qz ⟨rfl,o,2*o+1,rfl,by exact yS,by omega,by exact Cr c1,e⟩
 ·rintro c st' ⟨rfl,l,o,rfl,a1,a2,a3,a4⟩;exact⟨rfl,l,o,rfl,a1,a3,a4,λz=>by omega⟩
 rintro c st' ⟨rfl,l,o,rfl,a1,a3,a4,a5⟩;dsimp only;refine fin _ _ _ _ (by exact Cq a1 a3) (by exact Cp hh a3) (λi hi=>?_) (λi h1 h2=>monoF (hint-l) i h1 h2 a4) (λl k=>rfl) ?_
 ·by_cases z:o<hint+1
  ·exact mono i (hint-o) (by exact Co hi z) (by exact Cn hh a1 z) (a5 z)
  omega
 intro x l k R h1 h2 q1 q2 q3;dsimp only;by_cases c:l>=k
 ·refine aH c ?_;exact Qz (q1 (by exact xa h1 c))
 refine aF c ?_;refine Qt (cS hL hk hkey (hP _ (by exact yR h2 c)) ?_);dsimp only
 cases e:P (l+(k-l) / 2) with
 | true=>refine aH rfl ?_;exact Qz (q2 (by exact ur c) e)
 | false=>refine aF Qk ?_;exact Qz (q3 (by exact ur c) e)
end
section
variable {κ:KeyKind}
def le (κ:KeyKind) (p q:Keyed):Prop:=κ.kle (kv κ p) (kv κ q)
structure MI (κ:KeyKind) (L o x y:List Keyed):Prop where
 perm:(o++(x++y)).Perm L
 so:o.Pairwise (le κ)
 sx:x.Pairwise (le κ)
 sy:y.Pairwise (le κ)
 ox:∀p∈o,∀q∈x,le κ p q
 oy:∀p∈o,∀q∈y,le κ p q
 last:∀q∈y,∀l,x.getLast?=some l->le κ q l
variable {L o x2 y x y2:List Keyed}
theorem MI.takeXs {x1:List Keyed} (h:MI κ L o (x1++x2) y) (hq:∀p∈x1,∀q∈y,le κ p q):MI κ L (o++x1) x2 y:=by
 have sx:=Q5.mp h.sx;refine⟨?_,Q5.mpr ⟨h.so,sx.1,λp hp q hq=>h.ox p hp q (Qj.mpr (.inl hq))⟩,sx.2.1,h.sy,λp hp q hq'=>?_,λp hp q hq'=>?_,λq hq' l hl=>?_⟩
 ·have:=h.perm;rwa [Xa,<-Xa o]at this
 ·rcases Qj.mp hp with a|a
  ·exact h.ox p a q (Qj.mpr (.inr hq'))
  exact sx.2.2 p a q hq'
 ·rcases Qj.mp hp with a|a
  ·exact h.oy p a q hq'
  exact hq p a q hq'
 refine h.last q hq' l ?_;rw[List.getLast?_append,hl];rfl
theorem MI.takeYs {y1:List Keyed} (h:MI κ L o x (y1++y2)) (hq:∀q∈y1,∀p∈x,le κ q p):MI κ L (o++y1) x y2:=by
 have sy:=Q5.mp h.sy;refine⟨?_,Q5.mpr ⟨h.so,sy.1,λp hp q hq=>h.oy p hp q (Qj.mpr (.inl hq))⟩,h.sx,sy.2.1,λp hp q hq'=>?_,λp hp q hq'=>?_,λq hq' l hl=>?_⟩
 ·refine List.Perm.trans ?_ h.perm;rw[Xa];refine List.Perm.append_left _ ?_;rw[<-Xa,<-Xa];exact List.Perm.append_right _ List.perm_append_comm
 ·rcases Qj.mp hp with a|a
  ·exact h.ox p a q hq'
  exact hq p a q hq'
 ·rcases Qj.mp hp with a|a
  ·exact h.oy p a q (Qj.mpr (.inr hq'))
  exact sy.2.2 p a q hq'
 exact h.last q (Qj.mpr (.inr hq')) l hl
variable {p q r l:Keyed}
theorem le_trans (a:le κ p q) (b:le κ q r):le κ p r:=KeyOrd.kle_trans a b
theorem d8 (s:(p::x).Pairwise (le κ)) (h:le κ q p) (hr:r∈p::x):le κ q r:=by
 rcases Qw.mp hr with e|e
 ·rw[e];exact h
 exact le_trans h ((List.pairwise_cons.mp s).1 r e)
theorem MI.takeY (h:MI κ L o (p::x) (q::y)) (c:le κ q p):MI κ L (o++[q]) (p::x) y :=
 MI.takeYs (y1:=[q]) h λr hr s hs=>by
  have e:r=q:=by simpa using hr
  subst e;exact d8 h.sx c hs
theorem MI.takeX (h:MI κ L o (p::x) (q::y)) (c:le κ p q):MI κ L (o++[p]) x (q::y) :=
 MI.takeXs (x1:=[p]) h λr hr s hs=>by
  have e:r=p:=by simpa using hr
  subst e;exact d8 h.sy c hs
def Srt (κ:KeyKind) (L r:List Keyed):Prop:=r.Perm L/\r.Pairwise (le κ)
theorem MI.endY (h:MI κ L o x []):Srt κ L (o++x):=⟨by simpa using h.perm,Q5.mpr ⟨h.so,h.sx,h.ox⟩⟩
theorem MI.endX (h:MI κ L o [] y):Srt κ L (o++y):=⟨by simpa using h.perm,Q5.mpr ⟨h.so,h.sy,h.oy⟩⟩
theorem MI.lastX (h:MI κ L o [l] y):Srt κ L (o++y++[l]):=by
 refine⟨List.Perm.trans ?_ h.perm,Q5.mpr ⟨Q5.mpr ⟨h.so,h.sy,h.oy⟩,by simp,λp hp q hq=>?_⟩⟩
 ·rw[Xa];exact List.Perm.append_left _ List.perm_append_comm
 have e:q=l:=by simpa using hq
 subst e;rcases Qj.mp hp with a|a
 ·exact h.ox p a q (by simp)
 exact h.last p a q rfl
end
section
structure Gs (st st':SortSt):Prop where
 kind:kindOf st'=kindOf st
 arr:arrOf st'=arrOf st
 pend:pendingOf st'=pendingOf st
 fail:failedOf st'=failedOf st
theorem Gs.refl (st:SortSt):Gs st st:=⟨rfl,rfl,rfl,rfl⟩
theorem Gs.trans {a b c:SortSt} (x:Gs a b) (y:Gs b c):Gs a c:=⟨y.kind.trans x.kind,y.arr.trans x.arr,y.pend.trans x.pend,y.fail.trans x.fail⟩
def nP:Nat->StateT SortSt Sem Unit:=sortPriv% PySem.Builtin.setMinGallop
variable {g ia ib n m i j:Nat}
theorem du {st:SortSt} {Q:Unit->SortSt->Prop} (h:∀st',Gs st st'->Q () st'):wpS (model prog w) A E s (nP g) Q st:=by
 unfold nP;exact wpS_modify (h _ ⟨rfl,rfl,rfl,rfl⟩)
theorem fS (a:Array Keyed) (i:Nat):(a.extract i a.size).toList=a.toList.drop i:=by
 have:(a.toList.drop i).length<=a.size-i:=by simp
 simpa using Q1 this
theorem gu (a:Array Keyed) (i k:Nat):(a.extract i (i+k)).toList=(a.toList.drop i).take k:=by
 simp
theorem aU {a:Array Keyed} {i:Nat} (h:i<a.size):∃p,a[i]?=some p/\a.toList.drop i=p::a.toList.drop (i+1)/\p∈a.toList :=
 ⟨a[i],QI h,by rw[List.drop_eq_getElem_cons (by simpa using h)];simp,by simp⟩
structure LJ (κ:KeyKind) (a b:Array Keyed) (n:Nat) (out:Array Keyed) (ia ib:Nat):Prop where
 mi:MI κ (a.toList++b.toList) out.toList (a.toList.drop ia) (b.toList.drop ib)
 la:ia<=a.size
 lb:ib<=b.size
 lo:out.size=ia+ib
 n:n<=out.size
variable {a b:Array Keyed}
theorem LJ.less {out:Array Keyed} (h:LJ κ a b n out ia ib) (hm:m<=n):LJ κ a b m out ia ib:=⟨h.mi,h.la,h.lb,h.lo,QR hm h.n⟩
theorem LJ.doneB {out:Array Keyed} (h:LJ κ a b n out ia ib) (e:ib=b.size):Srt κ (a.toList++b.toList) (out++a.extract ia a.size++b.extract ib b.size).toList:=by
 have m:=h.mi;have d:b.toList.drop ib=[]:=by rw[e];simp
 rw[d]at m;rw[QK,QK,fS,fS,d,X0];exact m.endY
theorem LJ.doneA {out:Array Keyed} (h:LJ κ a b n out ia ib) (e:ia=a.size):Srt κ (a.toList++b.toList) (out++a.extract ia a.size++b.extract ib b.size).toList:=by
 have m:=h.mi;have d:a.toList.drop ia=[]:=by rw[e];simp
 rw[d]at m;rw[QK,QK,fS,fS,d,X0];exact m.endX
theorem LJ.lastA {out:Array Keyed} (h:LJ κ a b n out ia ib) (e:ia+1=a.size):Srt κ (a.toList++b.toList) (out++b.extract ib b.size++a.extract ia a.size).toList:=by
 have m:=h.mi;obtain⟨p,_,d,_⟩:=aU (a:=a) (i:=ia) (by exact Cm e);have d2:a.toList.drop (ia+1)=[]:=by rw[e];simp
 rw[d2]at d;rw[d]at m;rw[QK,QK,fS,fS,d];exact m.lastX
variable {p q key:Keyed}
theorem LJ.pushB {out:Array Keyed} (h:LJ κ a b n out ia ib) (ha:a[ia]?=some p) (hb:b[ib]?=some q) (c:le κ q p):LJ κ a b (n+1) (out.push q) ia (ib+1):=by
 have lb:=(Qx.mp hb).1;have la:=(Qx.mp ha).1;obtain⟨p',e1,d1,_⟩:=aU la;obtain⟨q',e2,d2,_⟩:=aU lb;rw[ha]at e1;rw[hb]at e2;cases e1;cases e2;have m:=h.mi;rw[d1,d2]at m;have m:=m.takeY c;rw[<-d1]at m;refine⟨by rw[Array.toList_push];exact m,h.la,lb,by rw[Array.size_push,h.lo];exact Cl,by rw[Array.size_push];have:=h.n;exact rP this⟩
theorem LJ.pushA {out:Array Keyed} (h:LJ κ a b n out ia ib) (ha:a[ia]?=some p) (hb:b[ib]?=some q) (c:le κ p q):LJ κ a b (n+1) (out.push p) (ia+1) ib:=by
 have lb:=(Qx.mp hb).1;have la:=(Qx.mp ha).1;obtain⟨p',e1,d1,_⟩:=aU la;obtain⟨q',e2,d2,_⟩:=aU lb;rw[ha]at e1;rw[hb]at e2;cases e1;cases e2;have m:=h.mi;rw[d1,d2]at m;have m:=m.takeX c;rw[<-d2]at m;refine⟨by rw[Array.toList_push];exact m,la,h.lb,by rw[Array.size_push,h.lo];exact Ck,by rw[Array.size_push];have:=h.n;exact rP this⟩
theorem LJ.runA {out:Array Keyed} {k:Nat} (h:LJ κ a b n out ia ib) (hb:b[ib]?=some q) (hk:ia+k<=a.size) (c:∀i,i<k->∀p,a[ia+i]?=some p->le κ p q):LJ κ a b n (out++a.extract ia (ia+k)) (ia+k) ib:=by
 have lb:=(Qx.mp hb).1;obtain⟨q',e2,d2,_⟩:=aU lb;rw[hb]at e2;cases e2;have m:=h.mi;have sy:=m.sy;rw[<-QX k (a.toList.drop ia)]at m
 have m:=m.takeXs λp hp r hr=>by
  obtain⟨i,hi,e⟩:=Q6.mp hp;rw[QA]at hi;have e3:=Qd (l:=(a.toList.drop ia).take k) (i:=i) (by rw[QA];exact yQ hi);rw[e,List.getElem?_take,Qp (by exact uq hi),List.getElem?_drop,Qv]at e3;rw[d2]at hr sy;exact d8 sy (c i (by exact uq hi) p e3) hr
 rw[List.drop_drop]at m;have sz:(a.extract ia (ia+k)).size=k:=by rw[Array.size_extract];exact yP hk
 refine⟨by rw[QK,gu];exact m,hk,h.lb,by rw[Xr,sz,h.lo];exact Cj,by rw[Xr];have:=h.n;exact yO sz this⟩
theorem LJ.runB {out:Array Keyed} {k:Nat} (h:LJ κ a b n out ia ib) (ha:a[ia]?=some p) (hk:ib+k<=b.size) (c:∀i,i<k->∀q,b[ib+i]?=some q->le κ q p):LJ κ a b n (out++b.extract ib (ib+k)) ia (ib+k):=by
 have la:=(Qx.mp ha).1;obtain⟨p',e2,d2,_⟩:=aU la;rw[ha]at e2;cases e2;have m:=h.mi;have sx:=m.sx;rw[<-QX k (b.toList.drop ib)]at m
 have m:=m.takeYs λq hq r hr=>by
  obtain⟨i,hi,e⟩:=Q6.mp hq;rw[QA]at hi;have e3:=Qd (l:=(b.toList.drop ib).take k) (i:=i) (by rw[QA];exact yQ hi);rw[e,List.getElem?_take,Qp (by exact uq hi),List.getElem?_drop,Qv]at e3;rw[d2]at hr sx;exact d8 sx (c i (by exact uq hi) q e3) hr
 rw[List.drop_drop]at m;have sz:(b.extract ib (ib+k)).size=k:=by rw[Array.size_extract];exact yP hk
 refine⟨by rw[QK,gu];exact m,h.la,hk,by rw[Xr,sz,h.lo];exact Ci,by rw[Xr];have:=h.n;exact yO sz this⟩
theorem oB (s:a.toList.Pairwise (le κ)) (h:i<=j) (hi:a[i]?=some p) (hj:a[j]?=some q):le κ p q:=by
 by_cases e:i=j
 ·subst e;rw[hi]at hj;cases hj;exact X1 _
 have li:=(Qx.mp hi).1;have lj:=(Qx.mp hj).1;have:=(XU.mp s) i j (by simpa using li) (by simpa using lj) (by exact yN h e);rw[QI li]at hi;rw[QI lj]at hj;cases hi;cases hj;simpa using this
theorem dW (hL:gk κ kd prog w A s) {st:SortSt} {left:Bool} {a:Array Keyed} {base n hint:Nat} {Q:Option Nat->SortSt->Prop} (hk:kindOf st=kd) (hkey:Hk κ key) (ha:∀p∈a.toList,Hk κ p) (hn:base+n<=a.size)
  (sa:∀i j p q,base<=i->i<=j->j<base+n->a[i]?=some p->a[j]?=some q->le κ p q) (hh:hint<n)
  (h:∀k,k<=n->(∀i,i<k->∀p,a[base+i]?=some p->bey κ left key p=true)->(∀i,k<=i->i<n->∀p,a[base+i]?=some p->bey κ left key p=false)->Q (some k) st):wpS (model prog w) A E s (jO left key a base n hint) Q st:=by
 refine lU hL (λi=>match a[base+i]? with|some p=>bey κ left key p|none=>false) hk hkey (λi hi=>?_) (λi j h1 h2 h3=>?_) hh (λk h1 h2 h3=>h k h1 (λi hi p e=>?_) (λi hi hj p e=>?_))
 ·have:base+i<a.size:=by exact yM hn hi
  obtain⟨p,e,_,m⟩:=aU this;exact⟨p,e,ha p m,by rw[e]⟩
 ·obtain⟨p,e,_⟩:=aU (a:=a) (i:=base+i) (by exact Ch hn h1 h2);obtain⟨q,e2,_⟩:=aU (a:=a) (i:=base+j) (by exact yM hn h2);have l:=sa _ _ p q (by exact rO) (show base+i<=base+j by exact Cg h1) (by exact Cf h2) e e2;rw[e2]at h3;rw[e];dsimp only at h3 ⊢;unfold bey at h3 ⊢
  cases left with
  | true =>
   rw[Qp rfl]at h3 ⊢;exact KeyOrd.klt_of_kle_of_klt l h3
  | false =>
  rw[Qn (by simp)]at h3 ⊢;have h3:κ.kle (kv κ q) (kv κ key):=by simpa[KeyOrd.kle] using h3
  have:=KeyOrd.kle_trans l h3;simpa[KeyOrd.kle] using this
 ·have:=h2 i hi;rwa [e]at this
 have:=h3 i hi hj;rwa [e]at this
theorem jS (h:bey κ false key p=true):le κ p key:=by
 unfold bey at h;rw[Qn (by simp)]at h;simpa[le,KeyOrd.kle] using h
theorem jR (h:bey κ true key p=true):le κ p key:=by
 unfold bey at h;rw[Qp rfl]at h;exact KeyOrd.kle_of_klt h
theorem jT (h:bey κ false key p=false):le κ key p:=by
 unfold bey at h;rw[Qn (by simp)]at h;exact KeyOrd.kle_of_klt (show κ.blt (kv κ key) (kv κ p)=true by simpa using h)
theorem jU (h:bey κ true key p=false):le κ key p:=by
 unfold bey at h;rw[Qp rfl]at h;exact h
end
section
theorem fE {O α β:Type} {M:Model} {Q:α->O->Prop} {st:O} {m:StateT O Sem α} (f:β->StateT O Sem α) (I:β->Prop) (J:∀z,I z->wpS M A E s (f z) Q st) (h:(∀z,I z->wpS M A E s (f z) Q st)->wpS M A E s m Q st):wpS M A E s m Q st:=h J
@[reducible] def CZ (κ:KeyKind) (a b:Array Keyed) (st:SortSt) (x:Nat) (c:Option (Array Keyed) × Array Keyed × Nat × Nat × Nat) (st':SortSt):Prop:=Gs st st'/\∃out ia ib mg,c=(none,out,ia,ib,mg)/\LJ κ a b (x+1) out ia ib/\ia+1<a.size/\ib<b.size
@[reducible] def CY (κ:KeyKind) (a b:Array Keyed) (st:SortSt)  (c:Option (Array Keyed) × Array Keyed × Nat × Nat × Nat) (st':SortSt):Prop:=Gs st st'/\∃r rest,c=(some r,rest)/\Srt κ (a.toList++b.toList) r.toList
@[reducible] def CW (κ:KeyKind) (a b:Array Keyed) (st:SortSt) (x x':Nat) (c:Option (Array Keyed) × Array Keyed × Nat × Nat × Nat × Nat) (st':SortSt):Prop:=st'=st/\∃out ia ib ac bc,c=(none,out,ia,ib,ac,bc)/\LJ κ a b (x+1+x') out ia ib/\ia+1<a.size/\ib<b.size
@[reducible] def CV (κ:KeyKind) (a b:Array Keyed) (st:SortSt) (x:Nat) (c:Option (Array Keyed) × Array Keyed × Nat × Nat × Nat × Nat) (st':SortSt):Prop:=st'=st/\((∃r rest,c=(some r,rest)/\Srt κ (a.toList++b.toList) r.toList)\/∃out ia ib ac bc,c=(none,out,ia,ib,ac,bc)/\LJ κ a b (x+1) out ia ib/\ia+1<a.size/\ib<b.size)
@[reducible] def CU (κ:KeyKind) (a b:Array Keyed) (st:SortSt) (x x':Nat) (c:Option (Array Keyed) × Array Keyed × Nat × Nat × Nat × Nat × Nat) (st':SortSt):Prop:=Gs st st'/\∃out ia ib mg ac bc,c=(none,out,ia,ib,mg,ac,bc)/\LJ κ a b (x+1+x') out ia ib/\ia+1<a.size/\ib<b.size
@[reducible] def CT (κ:KeyKind) (a b:Array Keyed) (st:SortSt) (x:Nat) (c:Option (Array Keyed) × Array Keyed × Nat × Nat × Nat × Nat × Nat) (st':SortSt):Prop:=Gs st st'/\((∃r rest,c=(some r,rest)/\Srt κ (a.toList++b.toList) r.toList)\/∃out ia ib mg ac bc,c=(none,out,ia,ib,mg,ac,bc)/\LJ κ a b (x+2) out ia ib/\ia+1<a.size/\ib<b.size)
theorem j9 (hL:gk κ kd prog w A s) {st:SortSt} {a b:Array Keyed} {Q:Array Keyed->SortSt->Prop} (hk:kindOf st=kd) (ha:∀p∈a.toList,Hk κ p) (hb:∀p∈b.toList,Hk κ p)
  (na:1<=a.size) (nb:1<=b.size) (mi:MI κ (a.toList++b.toList) [] a.toList b.toList) (first:∀p∈a.toList,∀q,b[0]?=some q->le κ q p)
  (h:∀r st',Gs st st'->Srt κ (a.toList++b.toList) r.toList->Q r st'):wpS (model prog w) A E s (lA a b) Q st:=by
 have sa:=mi.sx;have sb:=mi.sy;unfold lA;refine Qt (wpS_lift (XI ⟨rfl,?_⟩));obtain⟨q0,hq0,_⟩:=aU (a:=b) (i:=0) (by exact rN nb);obtain⟨p0,hp0,_,mp0⟩:=aU (a:=a) (i:=0) (by exact rN na);have j0:LJ κ a b 0 #[] 0 0:=⟨by simpa using mi,by exact yL na,by exact yL nb,rfl,Q0 _⟩;have j1:=j0.pushB hp0 hq0 (first p0 mp0 q0 hq0);have j1:LJ κ a b 1 #[q0] 0 1:=j1;refine Qt (aX hq0 ?_);refine wpS_mono (Q:=λr st'=>Gs st st'/\Srt κ (a.toList++b.toList) r.toList) ?_ (λr st' z=>h r st' z.1 z.2);clear h
 extract_lets out0
 by_cases c1:1=b.size
 ·refine aH (bT c1) ?_;exact Qz ⟨.refl _,j1.doneB c1⟩
 refine aF (bF c1) ?_;by_cases c2:0+1=a.size
 ·refine aH (bT c2) ?_;exact Qz ⟨.refl _,j1.lastA c2⟩
 refine aF (bF c2) ?_;refine Qt (wpS_get ?_)
 extract_lets mg0
 refine Qt (wpS_mono (Xz (I:=CZ κ a b st)
  (Q:=CY κ a b st) ?step ?fin ⟨.refl _,out0,0,1,mg0,rfl,j1,by exact Ce na c2,by exact Cd na nb c1 c2⟩) ?post)
 case post =>
  rintro c st' ⟨g,r,rest,rfl,hr⟩;exact Qz ⟨g,hr⟩
 case fin =>
  rintro c st' ⟨g,out,ia,ib,mg,rfl,j,l1,l2⟩;have:=j.n;have:=j.lo;omega
 case step =>
  rintro x c st1 _ hx ⟨g,out,ia,ib,mg,rfl,j,l1,l2⟩
  refine Qt (wpS_mono (Xz (I:=CW κ a b st1 x)
   (Q:=CV κ a b st1 x) ?step1 ?fin1 ⟨rfl,out,ia,ib,0,0,rfl,j,l1,l2⟩) ?post1)
  case fin1 =>
   rintro c st' ⟨rfl,out,ia,ib,ac,bc,rfl,j,l1,l2⟩;have:=j.n;have:=j.lo;omega
  case step1 =>
   clear j l1 l2;rintro x' c st' _ hx' ⟨rfl,out,ia,ib,ac,bc,rfl,j,l1,l2⟩;obtain⟨p,hp,_,mp⟩:=aU (a:=a) (i:=ia) (by exact w9 l1);obtain⟨q,hq,_,mq⟩:=aU (a:=b) (i:=ib) l2;refine Qt (aX hq (Qt (aX hp (Qt (gy hL (by rw[g.kind];exact hk) (hb q mq) (ha p mp) ?_)))));dsimp only
   cases e:κ.blt (kv κ q) (kv κ p) with
   | true =>
    refine aH rfl ?_;refine Qt (aX hq ?_);have j2:=j.pushB hp hq (KeyOrd.kle_of_klt e);by_cases d1:ib+1=b.size
    ·refine aH (bT d1) ?_;exact Qz ⟨rfl,.inl ⟨_,_,rfl,j2.doneB d1⟩⟩
    refine aF (bF d1) ?_;by_cases d2:bc+1>=mg
    ·refine aH d2 ?_;exact Qz ⟨rfl,.inr ⟨_,_,_,_,_,rfl,j2.less (by omega),l1,by exact w6 l2 d1⟩⟩
    refine aF d2 ?_;exact Qz ⟨rfl,_,_,_,_,_,rfl,j2.less (by exact uo),l1,by exact w6 l2 d1⟩
   | false =>
   refine aF Qk ?_;refine Qt (aX hp ?_);have j2:=j.pushA hp hq e;by_cases d1:ia+1+1=a.size
   ·refine aH (bT d1) ?_;exact Qz ⟨rfl,.inl ⟨_,_,rfl,j2.lastA d1⟩⟩
   refine aF (bF d1) ?_;by_cases d2:ac+1>=mg
   ·refine aH d2 ?_;exact Qz ⟨rfl,.inr ⟨_,_,_,_,_,rfl,j2.less (by omega),by exact yK l1 d1,l2⟩⟩
   refine aF d2 ?_;exact Qz ⟨rfl,_,_,_,_,_,rfl,j2.less (by exact uo),by exact yK l1 d1,l2⟩
  case post1 =>
   clear j l1 l2;rintro c st' ⟨rfl,⟨r,rest,rfl,hr⟩|⟨out,ia,ib,ac,bc,rfl,j,l1,l2⟩⟩
   ·exact Qz ⟨g,r,_,rfl,hr⟩
   refine Qt (wpS_lift (XI ⟨rfl,?_⟩))
   refine Qt (wpS_mono (Xz (I:=CU κ a b st x)
    (Q:=CT κ a b st x) ?step2 ?fin2 ⟨g,out,ia,ib,_,ac,bc,rfl,j,l1,l2⟩) ?post2)
   case fin2 =>
    rintro c st' ⟨g,out,ia,ib,mg,ac,bc,rfl,j,l1,l2⟩;have:=j.n;have:=j.lo;omega
   case post2 =>
    rintro c st' ⟨g,⟨r,rest,rfl,hr⟩|⟨out,ia,ib,mg,ac,bc,rfl,j,l1,l2⟩⟩
    ·exact Qz ⟨g,r,_,rfl,hr⟩
    refine Qt (du λst2 g2=>?_);exact Qz ⟨g.trans g2,_,_,_,_,rfl,j,l1,l2⟩
   case step2 =>
    clear j l1 l2 g;rintro x' c st2 _ hx' ⟨g,out,ia,ib,mg,ac,bc,rfl,j,l1,l2⟩;obtain⟨p,hp,_,mp⟩:=aU (a:=a) (i:=ia) (by exact w9 l1);obtain⟨q,hq,_,mq⟩:=aU (a:=b) (i:=ib) l2
    extract_lets s1 o1 s2 x1 s3 y1 s4 m1 s5 ac1 bc1 ib2 jp mgm
    refine fE (λm=>jp () m) (λ_=>True) (λm _=>?_) (λJ=>?_)
    ·refine Qt (du λst3 g3=>?_);have g4:=g.trans g3;have hk3:kindOf st3=kd:=by rw[g4.kind];exact hk
     refine Qt (aX hq ?_);refine Qt (dW (a:=a) (base:=ia) (n:=a.size-ia) hL hk3 (hb q mq) ha (by exact Cc l1) (λi j p q _ h _ e1 e2=>oB sa h e1 e2) (by exact Cb l1) λk k1 k2 k3=>?_);dsimp -zeta only
     extract_lets ac2 jp2 o2 x2
     refine fE (λz:Array Keyed × Nat=>jp2 () z.1 z.2) (λz=>LJ κ a b (x+1+x') z.1 z.2 ib/\z.2+1<a.size/\∀p,a[z.2]?=some p->le κ q p) (λz hz=>?_) (λJ2=>?_)
     ·obtain⟨o3,x3⟩:=z;obtain⟨j3,l3,f3⟩:=hz;dsimp only at j3 l3 f3;obtain⟨p3,hp3,_,mp3⟩:=aU (a:=a) (i:=x3) (by exact w9 l3);refine Qt (aX hq ?_);have j4:=j3.pushB hp3 hq (f3 p3 hp3);by_cases d1:ib+1=b.size
      ·refine aH (bT d1) ?_;exact Qz ⟨g4,.inl ⟨_,_,rfl,j4.doneB d1⟩⟩
      refine aF (bF d1) ?_;refine Qt (aX hp3 ?_);refine Qt (dW (a:=b) (base:=ib+1) (n:=b.size-(ib+1)) hL hk3 (ha p3 mp3) hb (by exact Ca l2) (λi j p q _ h _ e1 e2=>oB sb h e1 e2) (by exact B_ l2 d1) λk' k1' k2' k3'=>?_);dsimp -zeta only
      extract_lets bc2 ia2 jp3 o4 y4
      refine fE (λz:Array Keyed × Nat=>jp3 () z.1 z.2) (λz=>LJ κ a b (x+1+x'+1) z.1 x3 z.2/\z.2<b.size/\∀q,b[z.2]?=some q->le κ p3 q) (λz hz=>?_) (λJ3=>?_)
      ·obtain⟨o5,y5⟩:=z;obtain⟨j5,l5,f5⟩:=hz;dsimp only at j5 l5 f5;obtain⟨q5,hq5,_,mq5⟩:=aU (a:=b) (i:=y5) l5;refine Qt (aX hp3 ?_);have j6:=j5.pushA hp3 hq5 (f5 q5 hq5);by_cases d2:x3+1+1=a.size
       ·refine aH (bT d2) ?_;exact Qz ⟨g4,.inl ⟨_,_,rfl,j6.lastA d2⟩⟩
       refine aF (bF d2) ?_;by_cases d3:(decide (ac2<7)&&decide (bc2<7))=true
       ·refine aH d3 ?_;exact Qz ⟨g4,.inr ⟨_,_,_,_,_,_,rfl,j6.less (by omega),by omega,l5⟩⟩
       refine aF d3 ?_;exact Qz ⟨g4,_,_,_,_,_,_,rfl,j6.less (by exact yJ),by omega,l5⟩
      by_cases d2:k'>0
      ·refine aH d2 ?_;have j5:LJ κ a b (x+1+x'+1) o4 x3 y4:=j4.runB hp3 (by exact B9 l2 k1') λi hi p e=>jR (k2' i hi p e);have e2:y4=ib+1+k':=rfl;by_cases d3:y4=b.size
       ·refine aH (bT d3) ?_;exact Qz ⟨g4,.inl ⟨_,_,rfl,j5.doneB d3⟩⟩
       refine aF (bF d3) ?_;exact J3 (o4,y4) ⟨j5,by dsimp only;omega,λp e=>jU (k3' k' (Qi _) (by omega) p e)⟩
      refine aF d2 ?_;have:k'=0:=by exact yI d2
      subst this;exact J3 (_,ib+1) ⟨j4,by dsimp only;exact w6 l2 d1,λp e=>jU (k3' 0 (Qi _) (by exact B8 l2 d1 k1') p e)⟩
     by_cases d1:k>0
     ·refine aH d1 ?_;have j3:LJ κ a b (x+1+x') o2 x2 ib:=j.runA hq (by exact B7 l1 k1) λi hi p e=>jS (k2 i hi p e);have e2:x2=ia+k:=rfl;by_cases d2:x2+1=a.size
      ·refine aH (bT d2) ?_;exact Qz ⟨g4,.inl ⟨_,_,rfl,j3.lastA d2⟩⟩
      refine aF (bF d2) ?_;by_cases d3:x2=a.size
      ·refine aH (bT d3) ?_;exact Qz ⟨g4,.inl ⟨_,_,rfl,j3.doneA d3⟩⟩
      refine aF (bF d3) ?_;exact J2 (o2,x2) ⟨j3,by dsimp only;omega,λp e=>jT (k3 k (Qi _) (by omega) p e)⟩
     refine aF d1 ?_;have:k=0:=by exact yI d1
     subst this;exact J2 (o1,x1) ⟨j,l1,λp e=>jT (k3 0 (Qi _) (by exact B6 l1 k1) p e)⟩
    by_cases d:m1>1
    ·refine aH d ?_;exact J _ trivial
    refine aF d ?_;exact J _ trivial
end
noncomputable def xE (κ:KeyKind):KeyKind where
 α:=κ.α
 blt a b:=κ.blt b a
 irrefl a:=κ.irrefl a
 trans a b c h1 h2:=κ.trans c b a h2 h1
 negTrans a b c h:=(κ.negTrans c b a h).symm
 total a b h1 h2:=(κ.total a b h2 h1)
 keyOf:=κ.keyOf
 dflt:=κ.dflt
section
variable {κ:KeyKind}
theorem rj {l:List Keyed} (h:l.Pairwise (le κ)):l.reverse.Pairwise (le (xE κ)):=List.pairwise_reverse.mpr h
theorem jt {L r:List Keyed} (h:Srt (xE κ) L r):Srt κ L r.reverse:=⟨(List.reverse_perm r).trans h.1,List.pairwise_reverse.mpr h.2⟩
variable {p q:Keyed}
theorem b_ {a:Array Keyed} {i:Nat} (hi:1<=i) (h:a[i-1]?=some p):(a.toList.take i).reverse=p::(a.toList.take (i-1)).reverse:=by
 obtain⟨j,rfl⟩:∃j,i=j+1:=⟨i-1,by exact B5 hi⟩;rw[X4]at h ⊢;rw[XZ,Qv,h,List.reverse_append];rfl
structure HJ (κ:KeyKind) (a b:Array Keyed) (n:Nat) (out:Array Keyed) (na nb:Nat):Prop where
 mi:MI (xE κ) (a.toList++b.toList) out.toList (b.toList.take nb).reverse (a.toList.take na).reverse
 la:na<=a.size
 lb:nb<=b.size
 lo:out.size+na+nb=a.size+b.size
 n:n<=out.size
variable {na nb n m i j:Nat} {a b:Array Keyed}
theorem HJ.less {out:Array Keyed} (h:HJ κ a b n out na nb) (hm:m<=n):HJ κ a b m out na nb:=⟨h.mi,h.la,h.lb,h.lo,QR hm h.n⟩
theorem dj (a:Array Keyed) (i:Nat):(a.extract 0 i).toList=a.toList.take i:=by simp
theorem HJ.doneA {out:Array Keyed} (h:HJ κ a b n out na nb) (e:na=0):Srt κ (a.toList++b.toList) (a.extract 0 na++b.extract 0 nb++out.reverse).toList:=by
 subst e;have:=jt (MI.endY (by simpa using h.mi));rw[QK,QK,dj,dj,Array.toList_reverse];simpa using this
theorem HJ.doneB {out:Array Keyed} (h:HJ κ a b n out na nb) (e:nb=0):Srt κ (a.toList++b.toList) (a.extract 0 na++b.extract 0 nb++out.reverse).toList:=by
 subst e;have:=jt (MI.endX (by simpa using h.mi));rw[QK,QK,dj,dj,Array.toList_reverse];simpa using this
theorem HJ.firstB {out:Array Keyed} (h:HJ κ a b n out na nb) (e:nb=1):Srt κ (a.toList++b.toList) (b.extract 0 nb++a.extract 0 na++out.reverse).toList:=by
 subst e;obtain⟨q,hq,_⟩:=aU (a:=b) (i:=0) (by have:=h.lb;exact rN this);have m:=h.mi;have tr:=b_ (a:=b) (i:=1) (Qi _) hq;rw[Nat.sub_self,List.take_zero,List.reverse_nil]at tr;rw[tr]at m;have:=jt m.lastX
 have t1:b.toList.take 1=[q]:=by
  have:=congrArg List.reverse tr;simpa using this
 rw[QK,QK,dj,dj,Array.toList_reverse,t1];simpa using this
theorem HJ.pushA {out:Array Keyed} (h:HJ κ a b n out na nb) (n1:1<=na) (n2:1<=nb) (ha:a[na-1]?=some p) (hb:b[nb-1]?=some q) (c:le κ q p):HJ κ a b (n+1) (out.push p) (na-1) nb:=by
 have m:=h.mi;rw[b_ n1 ha,b_ n2 hb]at m;have m:=m.takeY c;rw[<-b_ n2 hb]at m;refine⟨by rw[Array.toList_push];exact m,by have:=h.la;exact yH n1 this,h.lb,by rw[Array.size_push];have:=h.lo;exact B4 n1 this,by rw[Array.size_push];have:=h.n;exact rP this⟩
theorem HJ.pushB {out:Array Keyed} (h:HJ κ a b n out na nb) (n1:1<=na) (n2:1<=nb) (ha:a[na-1]?=some p) (hb:b[nb-1]?=some q) (c:le κ p q):HJ κ a b (n+1) (out.push q) na (nb-1):=by
 have m:=h.mi;rw[b_ n1 ha,b_ n2 hb]at m;have m:=m.takeX c;rw[<-b_ n1 ha]at m;refine⟨by rw[Array.toList_push];exact m,h.la,by have:=h.lb;exact yH n2 this,by rw[Array.size_push];have:=h.lo;exact B3 n2 this,by rw[Array.size_push];have:=h.n;exact rP this⟩
theorem ki (l:List Keyed) (h:i<=j):(l.take j).reverse=((l.take j).drop i).reverse++(l.take i).reverse:=by
 rw[<-List.reverse_append];congr 1;have:=QX i (l.take j);rw[List.take_take,Nat.min_eq_left h]at this;exact this.symm
theorem oK (a:Array Keyed) (h:i<=j):(a.extract i j).reverse.toList=((a.toList.take j).drop i).reverse:=by
 simp[List.drop_take]
theorem oz (h:p∈((a.toList.take j).drop i).reverse):∃k,i<=k/\k<j/\a[k]?=some p:=by
 rw[List.mem_reverse]at h;obtain⟨m,hm,e⟩:=Q6.mp h;rw[Q3,QA]at hm;have e3:=Qd (l:=(a.toList.take j).drop i) (i:=m) (by rw[Q3,QA];exact B2 hm);rw[e,List.getElem?_drop,List.getElem?_take,Qp (by exact yG hm),Qv]at e3;exact⟨i+m,by exact rO,by exact yG hm,e3⟩
theorem HJ.runA {out:Array Keyed} {k:Nat} (h:HJ κ a b n out na nb) (n2:1<=nb) (hb:b[nb-1]?=some q) (hk:k<=na) (c:∀i,k<=i->i<na->∀p,a[i]?=some p->le κ q p):HJ κ a b n (out++(a.extract k na).reverse) k nb:=by
 have m:=h.mi;have sx:=m.sx;rw[ki _ hk]at m
 have m:=m.takeYs λp hp r hr=>by
  obtain⟨i,h1,h2,e⟩:=oz hp;rw[b_ n2 hb]at hr sx;exact d8 sx (c i h1 h2 p e) hr
 have sz:(a.extract k na).reverse.size=na-k:=by rw[Array.size_reverse,Array.size_extract];have:=h.la;exact yF hk this
 refine⟨by rw[QK,oK _ hk];exact m,by have:=h.la;exact yE hk this,h.lb,by rw[Xr,sz];have:=h.lo;omega,by rw[Xr];have:=h.n;exact yD sz this⟩
theorem HJ.runB {out:Array Keyed} {k:Nat} (h:HJ κ a b n out na nb) (n1:1<=na) (ha:a[na-1]?=some p) (hk:k<=nb) (c:∀i,k<=i->i<nb->∀q,b[i]?=some q->le κ p q):HJ κ a b n (out++(b.extract k nb).reverse) na k:=by
 have m:=h.mi;have sy:=m.sy;rw[ki _ hk]at m
 have m:=m.takeXs λq hq r hr=>by
  obtain⟨i,h1,h2,e⟩:=oz hq;rw[b_ n1 ha]at hr sy;exact d8 sy (c i h1 h2 q e) hr
 have sz:(b.extract k nb).reverse.size=nb-k:=by rw[Array.size_reverse,Array.size_extract];have:=h.lb;exact yF hk this
 refine⟨by rw[QK,oK _ hk];exact m,h.la,by have:=h.lb;exact yE hk this,by rw[Xr,sz];have:=h.lo;omega,by rw[Xr];have:=h.n;exact yD sz this⟩
end
section
@[reducible] def C7 (κ:KeyKind) (a b:Array Keyed) (st:SortSt) (x:Nat) (c:Option (Array Keyed) × Nat × Nat × Array Keyed × Nat) (st':SortSt):Prop:=Gs st st'/\∃na nb out mg,c=(none,na,nb,out,mg)/\HJ κ a b (x+1) out na nb/\1<=na/\2<=nb
@[reducible] def C6 (κ:KeyKind) (a b:Array Keyed) (st:SortSt)  (c:Option (Array Keyed) × Nat × Nat × Array Keyed × Nat) (st':SortSt):Prop:=Gs st st'/\∃r rest,c=(some r,rest)/\Srt κ (a.toList++b.toList) r.toList
@[reducible] def C5 (κ:KeyKind) (a b:Array Keyed) (st:SortSt) (x x':Nat) (c:Option (Array Keyed) × Nat × Nat × Array Keyed × Nat × Nat) (st':SortSt):Prop:=st'=st/\∃na nb out ac bc,c=(none,na,nb,out,ac,bc)/\HJ κ a b (x+1+x') out na nb/\1<=na/\2<=nb
@[reducible] def C4 (κ:KeyKind) (a b:Array Keyed) (st:SortSt) (x:Nat) (c:Option (Array Keyed) × Nat × Nat × Array Keyed × Nat × Nat) (st':SortSt):Prop:=st'=st/\((∃r rest,c=(some r,rest)/\Srt κ (a.toList++b.toList) r.toList)\/∃na nb out ac bc,c=(none,na,nb,out,ac,bc)/\HJ κ a b (x+1) out na nb/\1<=na/\2<=nb)
@[reducible] def C3 (κ:KeyKind) (a b:Array Keyed) (st:SortSt) (x x':Nat) (c:Option (Array Keyed) × Nat × Nat × Array Keyed × Nat × Nat × Nat) (st':SortSt):Prop:=Gs st st'/\∃na nb out mg ac bc,c=(none,na,nb,out,mg,ac,bc)/\HJ κ a b (x+1+x') out na nb/\1<=na/\2<=nb
@[reducible] def C2 (κ:KeyKind) (a b:Array Keyed) (st:SortSt) (x:Nat) (c:Option (Array Keyed) × Nat × Nat × Array Keyed × Nat × Nat × Nat) (st':SortSt):Prop:=Gs st st'/\((∃r rest,c=(some r,rest)/\Srt κ (a.toList++b.toList) r.toList)\/∃na nb out mg ac bc,c=(none,na,nb,out,mg,ac,bc)/\HJ κ a b (x+2) out na nb/\1<=na/\2<=nb)
theorem j_ (hL:gk κ kd prog w A s) {st:SortSt} {a b:Array Keyed} {Q:Array Keyed->SortSt->Prop} (hk:kindOf st=kd) (ha:∀p∈a.toList,Hk κ p) (hb:∀p∈b.toList,Hk κ p)
  (na:1<=a.size) (nb:1<=b.size) (sa:a.toList.Pairwise (le κ)) (sb:b.toList.Pairwise (le κ)) (first:∀p∈a.toList,∀q,b[0]?=some q->le κ q p) (last:∀q∈b.toList,∀p,a[a.size-1]?=some p->le κ q p)
  (h:∀r st',Gs st st'->Srt κ (a.toList++b.toList) r.toList->Q r st'):wpS (model prog w) A E s (lB a b) Q st:=by
 unfold lB;refine Qt (wpS_lift (XI ⟨rfl,?_⟩));obtain⟨q0,hq0,_,mq0⟩:=aU (a:=b) (i:=b.size-1) (by exact pL nb);obtain⟨qf,hqf,_,mqf⟩:=aU (a:=b) (i:=0) (by exact rN nb);obtain⟨p0,hp0,_,mp0⟩:=aU (a:=a) (i:=a.size-1) (by exact pL na)
 have j0:HJ κ a b 0 #[] a.size b.size:=by
  have e1:a.toList.take a.size=a.toList:=Q1 (by simp);have e2:b.toList.take b.size=b.toList:=Q1 (by simp);refine⟨⟨?_,List.Pairwise.nil,by rw[e2];exact rj sb,by rw[e1];exact rj sa,λp hp=>(nomatch hp),λp hp=>(nomatch hp),λq hq l hl=>?_⟩,Qi _,Qi _,by simp,Q0 _⟩
  ·rw[e1,e2];show ([]++(b.toList.reverse++a.toList.reverse)).Perm _;rw[List.nil_append,<-List.reverse_append];exact List.reverse_perm _
  rw[e1,List.mem_reverse]at hq;rw[e2,List.getLast?_reverse]at hl;refine first q hq l ?_;rw[<-Qv,<-List.head?_eq_getElem?];exact hl
 have j1:=j0.pushA na nb hp0 hq0 (last q0 mq0 p0 hp0);have j1:HJ κ a b 1 #[p0] (a.size-1) b.size:=j1
 extract_lets tot dn fb na0 nb0 z0
 refine Qt (aX hp0 ?_);refine wpS_mono (Q:=λr st'=>Gs st st'/\Srt κ (a.toList++b.toList) r.toList) ?_ (λr st' z=>h r st' z.1 z.2);clear h
 extract_lets out0
 by_cases c1:na0=0
 ·refine aH (bT c1) ?_;exact Qz ⟨.refl _,j1.doneA c1⟩
 refine aF (bF c1) ?_;by_cases c2:b.size=1
 ·refine aH (bT c2) ?_;exact Qz ⟨.refl _,j1.firstB c2⟩
 refine aF (bF c2) ?_;refine Qt (wpS_get ?_)
 extract_lets mg0
 have e0:na0=a.size-1:=rfl
 refine Qt (wpS_mono (Xz (I:=C7 κ a b st)
  (Q:=C6 κ a b st) ?step ?fin ⟨.refl _,na0,nb0,out0,mg0,rfl,j1,by exact B1 na nb c1 c2,by omega⟩) ?post)
 case post =>
  rintro c st' ⟨g,r,rest,rfl,hr⟩;exact Qz ⟨g,hr⟩
 case fin =>
  rintro c st' ⟨g,na,nb,out,mg,rfl,j,l1,l2⟩;have:=j.n;have:=j.lo;omega
 case step =>
  rintro x c st1 _ hx ⟨g,na,nb,out,mg,rfl,j,l1,l2⟩
  refine Qt (wpS_mono (Xz (I:=C5 κ a b st1 x)
   (Q:=C4 κ a b st1 x) ?step1 ?fin1 ⟨rfl,na,nb,out,0,0,rfl,j,l1,l2⟩) ?post1)
  case fin1 =>
   rintro c st' ⟨rfl,na,nb,out,ac,bc,rfl,j,l1,l2⟩;have:=j.n;have:=j.lo;omega
  case step1 =>
   clear j l1 l2;rintro x' c st' _ hx' ⟨rfl,na,nb,out,ac,bc,rfl,j,l1,l2⟩;have la:=j.la;have lb:=j.lb;obtain⟨p,hp,_,mp⟩:=aU (a:=a) (i:=na-1) (by exact w4 l1 la);obtain⟨q,hq,_,mq⟩:=aU (a:=b) (i:=nb-1) (by exact wZ l2 lb);refine Qt (aX hq (Qt (aX hp (Qt (gy hL (by rw[g.kind];exact hk) (hb q mq) (ha p mp) ?_)))));dsimp -zeta only
   cases e:κ.blt (kv κ q) (kv κ p) with
   | true =>
    refine aH rfl ?_;refine Qt (aX hp ?_);have j2:=j.pushA l1 (by exact rM l2) hp hq (KeyOrd.kle_of_klt e);by_cases d1:na-1=0
    ·refine aH (bT d1) ?_;exact Qz ⟨rfl,.inl ⟨_,_,rfl,j2.doneA d1⟩⟩
    refine aF (bF d1) ?_;by_cases d2:ac+1>=mg
    ·refine aH d2 ?_;exact Qz ⟨rfl,.inr ⟨_,_,_,_,_,rfl,j2.less (by omega),by exact yt l1 d1,l2⟩⟩
    refine aF d2 ?_;exact Qz ⟨rfl,_,_,_,_,_,rfl,j2.less (by exact uo),by exact yt l1 d1,l2⟩
   | false =>
   refine aF Qk ?_;refine Qt (aX hq ?_);have j2:=j.pushB l1 (by exact rM l2) hp hq e;by_cases d1:nb-1=1
   ·refine aH (bT d1) ?_;exact Qz ⟨rfl,.inl ⟨_,_,rfl,j2.firstB d1⟩⟩
   refine aF (bF d1) ?_;by_cases d2:bc+1>=mg
   ·refine aH d2 ?_;exact Qz ⟨rfl,.inr ⟨_,_,_,_,_,rfl,j2.less (by omega),l1,by exact yr l2 d1⟩⟩
   refine aF d2 ?_;exact Qz ⟨rfl,_,_,_,_,_,rfl,j2.less (by exact uo),l1,by exact yr l2 d1⟩
  case post1 =>
   clear j l1 l2;rintro c st' ⟨rfl,⟨r,rest,rfl,hr⟩|⟨na,nb,out,ac,bc,rfl,j,l1,l2⟩⟩
   ·exact Qz ⟨g,r,_,rfl,hr⟩
   refine Qt (wpS_lift (XI ⟨rfl,?_⟩))
   refine Qt (wpS_mono (Xz (I:=C3 κ a b st x)
    (Q:=C2 κ a b st x) ?step2 ?fin2 ⟨g,na,nb,out,_,ac,bc,rfl,j,l1,l2⟩) ?post2)
   case fin2 =>
    rintro c st' ⟨g,na,nb,out,mg,ac,bc,rfl,j,l1,l2⟩;have:=j.n;have:=j.lo;omega
   case post2 =>
    rintro c st' ⟨g,⟨r,rest,rfl,hr⟩|⟨na,nb,out,mg,ac,bc,rfl,j,l1,l2⟩⟩
    ·exact Qz ⟨g,r,_,rfl,hr⟩
    refine Qt (du λst2 g2=>?_);exact Qz ⟨g.trans g2,_,_,_,_,rfl,j,l1,l2⟩
   case step2 =>
    clear j l1 l2 g;rintro x' c st2 _ hx' ⟨g,na,nb,out,mg,ac,bc,rfl,j,l1,l2⟩;have la:=j.la;have lb:=j.lb;obtain⟨p,hp,_,mp⟩:=aU (a:=a) (i:=na-1) (by exact w4 l1 la);obtain⟨q,hq,_,mq⟩:=aU (a:=b) (i:=nb-1) (by exact wZ l2 lb)
    extract_lets s1 x1 s2 y1 s3 o1 s4 m1 s5 ac1 bc1 nb2 jp mgm
    refine fE (λm=>jp () m) (λ_=>True) (λm _=>?_) (λJ=>?_)
    ·refine Qt (du λst3 g3=>?_);have g4:=g.trans g3;have hk3:kindOf st3=kd:=by rw[g4.kind];exact hk
     refine Qt (aX hq ?_);refine Qt (dW (a:=a) (base:=0) (n:=na) (hint:=na-1) hL hk3 (hb q mq) ha (by exact B0 la) (λi j p q _ h _ e1 e2=>oB sa h e1 e2) (by exact pL l1) λk k1 k2 k3=>?_);simp only[Nat.zero_add]at k2 k3;dsimp -zeta only
     extract_lets kk ac2 jp2 o2 x2
     refine fE (λz:Nat × Array Keyed=>jp2 () z.1 z.2) (λz=>HJ κ a b (x+1+x') z.2 z.1 nb/\1<=z.1/\∀p,a[z.1-1]?=some p->le κ p q) (λz hz=>?_) (λJ2=>?_)
     ·obtain⟨x3,o3⟩:=z;obtain⟨j3,l3,f3⟩:=hz;dsimp only at j3 l3 f3;have la3:=j3.la;obtain⟨p3,hp3,_,mp3⟩:=aU (a:=a) (i:=x3-1) (by exact w4 l3 la3);refine Qt (aX hq ?_);have j4:=j3.pushB l3 (by exact rM l2) hp3 hq (f3 p3 hp3);by_cases d1:nb-1=1
      ·refine aH (bT d1) ?_;exact Qz ⟨g4,.inl ⟨_,_,rfl,j4.firstB d1⟩⟩
      refine aF (bF d1) ?_;refine Qt (aX hp3 ?_);refine Qt (dW (a:=b) (base:=0) (n:=nb-1) (hint:=nb-1-1) hL hk3 (ha p3 mp3) hb (by exact BZ l2 lb) (λi j p q _ h _ e1 e2=>oB sb h e1 e2) (by exact BY l2) λk' k1' k2' k3'=>?_);simp only[Nat.zero_add]at k2' k3';dsimp -zeta only
      extract_lets kk' bc2 na4 jp3 o4 y4
      refine fE (λz:Nat × Array Keyed=>jp3 () z.1 z.2) (λz=>HJ κ a b (x+1+x'+1) z.2 x3 z.1/\2<=z.1/\∀q,b[z.1-1]?=some q->le κ q p3) (λz hz=>?_) (λJ3=>?_)
      ·obtain⟨y5,o5⟩:=z;obtain⟨j5,l5,f5⟩:=hz;dsimp only at j5 l5 f5;have lb5:=j5.lb;obtain⟨q5,hq5,_,mq5⟩:=aU (a:=b) (i:=y5-1) (by exact wZ l5 lb5);refine Qt (aX hp3 ?_);have j6:=j5.pushA l3 (by exact rM l5) hp3 hq5 (f5 q5 hq5);by_cases d2:x3-1=0
       ·refine aH (bT d2) ?_;exact Qz ⟨g4,.inl ⟨_,_,rfl,j6.doneA d2⟩⟩
       refine aF (bF d2) ?_;by_cases d3:(decide (ac2<7)&&decide (bc2<7))=true
       ·refine aH d3 ?_;exact Qz ⟨g4,.inr ⟨_,_,_,_,_,_,rfl,j6.less (by omega),by omega,l5⟩⟩
       refine aF d3 ?_;exact Qz ⟨g4,_,_,_,_,_,_,rfl,j6.less (by exact yJ),by omega,l5⟩
      have ek':kk'=nb-1-k':=rfl;by_cases d2:kk'>0
      ·refine aH d2 ?_;have j5:HJ κ a b (x+1+x'+1) o4 x3 y4:=j4.runB l3 hp3 (by exact BX k1') λi h1 h2 p e=>jU (k3' i h1 h2 p e);have e2:y4=k':=rfl;by_cases d3:y4=1
       ·refine aH (bT d3) ?_;exact Qz ⟨g4,.inl ⟨_,_,rfl,j5.firstB d3⟩⟩
       refine aF (bF d3) ?_;by_cases d4:y4=0
       ·refine aH (bT d4) ?_;exact Qz ⟨g4,.inl ⟨_,_,rfl,j5.doneB d4⟩⟩
       refine aF (bF d4) ?_;exact J3 (y4,o4) ⟨j5,by dsimp only;exact BW d3 d4,λq e=>jR (k2' (y4-1) (by omega) q e)⟩
      refine aF d2 ?_;exact J3 (nb-1,_) ⟨j4,yw l2 d1,λq e=>jR (k2' (nb-1-1) (by exact BV l2 ek' d2) q e)⟩
     have ek:kk=na-k:=rfl;by_cases d1:kk>0
     ·refine aH d1 ?_;have j3:HJ κ a b (x+1+x') o2 x2 nb:=j.runA (by exact rM l2) hq (by exact wY k1) λi h1 h2 p e=>jT (k3 i h1 h2 p e);have e2:x2=k:=rfl;by_cases d2:x2=0
      ·refine aH (bT d2) ?_;exact Qz ⟨g4,.inl ⟨_,_,rfl,j3.doneA d2⟩⟩
      refine aF (bF d2) ?_;exact J2 (x2,o2) ⟨j3,by dsimp only;exact Bh d2,λp e=>jS (k2 (x2-1) (by omega) p e)⟩
     refine aF d1 ?_;exact J2 (na,out) ⟨j,l1,λp e=>jS (k2 (na-1) (by exact Bg l1 ek d1) p e)⟩
    by_cases d:m1>1
    ·refine aH d ?_;exact J _ trivial
    refine aF d ?_;exact J _ trivial
end
section
structure Sg (lo:Nat) (st st':SortSt):Prop where
 kind:kindOf st'=kindOf st
 pend:pendingOf st'=pendingOf st
 fail:failedOf st'=failedOf st
 head:∀i,i<lo->(arrOf st')[i]?=(arrOf st)[i]?
 perm:(arrOf st').Perm (arrOf st)
theorem Sg.refl (lo:Nat) (st:SortSt):Sg lo st st:=⟨rfl,rfl,rfl,λ_ _=>rfl,Array.Perm.refl _⟩
variable {a b c st:SortSt} {lo i n nrem:Nat}
theorem Sg.trans (x:Sg lo a b) (y:Sg lo b c):Sg lo a c:=⟨y.kind.trans x.kind,y.pend.trans x.pend,y.fail.trans x.fail,λi h=>(y.head i h).trans (x.head i h),y.perm.trans x.perm⟩
theorem Sg.size (x:Sg lo a b):(arrOf b).size=(arrOf a).size:=x.perm.size_eq
theorem Sg.keys (x:Sg lo a b) (h:∀p∈(arrOf a).toList,Hk κ p):∀p∈(arrOf b).toList,Hk κ p:=λp hp=>h p ((Array.perm_iff_toList_perm.mp x.perm).mem_iff.mp hp)
variable {xs:Array Keyed}
theorem sw {p:Keyed} (h:xs[i]?=some p):KK κ xs i=kv κ p:=by unfold KK kv;rw[h]
theorem dU (hL:gk κ kd prog w A s) {i j:Nat} {Q:Option Bool->SortSt->Prop} (hk:kindOf st=kd) (ha:∀p∈(arrOf st).toList,Hk κ p) (hi:i<(arrOf st).size) (hj:j<(arrOf st).size)
  (h:Q (some (κ.blt (KK κ (arrOf st) i) (KK κ (arrOf st) j))) st):wpS (model prog w) A E s (ltAt' i j) Q st:=by
 obtain⟨p,hp,_,mp⟩:=aU hi;obtain⟨q,hq,_,mq⟩:=aU hj;rw[sw hp,sw hq]at h;rw[ltAt'_eq];exact Qt (wpS_get (Qt (aX hp (Qt (aX hq (gy hL hk (ha p mp) (ha q mq) h))))))
def Up (κ:KeyKind) (xs:Array Keyed) (lo n:Nat):Prop:=∀i j,i<=j->j<n->κ.kle (KK κ xs (lo+i)) (KK κ xs (lo+j))
def jZ (κ:KeyKind) (xs:Array Keyed) (lo n:Nat):Prop:=∀i j,i<=j->j<n->κ.kle (KK κ xs (lo+j)) (KK κ xs (lo+i))
theorem Up.one:Up κ xs lo 1:=λi j h1 h2=>by
 have:i=j:=by exact Be h1 h2
 subst this;exact X1 _
theorem Up.more (h:Up κ xs lo n) (h1:1<=n) (c:κ.kle (KK κ xs (lo+(n-1))) (KK κ xs (lo+n))):Up κ xs lo (n+1):=λi j hij hj=>by
 by_cases e:j<n
 ·exact h i j hij e
 have:j=n:=by exact vN hj e
 subst this;by_cases e2:i=j
 ·subst e2;exact X1 _
 exact KeyOrd.kle_trans (h i (j-1) (by exact vM hij h1 e2) (by exact pL h1)) c
theorem jZ.more (h:jZ κ xs lo n) (h1:1<=n) (c:κ.kle (KK κ xs (lo+n)) (KK κ xs (lo+(n-1)))):jZ κ xs lo (n+1):=λi j hij hj=>by
 by_cases e:j<n
 ·exact h i j hij e
 have:j=n:=by exact vN hj e
 subst this;by_cases e2:i=j
 ·subst e2;exact X1 _
 exact KeyOrd.kle_trans c (h i (j-1) (by exact vM hij h1 e2) (by exact pL h1))
theorem nk {lo a:Nat} {f:Nat->Option (Option Nat) × Nat->StateT SortSt Sem (ForInStep (Option (Option Nat) × Nat))} {Q:Option (Option Nat) × Nat->SortSt->Prop} (h1:1<=a) (h2:a<=nrem) (up:Up κ (arrOf st) lo a)
  (hf:∀x n (R:ForInStep (Option (Option Nat) × Nat)->SortSt->Prop),1<=n->n<nrem->(κ.klt (KK κ (arrOf st) (lo+n)) (KK κ (arrOf st) (lo+(n-1)))->R (.done (none,n)) st)->(κ.kle (KK κ (arrOf st) (lo+(n-1))) (KK κ (arrOf st) (lo+n))->R (.yield (none,n+1)) st)->wpS (model prog w) A E s (f x (none,n)) R st)
  (h:∀n,a<=n->n<=nrem->Up κ (arrOf st) lo n->(n=nrem\/κ.klt (KK κ (arrOf st) (lo+n)) (KK κ (arrOf st) (lo+(n-1))))->Q (none,n) st):wpS (model prog w) A E s (forIn [a:nrem] (none,a) f) Q st:=by
 refine Xz (I:=λx c st'=>st'=st/\c=(none,x)/\Up κ (arrOf st) lo x) ?_ ?_ ⟨rfl,rfl,up⟩
 ·rintro x c st' hax hx ⟨rfl,rfl,u⟩;exact hf x x _ (by exact vL h1 hax) hx (λe=>h x hax (by exact rS hx) u (.inr e)) λe=>⟨rfl,rfl,u.more (by exact vL h1 hax) e⟩
 rintro c st' ⟨rfl,rfl,u⟩;rw[show max a nrem=nrem by exact Bd h2]at u ⊢;exact h nrem h2 (Qi _) u (.inl rfl)
theorem gn {lo i j:Nat} {Q:Unit->SortSt->Prop} (hi:lo<=i) (hj:j<=(arrOf st).size) (h:∀st',Sg lo st st'->(∀k,KK κ (arrOf st') k=if i<=k/\k<j then KK κ (arrOf st) (i+j-1-k) else KK κ (arrOf st) k)->Q () st'):wpS (model prog w) A E s (reverseSlice' i j) Q st:=by
 rw[reverseSlice'_eq];refine wpS_modify (h _ ⟨rfl,rfl,rfl,λk hk=>?_,mirror_perm _ _ _ _⟩ λk=>KK_mirror hj k);show (mirror (arrOf st) i j ((j-i) / 2))[k]?=_;rw[getElem?_mirror_all hj,Qn (by exact Bc hi hk)]
theorem eV {O α β:Type} {M:Model} {Q:α->O->Prop} {st:O} {m:StateT O Sem α} (f:β->StateT O Sem α) (I:β->O->Prop) (J:∀z st',I z st'->wpS M A E s (f z) Q st') (h:(∀z st',I z st'->wpS M A E s (f z) Q st')->wpS M A E s m Q st):wpS M A E s m Q st:=h J
def i6:Nat->Nat->StateT SortSt Sem (Option Nat):=sortPriv% PySem.Builtin.countRun
theorem oZ (hL:gk κ kd prog w A s) {lo nrem:Nat} {Q:Option Nat->SortSt->Prop} (hk:kindOf st=kd) (ha:∀p∈(arrOf st).toList,Hk κ p) (h1:1<=nrem) (hn:lo+nrem<=(arrOf st).size)
  (h:∀m st',Sg lo st st'->1<=m->m<=nrem->Up κ (arrOf st') lo m->Q (some m) st'):wpS (model prog w) A E s (i6 lo nrem) Q st:=by
 unfold i6;refine Qt (nk (κ:=κ) (lo:=lo) (Qi 1) h1 Up.one (λx n R a1 a2 r1 r2=>?_) λn a1 a2 up stop=>?_)
 ·extract_lets
  refine Qt (dU hL hk ha (by omega) (by omega) ?_);rw[show lo+n-1=lo+(n-1) by exact vK a1];dsimp -zeta only
  cases e:κ.blt (KK κ (arrOf st) (lo+n)) (KK κ (arrOf st) (lo+(n-1))) with
  | true=>refine aH rfl ?_;exact Qz (r1 e)
  | false=>refine aF Qk ?_;exact Qz (r2 e)
 show wpS _ _ _ _ (if (n==nrem)=true then pure (some n) else _) _ _;by_cases hnn:n=nrem
 ·refine aH (bT hnn) ?_;exact Qz (h n st (.refl _ _) a1 a2 up)
 refine aF (bF hnn) ?_;have lt0:=stop.resolve_left hnn
 extract_lets jn jq jp
 refine eV (λ_:Unit=>jp ()) (λ_ st'=>Sg lo st st'/\jZ κ (arrOf st') lo (n+1)) (λ_ st1 hz=>?_) (λJ=>?_)
 ·obtain⟨g1,dn⟩:=hz;refine Qt (wpS_lift (XI ⟨rfl,?_⟩))
  refine Qt (wpS_mono (Xz (I:=λx c st'=>∃neq,c=(none,x,neq)/\Sg lo st st'/\jZ κ (arrOf st') lo x/\neq+1<=x/\∀i,x-(neq+1)<=i->i<x->KK κ (arrOf st') (lo+i)=KK κ (arrOf st') (lo+(x-1)))
   (Q:=λc st'=>∃x neq,c=(none,x,neq)/\Sg lo st st'/\x<=nrem/\jZ κ (arrOf st') lo x/\neq+1<=x/\∀i,x-(neq+1)<=i->i<x->KK κ (arrOf st') (lo+i)=KK κ (arrOf st') (lo+(x-1))) ?step ?fin ⟨0,rfl,g1,dn,by omega,λi i1 i2=>by rw[show i=n+1-1 by omega]⟩) ?post)
  case fin =>
   rintro c st' ⟨neq,rfl,b1,b2,b3,b4⟩;rw[show max (n+1) nrem=nrem by exact Ba a2 hnn]at b2 b3 b4 ⊢;exact⟨nrem,neq,rfl,b1,Qi _,b2,b3,b4⟩
  case step =>
   rintro x c st' hax hx ⟨neq,rfl,b1,b2,b3,b4⟩;have sz:=b1.size;have hk':kindOf st'=kd:=b1.kind.trans hk;have ha':=b1.keys ha;refine Qt (dU (i:=lo+x) (j:=lo+x-1) hL hk' ha' (by exact oj hn hx sz) (by omega) ?_);rw[show lo+x-1=lo+(x-1) by exact A_ b3];dsimp -zeta only
   extract_lets
   cases e:κ.blt (KK κ (arrOf st') (lo+x)) (KK κ (arrOf st') (lo+(x-1))) with
   | true =>
    refine aH rfl ?_;have d1:=b2.more (by exact rR b3) (KeyOrd.kle_of_klt e);by_cases c:neq>0
    ·refine aH c ?_;refine Qt (gn (κ:=κ) (lo:=lo) (by exact vJ b3) (by exact A9 hn hx sz) λst2 g2 kk=>?_)
     have kk:∀i,KK κ (arrOf st2) (lo+i)=KK κ (arrOf st') (lo+i):=λi=>by
      rw[kk]
      split
      ·rename_i q
       obtain⟨e1,e2,e3,e4,e5⟩:=vz b3 q;rw[e1,b4 _ e2 e3,b4 i e4 e5]
      rfl
     exact Qz ⟨0,rfl,b1.trans g2,λi j h1 h2=>by rw[kk,kk];exact d1 i j h1 h2,by exact vI,λi i1 i2=>by rw[show i=x+1-1 by exact A8 i1 i2]⟩
    refine aF c ?_;exact Qz ⟨0,rfl,b1,d1,by exact vI,λi i1 i2=>by rw[show i=x+1-1 by omega]⟩
   | false =>
   refine aF Qk ?_;refine Qt (dU (i:=lo+(x-1)) (j:=lo+x) hL hk' ha' (by omega) (by exact oj hn hx sz) ?_);dsimp -zeta only
   cases e2:κ.blt (KK κ (arrOf st') (lo+(x-1))) (KK κ (arrOf st') (lo+x)) with
   | true =>
    refine aH rfl ?_;exact Qz ⟨x,neq,rfl,b1,by exact rS hx,b2,b3,b4⟩
   | false =>
   refine aF Qk ?_;have eq:KK κ (arrOf st') (lo+x)=KK κ (arrOf st') (lo+(x-1)):=KeyOrd.kle_antisymm e2 e;refine Qz ⟨neq+1,rfl,b1,b2.more (by exact rR b3) (by rw[eq];exact X1 _),by exact A7 b3,λi i1 i2=>?_⟩;rw[show x+1-1=x by exact A6];by_cases ix:i=x
   ·rw[ix]
   rw[b4 i (by omega) (by exact A5 i2 ix),eq]
  case post =>
   rintro c st2 ⟨x,neq,rfl,b1,b2,b3,b4,b5⟩
   extract_lets r2 s2 n2 q2 jp2
   have sz:=b1.size;refine eV (λ_:Unit=>jp2 ()) (λ_ st'=>Sg lo st st'/\jZ κ (arrOf st') lo x) (λ_ st3 hz=>?_) (λJ2=>?_)
   ·obtain⟨g3,dn3⟩:=hz;have sz3:=g3.size;refine Qt (gn (κ:=κ) (lo:=lo) (Qi _) (show lo+x<=_ by exact A4 hn b2 sz sz3) λst4 g4 kk=>?_);have g5:=g3.trans g4;have sz5:=g5.size;refine Qt (nk (κ:=κ) (lo:=lo) (show 1<=x by exact rR b4) b2 (λi j h1 h2=>?_) (λy n R a1 a2 r1 r2=>?_) λn a1 a2 up stop=>?_)
    ·have h2:j<x:=h2;rw[kk,kk,Qp (by exact A3 h1 h2),Qp (by exact A2 h2),show lo+(lo+x)-1-(lo+i)=lo+(x-1-i) by exact rL (Xx h1 h2),show lo+(lo+x)-1-(lo+j)=lo+(x-1-j) by exact rL h2];exact dn3 _ _ (by exact A1 h1 h2) (by exact A0 h1 h2)
    ·refine Qt (dU hL (g5.kind.trans hk) (g5.keys ha) (by omega) (by omega) ?_);rw[show lo+n-1=lo+(n-1) by exact vK a1];dsimp -zeta only
     cases e:κ.blt (KK κ (arrOf st4) (lo+n)) (KK κ (arrOf st4) (lo+(n-1))) with
     | true=>refine aH rfl ?_;exact Qz (r1 e)
     | false=>refine aF Qk ?_;exact Qz (r2 e)
    have a1:x<=n:=a1;exact Qz (h n st4 g5 (by exact AZ b4 a1) a2 up)
   by_cases c:neq>0
   ·show wpS _ _ _ _ (if neq>0 then _ else _) _ _;refine aH c ?_;refine Qt (gn (κ:=κ) (lo:=lo) (i:=lo+x-(neq+1)) (j:=lo+x) (show lo<=lo+x-(neq+1) by exact vJ b4) (show lo+x<=_ by exact AY hn b2 sz) λst3 g3 kk=>?_)
    have kk:∀i,KK κ (arrOf st3) (lo+i)=KK κ (arrOf st2) (lo+i):=λi=>by
     rw[kk]
     split
     ·rename_i q
      obtain⟨e1,e2,e3,e4,e5⟩:=vz b4 q;rw[e1,b5 _ e2 e3,b5 i e4 e5]
     rfl
    exact J2 () st3 ⟨b1.trans g3,λi j h1 h2=>by rw[kk,kk];exact b3 i j h1 h2⟩
   show wpS _ _ _ _ (if neq>0 then _ else _) _ _;refine aF c ?_;exact J2 () st2 ⟨b1,b3⟩
 by_cases c:n>1
 ·refine aH c ?_;refine Qt (dU hL hk ha (by exact AW h1 hn) (by omega) ?_);rw[show lo+n-1=lo+(n-1) by exact AV c];dsimp -zeta only
  cases e:κ.blt (KK κ (arrOf st) lo) (KK κ (arrOf st) (lo+(n-1))) with
  | true =>
   refine aH rfl ?_;exact Qz (h n st (.refl _ _) a1 a2 up)
  | false =>
  refine aF Qk ?_
  have all:∀i,i<n->KK κ (arrOf st) (lo+i)=KK κ (arrOf st) (lo+(n-1)):=λi hi =>
   KeyOrd.kle_antisymm (up i (n-1) (by exact AU c hi) (by exact AT c)) (KeyOrd.kle_trans e (by have:=up 0 i (by exact w_) hi;rwa [Nat.add_zero]at this))
  refine Qt (gn (κ:=κ) (lo:=lo) (Qi _) (show lo+n<=_ by exact AS hn a2) λst3 g3 kk=>?_)
  have kk:∀i,KK κ (arrOf st3) (lo+i)=KK κ (arrOf st) (lo+i):=λi=>by
   rw[kk]
   split
   ·rename_i q
    have l:=Nat.lt_of_add_lt_add_left q.2;rw[rL l,all _ (Xx (Nat.sub_le _ _) (Nat.sub_lt (Xx (Q0 _) l) Nat.zero_lt_one)),all i l]
   rfl
  refine J () st3 ⟨g3,jZ.more (λi j h1 h2=>?_) a1 ?_⟩
  ·rw[kk,kk,all i (by exact AR h1 h2),all j h2];exact X1 _
  rw[kk,kk];exact KeyOrd.kle_of_klt lt0
 refine aF c ?_;refine J () st ⟨.refl _ _,jZ.more (λi j h1 h2=>?_) a1 (KeyOrd.kle_of_klt lt0)⟩;have:i=j:=by exact AQ a1 c h1 h2
 subst this;exact X1 _
end
section
def BE:Nat->Nat->Nat->StateT SortSt Sem Bool:=sortPriv% PySem.Builtin.binarySort
theorem tO (hL:gk κ kd prog w A s) {st:SortSt} {lo n ok:Nat} {Q:Bool->SortSt->Prop} (hk:kindOf st=kd) (ha:∀p∈(arrOf st).toList,Hk κ p) (h1:ok<=n) (hn:lo+n<=(arrOf st).size) (up:Up κ (arrOf st) lo ok)
  (h:∀st',Sg lo st st'->Up κ (arrOf st') lo n->Q true st'):wpS (model prog w) A E s (BE lo n ok) Q st:=by
 unfold BE;refine Qt (wpS_mono (Xz (I:=λk c st'=>c=(none,())/\Sg lo st st'/\Up κ (arrOf st') lo (min k n)) (Q:=λc st'=>c=(none,())/\Sg lo st st'/\Up κ (arrOf st') lo n) ?step ?fin ?init) ?post)
 case post =>
  rintro c st' ⟨rfl,g,u⟩;exact Qz (h st' g u)
 case init =>
  refine⟨rfl,.refl _ _,λi j hij hj=>?_⟩;by_cases e:ok=0
  ·have:i=j:=by exact AO hij hj e
   subst this;exact X1 _
  exact up i j hij (by exact AN h1 hj e)
 case fin =>
  rintro c st' ⟨rfl,g,u⟩;rw[show min (max (max ok 1) n) n=n by exact AM]at u;exact⟨rfl,g,u⟩
 case step =>
  rintro k c st' k1 k2 ⟨rfl,g,u⟩;rw[show min k n=k by exact AK k2]at u;have sz:=g.size
  refine Qt (wpS_mono (Xz (I:=λx c st2=>st2=st'/\∃l r,c=(none,l,r)/\l<=r/\r<=k/\r-l<=k-x/\(∀i,i<l->κ.kle (KK κ (arrOf st') (lo+i)) (KK κ (arrOf st') (lo+k)))/\(∀i,r<=i->i<k->κ.kle (KK κ (arrOf st') (lo+k)) (KK κ (arrOf st') (lo+i))))
   (Q:=λc st2=>st2=st'/\∃l,c=(none,l,l)/\l<=k/\(∀i,i<l->κ.kle (KK κ (arrOf st') (lo+i)) (KK κ (arrOf st') (lo+k)))/\(∀i,l<=i->i<k->κ.kle (KK κ (arrOf st') (lo+k)) (KK κ (arrOf st') (lo+i)))) ?istep ?ifin ⟨rfl,0,k,rfl,by exact w_,by exact AJ,by exact AI,λi hi=>by omega,λi a b=>by omega⟩) ?ipost)
  case ifin =>
   rintro c st2 ⟨rfl,l,r,rfl,a1,a2,a3,a4,a5⟩;have:l=r:=by exact zc a1 a3
   subst this;exact⟨rfl,l,rfl,a2,a4,a5⟩
  case istep =>
   rintro x c st2 _ hx ⟨rfl,l,r,rfl,a1,a2,a3,a4,a5⟩;dsimp -zeta only
   extract_lets
   by_cases c:l>=r
   ·show wpS _ _ _ _ (if l>=r then _ else _) _ _;refine aH c ?_;have:l=r:=by exact xa a1 c
    subst this;exact Qz ⟨rfl,l,rfl,a2,a4,a5⟩
   show wpS _ _ _ _ (if l>=r then _ else _) _ _;refine aF c ?_;refine Qt (dU (i:=lo+k) (j:=lo+(l+r) / 2) hL (g.kind.trans hk) (g.keys ha) (by exact oj hn k2 sz) (by omega) ?_);dsimp -zeta only
   cases e:κ.blt (KK κ (arrOf st2) (lo+k)) (KK κ (arrOf st2) (lo+(l+r) / 2)) with
   | true =>
    refine aH rfl ?_;refine Qz ⟨rfl,l,(l+r) / 2,rfl,by exact AH c,by exact AG a2 c,yz a3 c,a4,λi b1 b2=>?_⟩;exact KeyOrd.kle_trans (KeyOrd.kle_of_klt e) (u _ _ b1 b2)
   | false =>
   refine aF Qk ?_;refine Qz ⟨rfl,(l+r) / 2+1,r,rfl,by exact AF c,by exact wY a2,yA a3 c,λi b1=>?_,a5⟩;exact KeyOrd.kle_trans (u i ((l+r) / 2) (by exact AE b1) (by exact AD a2 c)) e
  case ipost =>
   rintro c st2 ⟨rfl,l,rfl,a2,a4,a5⟩;show wpS _ _ _ _ (moveDown' (lo+k) (lo+l) >>= _) _ _;rw[moveDown'_eq];have hks:lo+k<(arrOf st2).size:=by exact oj hn k2 sz
   refine Qt (wpS_modify (Qz ⟨rfl,g.trans ⟨rfl,rfl,rfl,λi hi=>?_,bubble_perm _ _ _⟩,λi j hij hj=>?_⟩))
   ·show (bubble (arrOf st2) (lo+k) (lo+k-(lo+l)))[i]?=_;rw[getElem?_bubble hks _ (by exact AC a2 hi),Qn (by exact AB a2 hi),Qn (by omega)]
   rw[show min (k+1) n=k+1 by exact AA k2]at hj;show κ.kle (KK κ (bubble (arrOf st2) (lo+k) (lo+k-(lo+l))) (lo+i)) (KK κ (bubble (arrOf st2) (lo+k) (lo+k-(lo+l))) (lo+j));rw[KK_bubble hks (by exact vH a2),KK_bubble hks (by exact vH a2),show lo+k-(lo+k-(lo+l))=lo+l by exact Az a2];have sh:∀i,l<i->lo+i-1=lo+(i-1):=λi hi=>by exact Ay hi
   by_cases ci:i<l
   ·rw[Qn (by exact vG ci),Qn (by exact vF ci)];by_cases cj:j<l
    ·rw[Qn (by exact vG cj),Qn (by exact vF cj)];exact u i j hij (by exact Ax a2 hj cj)
    by_cases cj2:j=l
    ·rw[Qp (by exact vE cj2)];exact a4 i ci
    rw[Qn (by exact vD cj2),Qp (by omega),sh j (by exact vC cj cj2)];exact u i (j-1) (by exact Av hij ci cj) (by exact Au a2 hij hj ci)
   by_cases ci2:i=l
   ·rw[Qp (by exact vE ci2)];by_cases cj2:j=l
    ·rw[Qp (by exact As ci2 cj2)];exact X1 _
    rw[Qn (by exact Ar ci2 cj2),Qp (by omega),sh j (by exact Aq hij ci2 cj2)];exact a5 (j-1) (by exact Ap hij ci2 cj2) (by exact Ao hij hj ci2 cj2)
   rw[Qn (by exact vD ci2),Qp (by omega),Qn (by exact An hij ci ci2),Qp (by omega),sh i (by exact vC ci ci2),sh j (by exact Am hij ci ci2)];exact u (i-1) (j-1) (by exact Ak hij) (by exact Aj hij hj ci ci2)
end
theorem kL (o:Nat):∀(M:List Keyed) (j:Nat) (arr:Array Keyed) (P S T:List Keyed),arr.toList=P++(S++T)->P.length=o+j->S.length=M.length->((M.zipIdx j).foldl (λa (x:Keyed × Nat)=>a.setIfInBounds (o+x.2) x.1) arr).toList=P++(M++T)
 | [],j,arr,P,S,T,h,hp,hs=>by
  have:S=[]:=Xw hs;subst this;exact h
 | p::M,j,arr,P,[],T,h,hp,hs=>by simp at hs
 | p::M,j,arr,P,q::S,T,h,hp,hs=>by
  rw[List.zipIdx_cons,List.foldl_cons]
  have e:(arr.setIfInBounds (o+j) p).toList=(P++[p])++(S++T):=by
   rw[Array.toList_setIfInBounds,h,List.set_append,Qn (by exact Ai hp),show o+j-P.length=0 by exact Ah hp];simp
  have:=kL o M (j+1) (arr.setIfInBounds (o+j) p) (P++[p]) S T e (by rw[Qh];simp;exact Ag hp) (by simpa using hs);rw[this];simp
def dC:Nat->List (List Keyed)->List (Nat × Nat)
 | _,[]=>[]
 | b,r::rs=>(b,r.length)::dC (b+r.length) rs
theorem e7 (u w:List (List Keyed)):∀b,dC b (u++w)=dC b u++dC (b+u.flatten.length) w:=by
 induction u with
 | nil=>intro b;simp[dC]
 | cons r u ih =>
 intro b;show (b,r.length)::dC (b+r.length) (u++w)=_;rw[ih];show _=(b,r.length)::(dC (b+r.length) u++_);rw[List.flatten_cons,Qh,Nat.add_assoc]
theorem lc (u:List (List Keyed)):∀b,(dC b u).length=u.length:=by
 induction u with
 | nil=>intro b;rfl
 | cons r u ih=>intro b;show (dC _ u).length+1=_;rw[ih];rfl
structure RI (κ:KeyKind) (kd:SortKind) (a₀:Array Keyed) (st:SortSt) (rs:List (List Keyed)) (rest:List Keyed):Prop where
 arr:(arrOf st).toList=rs.flatten++rest
 perm:(arrOf st).Perm a₀
 ok:∀r∈rs,r≠[]/\r.Pairwise (le κ)
 pend:(pendingOf st).toList.map (λp=>(p.1,p.2.1))=dC 0 rs
 kind:kindOf st=kd
 fail:failedOf st=none
theorem uh {ps:Array (Nat × Nat × Nat)} {u v:List (List Keyed)} {X Y:List Keyed} (h:ps.toList.map (λp=>(p.1,p.2.1))=dC 0 (u++X::Y::v)) :
  ∃p1 p2,ps[u.length]?=some (u.flatten.length,X.length,p1)/\ps[u.length+1]?=some (u.flatten.length+X.length,Y.length,p2) /\
   ((ps.setIfInBounds u.length (u.flatten.length,X.length+Y.length,p1)).eraseIdxIfInBounds (u.length+1)).toList.map (λp=>(p.1,p.2.1))=dC 0 u++(u.flatten.length,X.length+Y.length)::dC (u.flatten.length+X.length+Y.length) v:=by
 rw[e7,Nat.zero_add]at h;have h:ps.toList.map (λp=>(p.1,p.2.1))=dC 0 u++(u.flatten.length,X.length)::(u.flatten.length+X.length,Y.length)::dC (u.flatten.length+X.length+Y.length) v:=h;have lu:=lc u 0;obtain⟨l1,l2,e,e1,e2⟩:=List.map_eq_append_iff.mp h
 cases l2 with
 | nil=>simp at e2
 | cons a l2 =>
 cases l2 with
 | nil=>simp at e2
 | cons b l2 =>
 obtain⟨a1,a2,a3⟩:=a;obtain⟨b1,b2,b3⟩:=b;simp only[Qu,List.cons.injEq,Prod.mk.injEq]at e2;obtain⟨⟨rfl,rfl⟩,⟨rfl,rfl⟩,e3⟩:=e2;have l1l:l1.length=u.length:=by rw[<-lu,<-e1,Qb]
 have pe:ps=(l1++(u.flatten.length,X.length,a3)::(u.flatten.length+X.length,Y.length,b3)::l2).toArray:=by rw[<-e]
 subst pe;refine⟨a3,b3,?_,?_,?_⟩
 ·rw[<-l1l];simp
 ·rw[<-l1l];simp[QZ]
 rw[<-l1l,<-e1,<-e3];simp[Array.eraseIdxIfInBounds,List.set_append,List.eraseIdx_append];rw[Qn (by exact Af)];simp
section
theorem tN {O:Type} {M:Model} {x:O} {Q:PUnit->O->Prop} {st:O} (h:Q ⟨⟩ x):wpS M A E s (set x:StateT O Sem PUnit) Q st:=by
 unfold wpS;rw[StateT.run_set];exact Qe ⟨rfl,h⟩
theorem fX (hL:gk κ kd prog w A s) {st:SortSt} {a₀:Array Keyed} {u v:List (List Keyed)} {X Y rest:List Keyed} {Q:Bool->SortSt->Prop} (ha:∀p∈a₀.toList,Hk κ p) (I:RI κ kd a₀ st (u++X::Y::v) rest)
  (h:∀Z st',Z.length=X.length+Y.length->RI κ kd a₀ st' (u++Z::v) rest->Q true st'):wpS (model prog w) A E s (mergeAt' u.length) Q st:=by
 obtain⟨earr,perm,ok,pend,kind,fail⟩:=I;obtain⟨p1,p2,e1,e2,e3⟩:=uh pend;obtain⟨xne,sx⟩:=ok X (by simp);obtain⟨yne,sy⟩:=ok Y (by simp);have xl:1<=X.length:=Nat.pos_of_ne_zero λz=>xne (Xw z);have yl:1<=Y.length:=Nat.pos_of_ne_zero λz=>yne (Xw z);have ha':∀p∈(arrOf st).toList,Hk κ p:=λp hp=>ha p ((Array.perm_iff_toList_perm.mp perm).mem_iff.mp hp);have earr:(arrOf st).toList=u.flatten++(X++(Y++(v.flatten++rest))):=by rw[earr];simp
 have sz:(arrOf st).size=u.flatten.length+(X.length+(Y.length+(v.flatten++rest).length)):=by rw[<-Qg,earr];simp only[Qh]
 have atX:∀i,i<X.length->(arrOf st)[u.flatten.length+i]?=X[i]?:=λi hi=>by rw[<-Qv,earr,QZ (by exact rO),X5,Xd hi]
 have atY:∀i,i<Y.length->(arrOf st)[u.flatten.length+X.length+i]?=Y[i]?:=λi hi=>by rw[<-Qv,earr,QZ (by exact Ae xl sz),QZ (by exact Ad xl sz),show u.flatten.length+X.length+i-u.flatten.length-X.length=i by exact Ac,Xd hi]
 obtain⟨y0,hy0⟩:∃y0,Y[0]?=some y0:=⟨Y[0],by rw[Qd]⟩;obtain⟨xz,hxz⟩:∃xz,X[X.length-1]?=some xz:=⟨X[X.length-1],by rw[Qd]⟩;have key0:(arrOf st)[u.flatten.length+X.length]?=some y0:=by have:=atY 0 (by exact rN yl);rw[Nat.add_zero]at this;rw[this,hy0]
 have pwi:∀{L:List Keyed},L.Pairwise (le κ)->∀{i j:Nat} {p q:Keyed},i<=j->L[i]?=some p->L[j]?=some q->le κ p q:=λ{L} sl {i j p q} hij hi hj=>by
  by_cases e:i=j
  ·subst e;rw[hi]at hj;cases hj;exact X1 _
  obtain⟨li,ei⟩:=Qf.mp hi;obtain⟨lj,ej⟩:=Qf.mp hj;have:=(XU.mp sl) i j li lj (by exact yN hij e);rwa [ei,ej]at this
 have leY:∀q∈Y,le κ y0 q:=λq hq=>by
  obtain⟨j,hj,ej⟩:=Q6.mp hq;exact pwi sy (Q0 j) hy0 (by rw[Qd hj,ej])
 have leX:∀p∈X,le κ p xz:=λp hp=>by
  obtain⟨j,hj,ej⟩:=Q6.mp hp;exact pwi sx (show j<=X.length-1 by exact Ab xl sz hj) (by rw[Qd hj,ej]) hxz
 have same:∀st',arrOf st'=arrOf st->kindOf st'=kindOf st->failedOf st'=failedOf st->(pendingOf st').toList.map (λp=>(p.1,p.2.1))=dC 0 u++(u.flatten.length,X.length+Y.length)::dC (u.flatten.length+X.length+Y.length) v->(∀p∈X,∀q∈Y,le κ p q)->Q true st':=λst' h1 h2 h3 h4 h5=>by
  refine h (X++Y) st' (by simp) ⟨by rw[h1,earr];simp,by rw[h1];exact perm,λr hr=>?_,?_,h2.trans kind,h3.trans fail⟩
  ·rcases Qj.mp hr with e|e
   ·exact ok r (by simp[e])
   rcases Qw.mp e with e|e
   ·subst e;exact⟨by simp[xne],Q5.mpr ⟨sx,sy,h5⟩⟩
   exact ok r (by simp[e])
  rw[h4,e7,Nat.zero_add];show _=_++(u.flatten.length,(X++Y).length)::dC (u.flatten.length+(X++Y).length) v;rw[Qh,Nat.add_assoc]
 unfold mergeAt';refine Qt (wpS_get ?_);show wpS _ _ _ _ (match ((pendingOf st)[u.length]?,(pendingOf st)[u.length+1]?) with|(some (sa,na,power),some (sb,nb,_))=>_|x=>_) _ _;rw[e1,e2];dsimp -zeta only;refine Qt (tN ?_);refine Qt (aX key0 ?_);have hk0:Hk κ y0:=ha' y0 (by rw[Array.mem_toList_iff];exact Array.mem_of_getElem? key0);refine Qt (dW (a:=arrOf st) (base:=u.flatten.length) (n:=X.length) (hint:=0) hL (by exact kind) hk0 ha' (by exact Aa yl sz) (λi j p q b1 b2 b3 c1 c2=>?_) (by exact z_ xl sz) λk k1 k2 k3=>?_)
 ·have f1:=atX (i-u.flatten.length) (by omega);have f2:=atX (j-u.flatten.length) (by omega);rw[show u.flatten.length+(i-u.flatten.length)=i by exact zZ b1,c1]at f1;rw[show u.flatten.length+(j-u.flatten.length)=j by exact zY b1 b2,c2]at f2;exact pwi sx (show i-u.flatten.length<=j-u.flatten.length by exact zX b1 b2) f1.symm f2.symm
 dsimp -zeta only;have k2':∀i,i<k->∀p,X[i]?=some p->le κ p y0:=λi hi p e=>jS (k2 i hi p (by rw[atX i (by exact zW sz k1 hi)];exact e))
 have k3':∀i,k<=i->∀p,X[i]?=some p->le κ y0 p:=λi hi p e=>by
  have hl:=(Qf.mp e).1;exact jT (k3 i hi hl p (by rw[atX i hl];exact e))
 by_cases d1:X.length-k=0
 ·refine aH (bT d1) ?_;refine Qz (same _ rfl rfl rfl e3 λp hp q hq=>?_);obtain⟨j,hj,ej⟩:=Q6.mp hp;exact le_trans (k2' j (by omega) p (by rw[Qd hj,ej])) (leY q hq)
 refine aF (bF d1) ?_
 have keyz:(arrOf st)[u.flatten.length+k+(X.length-k)-1]?=some xz:=by
  rw[(yy (f:=u.flatten.length) k1).resolve_right (λz=>by rw[z]at xl;exact absurd xl (by decide)),atX _ (by exact zV xl sz),hxz]
 refine Qt (aX keyz ?_);have hkz:Hk κ xz:=ha' xz (by rw[Array.mem_toList_iff];exact Array.mem_of_getElem? keyz);refine Qt (dW (a:=arrOf st) (base:=u.flatten.length+X.length) (n:=Y.length) (hint:=Y.length-1) hL (by exact kind) hkz ha' (by exact zU sz) (λi j p q b1 b2 b3 c1 c2=>?_) (by exact pL yl) λm m1 m2 m3=>?_)
 ·have f1:=atY (i-(u.flatten.length+X.length)) (by omega);have f2:=atY (j-(u.flatten.length+X.length)) (by omega);rw[show u.flatten.length+X.length+(i-(u.flatten.length+X.length))=i by omega,c1]at f1;rw[show u.flatten.length+X.length+(j-(u.flatten.length+X.length))=j by omega,c2]at f2;exact pwi sy (show i-(u.flatten.length+X.length)<=j-(u.flatten.length+X.length) by omega) f1.symm f2.symm
 dsimp -zeta only;have m2':∀i,i<m->∀p,Y[i]?=some p->le κ p xz:=λi hi p e=>jR (m2 i hi p (by rw[atY i (by exact rQ m1 hi)];exact e))
 have m3':∀i,m<=i->∀p,Y[i]?=some p->le κ xz p:=λi hi p e=>by
  have hl:=(Qf.mp e).1;exact jU (m3 i hi hl p (by rw[atY i hl];exact e))
 by_cases d2:m=0
 ·refine aH (bT d2) ?_;refine Qz (same _ rfl rfl rfl e3 λp hp q hq=>?_);obtain⟨j,hj,ej⟩:=Q6.mp hq;exact le_trans (leX p hp) (m3' j (by exact zS d2) q (by rw[Qd hj,ej]))
 refine aF (bF d2) ?_
 extract_lets x y jp
 have ex:x.toList=X.drop k:=by
  show ((arrOf st).extract (u.flatten.length+k) (u.flatten.length+X.length)).toList=_;rw[show u.flatten.length+X.length=(u.flatten.length+k)+(X.length-k) by omega,gu,earr,<-List.drop_drop,List.drop_left,List.drop_append_of_le_length (by exact wY k1),List.take_append_of_le_length (by rw[Q3];exact om1),Q1 (by rw[Q3];exact om1)]
 have ey:y.toList=Y.take m:=by
  show ((arrOf st).extract (u.flatten.length+X.length) (u.flatten.length+X.length+m)).toList=_;rw[gu,earr,<-List.drop_drop,List.drop_left,List.drop_left,List.take_append_of_le_length m1]
 have zx:x.size=X.length-k:=by rw[<-Qg,ex,Q3]
 have zy:y.size=m:=by rw[<-Qg,ey,QA];omega
 have atx:∀{i p},x[i]?=some p->X[k+i]?=some p:=λ{i p} e=>by rw[<-Qv,ex,List.getElem?_drop]at e;exact e
 have aty:∀{i p},y[i]?=some p->Y[i]?=some p:=λ{i p} e=>by
  have hl:=(Qx.mp e).1;rw[<-Qv,ey,List.getElem?_take,Qp (by exact k_ zy hl)]at e;exact e
 have inX:∀p∈x.toList,∃i,k<=i/\X[i]?=some p:=λp hp=>by
  obtain⟨i,hi,ei⟩:=Q6.mp hp;exact⟨k+i,by exact rO,atx (by rw[<-Qv,Qd hi,ei])⟩
 have inY:∀p∈y.toList,∃i,i<m/\Y[i]?=some p:=λp hp=>by
  obtain⟨i,hi,ei⟩:=Q6.mp hp;rw[Qg]at hi;exact⟨i,by exact k_ zy hi,aty (by rw[<-Qv,Qd (by rw[Qg];exact hi),ei])⟩
 have mX:∀{p i},X[i]?=some p->p∈X:=λe=>QC e
 have hx:∀p∈x.toList,Hk κ p:=λp hp=>by
  obtain⟨i,_,e⟩:=inX p hp;exact ha' p (by rw[earr];simp[QC e])
 have hy:∀p∈y.toList,Hk κ p:=λp hp=>by
  obtain⟨i,_,e⟩:=inY p hp;exact ha' p (by rw[earr];simp[QC e])
 have ssx:x.toList.Pairwise (le κ):=by rw[ex];exact sx.sublist (List.drop_sublist _ _)
 have ssy:y.toList.Pairwise (le κ):=by rw[ey];exact sy.sublist (List.take_sublist _ _)
 have first:∀p∈x.toList,∀q,y[0]?=some q->le κ q p:=λp hp q hq=>by
  obtain⟨i,hi,e⟩:=inX p hp;have:=aty hq;rw[hy0]at this;cases this;exact k3' i hi p e
 have last:∀q∈y.toList,∀p,x[x.size-1]?=some p->le κ q p:=λq hq p hp=>by
  obtain⟨i,hi,e⟩:=inY q hq;have:=atx hp;rw[yx k1 d1 zx,hxz]at this;cases this;exact m2' i hi q e
 refine eV (λz:Array Keyed=>jp z) (λz st'=>Gs (setPending st (((pendingOf st).setIfInBounds u.length (u.flatten.length,X.length+Y.length,p1)).eraseIdxIfInBounds (u.length+1))) st'/\Srt κ (x.toList++y.toList) z.toList) (λz st1 hz=>?_) (λJ=>?_)
 ·obtain⟨g,so⟩:=hz;refine Qt (wpS_modify ?_);refine Qt (wpS_get ?_);have f1:failedOf st1=none:=g.fail.trans fail;have lz:z.toList.length=(X.length-k)+m:=by rw[so.1.length_eq,Qh,Qg,Qg,zx,zy]
  have ar:(List.foldl (λa (x:Keyed × Nat)=>a.setIfInBounds (u.flatten.length+k+x.snd) x.fst) (arrOf st1) z.toList.zipIdx).toList=u.flatten++((X.take k++(z.toList++Y.drop m))++(v.flatten++rest)):=by
   rw[kL (u.flatten.length+k) z.toList 0 (arrOf st1) (u.flatten++X.take k) (X.drop k++Y.take m) (Y.drop m++(v.flatten++rest)) ?_ ?_ ?_]
   ·simp only[Xa]
   ·rw[show arrOf st1=arrOf st from g.arr,earr]
    conv=>lhs;rw[<-QX k X,<-QX m Y]
    simp only[Xa]
   ·rw[Qh,QA];exact zR sz k1
   rw[lz,Qh,Q3,QA];exact zQ m1 zy
  have pz:(X.take k++(z.toList++Y.drop m)).Perm (X++Y):=by
   conv=>rhs;rw[<-QX k X,<-QX m Y]
   rw[Xa];refine List.Perm.append_left _ ?_;rw[<-Xa];refine List.Perm.append_right _ ?_;rw[<-ex,<-ey];exact so.1
  have mz:∀p∈z.toList,(∃i,k<=i/\X[i]?=some p)\/∃i,i<m/\Y[i]?=some p:=λp hp=>by
   rcases Qj.mp (so.1.mem_iff.mp hp) with e|e
   ·exact .inl (inX p e)
   exact .inr (inY p e)
  have tk:∀p∈X.take k,∃i,i<k/\X[i]?=some p:=λp hp=>by
   obtain⟨i,hi,ei⟩:=Q6.mp hp;have:=Qd hi;rw[ei,List.getElem?_take]at this;rw[QA]at hi;rw[Qp (by omega)]at this;exact⟨i,by omega,this⟩
  have dm:∀p∈Y.drop m,∃i,m<=i/\Y[i]?=some p:=λp hp=>by
   obtain⟨i,hi,ei⟩:=Q6.mp hp;have:=Qd hi;rw[ei,List.getElem?_drop]at this;exact⟨m+i,by exact rO,this⟩
  have sz':(X.take k++(z.toList++Y.drop m)).Pairwise (le κ):=by
   refine Q5.mpr ⟨sx.sublist (List.take_sublist _ _),Q5.mpr ⟨so.2,sy.sublist (List.drop_sublist _ _),λp hp q hq=>?_⟩,λp hp q hq=>?_⟩
   ·obtain⟨j,hj,ej⟩:=dm q hq;rcases mz p hp with⟨i,hi,ei⟩|⟨i,hi,ei⟩
    ·exact le_trans (leX p (mX ei)) (m3' j hj q ej)
    exact pwi sy (by exact zP zy hj hi) ei ej
   obtain⟨i,hi,ei⟩:=tk p hp;rcases Qj.mp hq with e|e
   ·rcases mz q e with⟨j,hj,ej⟩|⟨j,hj,ej⟩
    ·exact pwi sx (by exact zO hi hj) ei ej
    exact le_trans (k2' i hi p ei) (leY q (QC ej))
   obtain⟨j,hj,ej⟩:=dm q e;exact le_trans (k2' i hi p ei) (leY q (QC ej))
  have fin:∀st',arrOf st'=List.foldl (λa (x:Keyed × Nat)=>a.setIfInBounds (u.flatten.length+k+x.snd) x.fst) (arrOf st1) z.toList.zipIdx->kindOf st'=kindOf st1->failedOf st'=failedOf st1->pendingOf st'=pendingOf st1->Q true st':=λst' h1 h2 h3 h4=>by
   refine h (X.take k++(z.toList++Y.drop m)) st' (by rw[pz.length_eq,Qh]) ⟨?_,?_,λr hr=>?_,?_,h2.trans (g.kind.trans kind),h3.trans f1⟩
   ·rw[h1,ar];simp
   ·refine Array.Perm.trans ?_ perm;rw[Array.perm_iff_toList_perm,h1,ar,earr];refine List.Perm.append_left _ ?_;rw[<-Xa X];exact List.Perm.append_right _ pz
   ·rcases Qj.mp hr with e|e
    ·exact ok r (by simp[e])
    rcases Qw.mp e with e|e
    ·subst e;refine⟨λz0=>?_,sz'⟩;have:=pz.length_eq;rw[z0,Qh]at this;simp at this;omega
    exact ok r (by simp[e])
   rw[h4,show pendingOf st1=_ from g.pend];rw[e7,Nat.zero_add];show _=_++(u.flatten.length,(X.take k++(z.toList++Y.drop m)).length)::dC (u.flatten.length+(X.take k++(z.toList++Y.drop m)).length) v;rw[pz.length_eq,Qh,<-Nat.add_assoc];exact e3
  refine Qz ?_;show Q (failedOf st1).isNone (setArr st1 (List.foldl (λa (x:Keyed × Nat)=>a.setIfInBounds (u.flatten.length+k+x.snd) x.fst) (arrOf st1) z.toList.zipIdx));rw[show (failedOf st1).isNone=true by rw[f1];rfl];exact fin _ rfl rfl rfl rfl
 by_cases d3:X.length-k<=m
 ·refine aH d3 ?_;refine Qt (j9 hL (by exact kind) hx hy (by omega) (by omega) ⟨by simp,List.Pairwise.nil,ssx,ssy,λp hp=>(nomatch hp),λp hp=>(nomatch hp),λq hq l hl=>last q hq l ?_⟩ first λr st' g so=>J r st' ⟨g,so⟩);rw[List.getLast?_eq_getElem?,Qv,Qg]at hl;exact hl
 refine aF d3 ?_;exact Qt (j_ hL (by exact kind) hx hy (by omega) (by omega) ssx ssy first last λr st' g so=>J r st' ⟨g,so⟩)
end
section
variable {xs a₀:Array Keyed}
theorem tQ {lo n:Nat} (h:Up κ xs lo n) (hn:lo+n<=xs.size):((xs.toList.drop lo).take n).Pairwise (le κ):=by
 rw[XU];intro i j hi hj hij;rw[QA,Q3,Qg]at hi hj
 have at_:∀(m:Nat) (hm:m<((xs.toList.drop lo).take n).length),kv κ ((xs.toList.drop lo).take n)[m]=KK κ xs (lo+m):=λm hm=>by
  have e:=Qd hm;rw[QA,Q3,Qg]at hm;rw[List.getElem?_take,Qp (by exact vB hm),List.getElem?_drop,Qv]at e;exact(sw e).symm
 unfold le;rw[at_,at_];exact h i j (by exact rS hij) (by exact vB hj)
variable {rest:List Keyed} {rs:List (List Keyed)} {st st2:SortSt}
theorem kS (I:RI κ kd a₀ st rs rest):(pendingOf st).size=rs.length:=by
 have:=congrArg List.length I.pend;rwa [Qb,lc,Qg]at this
theorem qT {rs:List (List Keyed)} {i:Nat} (h:i+1<rs.length):∃u X Y v,rs=u++X::Y::v/\u.length=i:=by
 refine⟨rs.take i,rs[i],rs[i+1],rs.drop (i+2),?_,by rw[QA];exact zN h⟩;rw[<-List.drop_eq_getElem_cons,<-List.drop_eq_getElem_cons,QX]
theorem RI.seg (I:RI κ kd a₀ st rs rest) (g:Sg rs.flatten.length st st2):RI κ kd a₀ st2 rs ((arrOf st2).toList.drop rs.flatten.length):=by
 refine⟨?_,g.perm.trans I.perm,I.ok,by rw[g.pend];exact I.pend,g.kind.trans I.kind,g.fail.trans I.fail⟩
 have:(arrOf st2).toList.take rs.flatten.length=rs.flatten:=by
  refine List.ext_getElem? λi=>?_;rw[List.getElem?_take]
  split
  ·rename_i hi
   rw[Qv,g.head i hi,<-Qv,I.arr,Xd hi]
  rename_i hi
  rw[List.getElem?_eq_none (by exact om2 hi)]
 conv=>lhs;rw[<-QX rs.flatten.length (arrOf st2).toList]
 rw[this]
variable {ps:Array (Nat × Nat × Nat)}
theorem RI.power (I:RI κ kd a₀ st rs rest) (h:ps.toList.map (λp=>(p.1,p.2.1))=(pendingOf st).toList.map (λp=>(p.1,p.2.1))):RI κ kd a₀ (setPending st ps) rs rest :=
 ⟨I.arr,I.perm,I.ok,h.trans I.pend,I.kind,I.fail⟩
theorem mK {i pw:Nat}:(ps.modify i λx=>match x with|(st,len,_)=>(st,len,pw)).toList.map (λp=>(p.1,p.2.1))=ps.toList.map (λp=>(p.1,p.2.1)):=by
 refine List.ext_getElem? λj=>?_;rw[Qy,Qy,Qv,Qv,Array.getElem?_modify]
 split
 ·cases ps[j]? with
  | none=>rfl
  | some p=>rfl
 rfl
theorem qF (hL:gk κ kd prog w A s) {st:SortSt} {a₀:Array Keyed} {Q:Unit->SortSt->Prop} (ha:∀p∈a₀.toList,Hk κ p) (I:RI κ kd a₀ st [] a₀.toList)
  (h:∀st',(arrOf st').Perm a₀->failedOf st'=none->(arrOf st').toList.Pairwise (le κ)->Q () st'):wpS (model prog w) A E s sortRuns' Q st:=by
 have ha2:∀{st:SortSt} {rs:List (List Keyed)} {rest:List Keyed},RI κ kd a₀ st rs rest->∀p∈(arrOf st).toList,Hk κ p:=λI p hp=>ha p ((Array.perm_iff_toList_perm.mp I.perm).mem_iff.mp hp)
 have sz:∀{st:SortSt} {rs:List (List Keyed)} {rest:List Keyed},RI κ kd a₀ st rs rest->(arrOf st).size=a₀.size/\a₀.size=rs.flatten.length+rest.length:=λI=>by
  have:=I.perm.size_eq;refine⟨this,?_⟩;rw[<-this,<-Qg,I.arr,Qh]
 unfold sortRuns';refine Qt (wpS_get ?_)
 extract_lets szv mr lo0
 have ez:szv=a₀.size:=(sz I).1
 clear_value szv mr
 subst ez;refine Qt (wpS_mono (Xz (I:=λx c st'=>∃rs rest,c=(none,rs.flatten.length)/\RI κ kd a₀ st' rs rest/\(x<=rs.flatten.length\/rest=[])) (Q:=λc st'=>∃rs lo,c=(none,lo)/\RI κ kd a₀ st' rs []) ?step ?fin ⟨[],_,rfl,I,.inl (Q0 _)⟩) ?post)
 case fin =>
  rintro c st' ⟨rs,rest,rfl,J,o⟩;have:=(sz J).2
  have e:rest=[]:=by
   rcases o with o|o
   ·exact Xw (by exact zM this o)
   exact o
  subst e;exact⟨rs,_,rfl,J⟩
 case step =>
  rintro x c st' _ hx ⟨rs,rest,rfl,J,o⟩;have zz:=(sz J).2;have zs:=(sz J).1;generalize hlo:rs.flatten.length=lo at *;by_cases c1:lo>=a₀.size
  ·show wpS _ _ _ _ (if lo>=a₀.size then _ else _) _ _;refine aH c1 ?_;have e:rest=[]:=Xw (by exact zL zs zz c1);subst e;exact Qz ⟨rs,_,rfl,J⟩
  show wpS _ _ _ _ (if lo>=a₀.size then _ else _) _ _;refine aF c1 ?_
  have xlo:x<=lo:=by
   rcases o with o|o
   ·exact o
   subst o;simp at zz;exact zK zs c1 zz
  refine Qt (oZ (lo:=lo) (nrem:=a₀.size-lo) hL J.kind (ha2 J) (by exact zJ zs zz c1) (by exact zI zs zz c1) λm st1 g1 m1 m2 up=>?_);dsimp -zeta only
  extract_lets n jp
  refine eV (λz:Nat=>jp () z) (λz st2=>Sg lo st' st2/\1<=z/\lo+z<=a₀.size/\Up κ (arrOf st2) lo z) (λn st2 hz=>?_) (λJJ=>?_)
  ·obtain⟨g2,n1,n2,up2⟩:=hz;have J2:=J.seg (by rw[hlo];exact g2);rw[hlo]at J2;have z2:=(sz J2).2;have up3:=tQ up2 (by rw[(sz J2).1];exact n2);generalize hr2:(arrOf st2).toList.drop lo=rest2 at J2 up3 z2;rw[hlo]at z2;refine Qt (wpS_get ?_)
   extract_lets ln jp2
   refine eV (λ_:Unit=>jp2 ()) (λ_ st3=>∃rs3,RI κ kd a₀ st3 rs3 rest2/\rs3.flatten.length=lo) (λ_ st3 hz=>?_) (λJP=>?_)
   ·obtain⟨rs3,J3,l3⟩:=hz;refine Qt (wpS_modify ?_);refine Qz ⟨rs3++[rest2.take n],rest2.drop n,?_,⟨?_,J3.perm,λr hr=>?_,?_,J3.kind,J3.fail⟩,.inl ?_⟩
    ·have:(rs3++[rest2.take n]).flatten.length=lo+n:=by rw[List.flatten_append,Qh,l3];simp;omega
     rw[this]
    ·rw[List.flatten_append];show (arrOf st3).toList=_;rw[J3.arr];simp
    ·rcases Qj.mp hr with e|e
     ·exact J3.ok r e
     have e:r=rest2.take n:=by simpa using e
     subst e;refine⟨λz0=>?_,up3⟩;have:=congrArg List.length z0;rw[QA,List.length_nil]at this;omega
    ·show ((pendingOf st3).push (lo,n,0)).toList.map _=_;rw[Array.toList_push,QO,J3.pend,e7,Nat.zero_add,l3];show _=_++[(lo,(rest2.take n).length)];rw[QA,show min n rest2.length=n by omega];rfl
    have:(rs3++[rest2.take n]).flatten.length=lo+n:=by rw[List.flatten_append,Qh,l3];simp;omega
    exact zH xlo n1 l3 this
   cases hb:(pendingOf st2).back? with
   | none=>exact JP () st2 ⟨rs,J2,hlo⟩
   | some p =>
   obtain⟨s1,l1,pw1⟩:=p;dsimp -zeta only
   extract_lets pw
   refine Qt (wpS_mono (Xz (I:=λ_ c st3=>c=(none,())/\∃rs3,RI κ kd a₀ st3 rs3 rest2/\rs3.flatten.length=lo) (Q:=λc st3=>c=(none,())/\∃rs3,RI κ kd a₀ st3 rs3 rest2/\rs3.flatten.length=lo) ?_ (λ_ _ z=>z) ⟨rfl,rs,J2,hlo⟩) ?_)
   ·rintro y c st3 _ _ ⟨rfl,rs3,J3,l3⟩;have pl:=kS J3;refine Qt (wpS_get ?_);show wpS _ _ _ _ (match (if (pendingOf st3).size>1 then (pendingOf st3)[(pendingOf st3).size-2]? else none) with|some (_,_,older)=>_|x=>_) _ _;by_cases c2:(pendingOf st3).size>1
    ·rw[Qp c2];obtain⟨q,hq⟩:∃q,(pendingOf st3)[(pendingOf st3).size-2]?=some q:=⟨(pendingOf st3)[(pendingOf st3).size-2],by rw[QI]⟩;rw[hq];obtain⟨q1,q2,older⟩:=q;dsimp -zeta only;by_cases c3:older<=pw
     ·refine aH c3 ?_;exact Qz ⟨rfl,rs3,J3,l3⟩
     refine aF c3 ?_;obtain⟨u,X,Y,v,rfl,ul⟩:=qT (rs:=rs3) (i:=(pendingOf st3).size-2) (by exact zF pl c2);rw[<-ul];refine Qt (fX hL ha J3 λZ st4 lz J4=>?_);refine aF Qk ?_;refine Qz ⟨rfl,_,J4,?_⟩;rw[<-l3];simp;exact zE lz
    rw[Qn c2];exact Qz ⟨rfl,rs3,J3,l3⟩
   rintro c st3 ⟨rfl,rs3,J3,l3⟩;refine Qt (wpS_modify ?_);exact JP () _ ⟨rs3,J3.power mK,l3⟩
  have z1:=g1.size;by_cases c2:n<mr
  ·refine aH c2 ?_;refine Qt (wpS_lift (XI ⟨rfl,?_⟩));have en:n=m:=rfl;refine Qt (tO (lo:=lo) (n:=min (a₀.size-lo) mr) (ok:=m) hL (g1.kind.trans J.kind) (g1.keys (ha2 J)) (by omega) (by omega) up λst2 g2 up2=>?_);refine aF Qk ?_;exact JJ _ st2 ⟨g1.trans g2,by omega,by omega,up2⟩
  refine aF c2 ?_;exact JJ m st1 ⟨g1,m1,by omega,up⟩
 case post =>
  rintro c st1 ⟨rs,lo,rfl,J⟩;have zz:=(sz J).2
  have short:∀(rs:List (List Keyed)),(∀r∈rs,r≠[]/\r.Pairwise (le κ))->rs.length<=rs.flatten.length:=λrs=>by
   induction rs with
   | nil=>intro _;simp
   | cons r rs ih =>
   intro hr;have h1:=(hr r (by simp)).1;have h2:=ih λr' h'=>hr r' (by simp[h']);have:r.length≠0:=λe=>h1 (Xw e);rw[List.flatten_cons,Qh,Q2];exact zD h2 this
  have len0:=short rs J.ok;simp only[List.length_nil,Nat.add_zero]at zz;refine Qt (wpS_mono (Xz (I:=λx c st'=>c=(none,())/\∃rs,RI κ kd a₀ st' rs []/\rs.length+x<=a₀.size+1) (Q:=λc st'=>c=(none,())/\∃rs,RI κ kd a₀ st' rs []/\rs.length<=1) ?_ ?_ ⟨rfl,rs,J,by exact zC zz len0⟩) ?_)
  ·rintro x c st' _ hx ⟨rfl,rs,J,l⟩;have pl:=kS J;refine Qt (wpS_get ?_);show wpS _ _ _ _ (if (pendingOf st').size<=1 then _ else _) _ _;by_cases c2:(pendingOf st').size<=1
   ·refine aH c2 ?_;exact Qz ⟨rfl,rs,J,by exact zB pl c2⟩
   refine aF c2 ?_
   extract_lets i bf j
   have hj:j+1<rs.length:=by
    have h1:j=i-1\/j=i:=by
     show (if _ then i-1 else i)=i-1\/(if _ then i-1 else i)=i
     split
     ·exact .inl rfl
     exact .inr rfl
    exact yu h1 c2 pl
   obtain⟨u,X,Y,v,rfl,ul⟩:=qT hj
   clear_value j
   subst ul;refine Qt (fX hL ha J λZ st4 lz J4=>?_);refine aF Qk ?_;refine Qz ⟨rfl,_,J4,?_⟩;simp only[Qh,Q2]at l ⊢;omega
  ·rintro c st' ⟨rfl,rs,J,l⟩;exact⟨rfl,rs,J,by exact zw zz l⟩
  rintro c st' ⟨rfl,rs,J,l⟩;refine Qz (h st' J.perm J.fail ?_);rw[J.arr,X0]
  match rs,l,J.ok with
  | [],_,_=>exact List.Pairwise.nil
  | [r],_,ok=>simpa using(ok r (by simp)).2
end
end Tm
namespace Tm
open PySem PySem.Spec PyProof.Rows
def leV (κ:PyProof.Rows.KeyKind) (u v:Value):Prop:=le κ (u,u) (v,v)
theorem j7 {vs:List Value} {p:Keyed} (h:p∈vs.zip vs):p.1=p.2/\p.1∈vs:=by
 obtain⟨i,hi,e⟩:=Q6.mp h;rw[List.getElem_zip]at e;subst e;exact⟨rfl,XT _⟩
theorem rJ {κ:PyProof.Rows.KeyKind} {vs:List Value} {xs:Array Keyed} (hp:xs.Perm (pairsOf vs)) (hs:xs.toList.Pairwise (le κ)):((xs.map (·.2)).toList).Perm vs/\((xs.map (·.2)).toList).Pairwise (leV κ):=by
 have hl:xs.toList.Perm (vs.zip vs):=by rw[<-pairsOf_toList];exact Array.perm_iff_toList_perm.mp hp
 have self:∀p∈xs.toList,p.1=p.2:=λp h=>(j7 (hl.mem_iff.mp h)).1
 have e:vs=(vs.zip vs).map (·.2):=by
  rw[List.map_snd_zip];exact Qi _
 refine⟨?_,?_⟩
 ·rw[Array.toList_map]
  conv=>rhs;rw[e]
  exact hl.map _
 rw[Array.toList_map,Xs];refine hs.imp_of_mem λ{a b} ha hb h=>?_;have h1:=self a ha;have h2:=self b hb;unfold leV le kv at *;rw[<-h1,<-h2];exact h
section
variable {prog:Program} {w:World} {A:Around} {E:C9} {s:Shared}
structure Can (prog:Program) (w:World) (up:Around->Prop) (κ:PyProof.Rows.KeyKind) (kd:SortKind) (h:Heap) (a:Addr) (vs:List Value):Prop where
 key:∀v∈vs,∃x,κ.keyOf v=some x
 lt:∀(A:Around) (s:Shared),up A->(∀b o,b≠a->h.get? b=some o->s.heap.get? b=some o)->gk κ kd prog w A s
 kind:2<=vs.length->∀(A:Around) (E:C9) (s:Shared) (Q:SortKind->Shared->Prop),(∀b o,b≠a->h.get? b=some o->s.heap.get? b=some o)->Q kd s->wpAny (model prog w) A (keyKind' vs.toArray) Q E s
variable {a b d:Addr}
theorem mP {up:Around->Prop} {κ:PyProof.Rows.KeyKind} {kd:SortKind} {vs:List Value} {n:Nat} {P:Fin->Shared->Prop} (ho:s.heap.get? a=some (seqObj "list" vs.toArray n)) (c:Can prog w up κ kd s.heap a vs) (hu:up A) (hn:vs.length<=100000)
  (h:∀out:Array Value,out.toList.Perm vs->out.toList.Pairwise (leV κ)->P (.done (.ret .none)) { s with heap:=sortedHeap s.heap a vs out }):wpAny (model prog w) A (Builtin.«list.sort» ⟨[.ref a],[]⟩) P E s:=by
 rw[list_sort_plain];have ha:a<s.heap.objs.size:=Qm ho;refine Qa (listItems_at ho rfl (Qa (listUpdate_at ho rfl ?_)));obtain⟨e1,ho1⟩:∃e1,(s.heap.update a (Obj.mapSeq λ_=>#[])).get? a=some (seqObj "list" #[] e1):=⟨_,get?_update_seq ho (λ_=>#[])⟩;refine Qa (seqEpoch_at ho1 rfl (Qa (wpAny_newTuple (Qa (wpAny_newList (QT ?_))) (by rw[sizeLine_eq];show vs.length<=_;exact vA hn))))
 have keep:∀b o,b≠a->s.heap.get? b=some o->(((s.heap.update a (Obj.mapSeq λ_=>#[])).push (seqObj "tuple" vs.toArray 0)).push (seqObj "list" #[] 0)).get? b=some o:=λb o hb e =>
  Qc _ (Qc _ ((Qq _ _ (Xo hb)).trans e))
 have ho6:(((s.heap.update a (Obj.mapSeq λ_=>#[])).push (seqObj "tuple" vs.toArray 0)).push (seqObj "list" #[] 0)).get? a=some (seqObj "list" #[] e1):=Qc _ (Qc _ ho1);show wpAny (model prog w) A _ P E { s with heap:=((s.heap.update a (Obj.mapSeq λ_=>#[])).push (seqObj "tuple" vs.toArray 0)).push (seqObj "list" #[] 0) };dsimp only;have zs:vs.toArray.size=vs.length:=by simp
 by_cases c2:vs.toArray.size<2
 ·rw[Qp c2,Qp c2];refine Qa (Qe ?_);rw[StateT.run_pure];refine Qa (Qe (Qa (seqEpoch_at ho6 rfl (Qa (listUpdate_at ho6 rfl ?_ (hsz2:=by rw[Array.size_map];show (pairsOf vs).size<=_;rw[pairsOf_size,sizeLine_eq];exact zv hn zs c2))))));simp only[bne_self_eq_false,QB,Xp]
  have sh:(pairsOf vs).toList.Pairwise (le κ):=by
   rw[pairsOf_toList]
   match vs,zs,c2 with
   | [],_,_=>exact List.Pairwise.nil
   | [v],_,_=>exact List.pairwise_singleton _ _
   | v::u::r,zs,c2=>exact absurd c2 (by simp)
  obtain⟨p1,p2⟩:=rJ (Array.Perm.refl _) sh;exact Qe (h _ p1 p2)
 rw[Qn c2,Qn c2];refine Qa (c.kind (by exact zu hn zs c2) _ _ _ _ keep ?_)
 refine Qa (Xm (qF (κ:=κ) (kd:=kd) (a₀:=pairsOf vs) (st:=SortSt.mk' kd (vs.toArray.zip vs.toArray) #[] 7 none) (Q:=λ_ st'=>(arrOf st').Perm (pairsOf vs)/\failedOf st'=none/\(arrOf st').toList.Pairwise (le κ))
  (c.lt _ _ hu keep) (λp hp=>?_) ⟨rfl,Array.Perm.refl _,λr hr=>(nomatch hr),rfl,rfl,rfl⟩ λst' a1 a2 a3=>⟨a1,a2,a3⟩) ?_ λ_ _ e=>e)
 ·rw[pairsOf_toList]at hp;exact c.key _ (j7 hp).2
 rintro⟨⟨⟩,st'⟩ s' ⟨rfl,hp,hf,hs⟩;dsimp only;refine Qa (seqEpoch_at ho6 rfl (Qa (listUpdate_at ho6 rfl ?_ (hsz2:=by refine QR (Nat.le_of_eq ((Array.size_map ..).trans (hp.size_eq.trans (pairsOf_size _)))) ?_;rw[sizeLine_eq];exact zt hn zs c2))));rw[hf];simp only[bne_self_eq_false,QB,Xp];obtain⟨p1,p2⟩:=rJ hp hs;exact Qe (h _ p1 p2)
theorem gF {h:Heap} {vs:List Value} {out:Array Value} {o:Obj} (hb:b≠a) (e:h.get? b=some o):(sortedHeap h a vs out).get? b=some o:=by
 unfold sortedHeap;exact(Qq _ _ (Xo hb)).trans (Qc _ (Qc _ ((Qq _ _ (Xo hb)).trans e)))
theorem iD {h:Heap} {vs:List Value} {out:Array Value} {n:Nat} (e:h.get? a=some (seqObj "list" vs.toArray n)):∃m,(sortedHeap h a vs out).get? a=some (seqObj "list" out m):=by
 unfold sortedHeap;exact⟨_,get?_update_seq (Qc _ (Qc _ (get?_update_seq e (λ_=>#[])))) (λ_=>out)⟩
theorem pB {up:Around->Prop} {κ:Heap->PyProof.Rows.KeyKind} {kd:SortKind} {r:Value} {Q:C9} {G:Heap->List Value->Prop}
  (col:∀(A:Around) (E:C9) (R:List Value->Shared->Prop),A.handled=none->(∀h' tk vs,(∀b o,s.heap.get? b=some o->h'.get? b=some o)->s.heap.objs.size<=h'.objs.size->G h' vs->R vs { s with heap:=h',toks:=tk })->wpAny (model prog w) A (collect r) R E s)
  (hh:A.handled=none) (hu:up A.in1.in1) (can:∀h' vs D,(∀b o,s.heap.get? b=some o->h'.get? b=some o)->G h' vs->D=h'.objs.size->vs.length<=100000/\Can prog w up (κ h') kd (h'.push (seqObj "list" vs.toArray 0)) D vs)
  (h:∀D h' tk vs h1 (out:Array Value) m,(∀b o,s.heap.get? b=some o->h1.get? b=some o)->G h1 vs->(∀b o,h1.get? b=some o->h'.get? b=some o)->s.heap.objs.size<=D->h1.objs.size<=D->h'.get? D=some (seqObj "list" out m)->out.toList.Perm vs->out.toList.Pairwise (leV (κ h1))->Q (.ref D) { s with heap:=h',toks:=tk }) :
  wpAny (model prog w) A (call (.builtin "sorted") [r]) Q E s:=by
 refine Calls.call_function_entry kind_sorted plain_sorted entry_sorted (args_sorted1 _) ?_;unfold Builtin.«sorted»;refine Qa (m:=checkCount "sorted" 1 1 _) (Qe ?_);refine Qa (col A.in1 E _ hh λh1 tk vs k1 z1 g1=>?_);obtain⟨len,_⟩:=can h1 vs h1.objs.size k1 g1 rfl;refine Qa (wpAny_newList ?_ (by rw[sizeLine_eq];exact vA len));obtain⟨_,cn⟩:=can h1 vs h1.objs.size k1 g1 rfl;have hoL:(h1.push (seqObj "list" vs.toArray 0)).get? h1.objs.size=some (seqObj "list" vs.toArray 0):=Qs _ rfl;refine Qa (QT (Xh (s:={ s with heap:=h1.push (seqObj "list" vs.toArray 0),toks:=tk }) slot_list_sort ⟨_,hoL,rfl⟩ entry_list_sort (mP hoL cn hu len λout p1 p2=>⟨_,rfl,?_⟩) (args_list_sort _)));obtain⟨m,at'⟩:=iD (vs:=vs) (out:=out) hoL;exact Qe ⟨_,rfl,h _ _ _ vs h1 out m k1 g1 (λb o e=>gF (QM (Qm e)) (Qc _ e)) z1 (Qi _) at' p1 p2⟩
theorem tj {T:String} {r:Addr} {n:Nat} {P:Nat->Value->Prop} {OK:Heap->Prop} {R:List Value->Shared->Prop} (K:PySem.W.KdlSrc prog w T r d n P OK) (hh:A.handled=none) (ok:OK s.heap) (hn:n<=sizeLine)
  (h:∀(g:Heap) (tk:Nat) (acc:Array Value),(∀b o,s.heap.get? b=some o->g.get? b=some o)->s.heap.objs.size<=g.objs.size->PySem.ItemsOf P acc n->R acc.toList { s with heap:=g,toks:=tk }):wpAny (model prog w) A (collect (.ref r)) R E s:=by
 obtain⟨l1,l2⟩:=K.there _ ok;unfold collect;refine Qa (wpAny_runValue (XB entry_proto_collect' ?_));rw[Xf PySem.F.plain_proto_collect _];refine Qa (wpAny_newObj_type (Qe ⟨plainId_quiet PySem.F.plain_list_iadd _,XB entry_list_iadd' ?_⟩));rw[Xf PySem.F.plain_list_iadd _]
 refine Xm (PySem.W.kdl_extend (A:=A) (s:={ s with heap:=s.heap.push { cls:=.type "list", data:=.seq ([]:List Value).toArray } }) (R:=λq s'=>∃(g:Heap) (tk:Nat) (acc:Array Value) (c:Nat),q=.ok (.ret (.ref s.heap.objs.size))/\s'={ s with heap:=g,toks:=tk } /\
   (∀b o,s.heap.get? b=some o->g.get? b=some o)/\g.get? s.heap.objs.size=some { cls:=.type "list", dict:=none,data:=.seq acc c,slots:=#[] }/\PySem.ItemsOf P acc n)
  K hh (K.keep _ _ ok λb _ o e=>Qc _ e) s.heap.objs.size (Nat.ne_of_gt l1) (Nat.ne_of_gt l2) (.ref s.heap.objs.size) 0 (Qs _ rfl)
  (λg tk acc c k at' it=>⟨g,tk,acc,c,rfl,rfl,λb o e=>k b o (QM (Qm e)) (Qc _ e),at',it⟩) hn) (λfn s' x=>?_) λe s' x=>?_
 ·cases fn with
  | done f =>
   obtain⟨g,tk,acc,c,e,rfl,k,at',it⟩:=x;cases e;exact Qa (wpAny_load at' (Qe (h g tk acc k (Nat.le_of_lt (Qm at')) it)))
  | again c1 =>
   refine⟨x.1,codeAny_mono x.2 λq s2 y=>?_⟩;obtain⟨g,tk,acc,c,rfl,rfl,k,at',it⟩:=y;exact Qa (wpAny_load at' (Qe (h g tk acc k (Nat.le_of_lt (Qm at')) it)))
 obtain⟨_,_,_,_,z,_⟩:=x;cases z
end
end Tm
set_option maxHeartbeats 4000000
namespace Tm
open PySem PySem.Spec PyProof.Rows L2
def kb:Key->Key->Bool
 | .inl i,.inl j=>decide (i<j)
 | .inl _,.inr _=>true
 | .inr _,.inl _=>false
 | .inr x,.inr y=>decide (x.cps.toList<y.cps.toList)
def lb:List Key->List Key->Bool
 | [],[]=>false
 | [],_::_=>true
 | _::_,[]=>false
 | a::as,b::bs=>kb a b || (decide (a=b)&&lb as bs)
theorem uX {x y:Str} (e:x.cps.toList=y.cps.toList):x=y:=by cases x;cases y;exact congrArg Str.mk (Array.toList_inj.mp e)
theorem jM (a:Key):kb a a=false:=by
 cases a with
 | inl i=>exact QE (Int.lt_irrefl _)
 | inr x=>exact QE (List.lt_irrefl _)
theorem xr (a b:Key):kb a b=true\/a=b\/kb b a=true:=by
 cases a with
 | inl i =>
  cases b with
  | inl j =>
   rcases Int.lt_trichotomy i j with h|h|h
   ·exact .inl (QG h)
   ·exact .inr (.inl (by rw[h]))
   exact .inr (.inr (QG h))
  | inr y=>exact .inl rfl
 | inr x =>
 cases b with
 | inl j=>exact .inr (.inr rfl)
 | inr y =>
 by_cases h1:x.cps.toList<y.cps.toList
 ·exact .inl (QG h1)
 by_cases h2:y.cps.toList<x.cps.toList
 ·exact .inr (.inr (QG h2))
 exact .inr (.inl (by rw[uX (List.le_antisymm (List.not_lt.mp h2) (List.not_lt.mp h1))]))
theorem sC {a b c:Key} (h1:kb a b=true) (h2:kb b c=true):kb a c=true:=by
 cases a with
 | inl i =>
  cases c with
  | inr z=>rfl
  | inl k =>
  cases b with
  | inr y=>cases h2
  | inl j=>exact QG (Int.lt_trans (XX h1) (XX h2))
 | inr x =>
 cases b with
 | inl j=>cases h1
 | inr y =>
 cases c with
 | inl k=>cases h2
 | inr z=>exact QG (List.lt_trans (XX h1) (XX h2))
theorem mT:∀l:List Key,lb l l=false
 | []=>rfl
 | a::l=>by unfold lb;rw[jM,mT l];simp
theorem mR:∀x y:List Key,lb x y=true\/x=y\/lb y x=true
 | [],[]=>.inr (.inl rfl)
 | [],_::_=>.inl rfl
 | _::_,[]=>.inr (.inr rfl)
 | a::x,b::y=>by
  unfold lb;rcases xr a b with h|rfl|h
  ·exact .inl (by rw[h];rfl)
  ·rcases mR x y with h|rfl|h
   ·exact .inl (by rw[h];simp)
   ·exact .inr (.inl rfl)
   exact .inr (.inr (by rw[h];simp))
  exact .inr (.inr (by rw[h];rfl))
theorem ic:∀{x y z:List Key},lb x y=true->lb y z=true->lb x z=true
 | [],_,[],h1,h2=>by cases h2':(‹List Key›) with
  | nil=>rw[h2']at h1;cases h1
  | cons _ _=>rw[h2']at h2;cases h2
 | [],_,_::_,_,_=>rfl
 | _::_,[],_,h1,_=>by cases h1
 | _::_,_::_,[],_,h2=>by cases h2
 | a::x,b::y,c::z,h1,h2=>by
  unfold lb at h1 h2 ⊢;rw[Bool.or_eq_true,Xq,decide_eq_true_eq] at *;rcases h1 with h1|⟨rfl,h1⟩
  ·rcases h2 with h2|⟨rfl,h2⟩
   ·exact .inl (sC h1 h2)
   exact .inl h1
  rcases h2 with h2|⟨rfl,h2⟩
  ·exact .inl h2
  exact .inr ⟨rfl,ic h1 h2⟩
def leK (x y:List Key):Prop:=lb y x=false
theorem sj {x y:List Key} (h1:leK x y) (h2:leK y x):x=y:=by
 rcases mR x y with h|h|h
 ·rw[h2]at h;cases h
 ·exact h
 rw[h1]at h;cases h
noncomputable def xq:PyProof.Rows.KeyOrd where
 α:=List Key
 blt:=lb
 irrefl:=mT
 trans _ _ _ h1 h2:=ic h1 h2
 negTrans a b c h:=by
  rcases mR a b with h1|rfl|h1
  ·exact .inl h1
  ·exact .inr h
  exact .inr (ic h1 h)
 total a b h1 h2:=sj h2 h1
def sh1:Key->Bool
 | .inl _=>false
 | .inr _=>true
def sh2:Key ⊕ List Key->Bool ⊕ List Bool
 | .inl k=>.inl (sh1 k)
 | .inr ks=>.inr (ks.map sh1)
def flat:ay->List Key
 | []=>[]
 | .inl k::r=>k::flat r
 | .inr ks::r=>ks++flat r
theorem gr (a b:Key) (x y:List Key):lb (a::x) (b::y)=(kb a b || (decide (a=b)&&lb x y)):=rfl
theorem jK:∀{x y:List Key} {u v:List Key},x.length=y.length->lb (x++u) (y++v)=(lb x y || (decide (x=y)&&lb u v))
 | [],[],u,v,_=>by simp[lb]
 | a::x,b::y,u,v,h=>by
  rw[List.cons_append,List.cons_append,gr,gr,jK (by simpa using h)];by_cases e:a=b
  ·subst e;simp[jM]
  simp[e]
section
variable {prog:Program} {w:World} {A:Around} {E:C9} {s:Shared}
variable {R:C9}
theorem Bq {x y:Key} {u v:Value} (e:sh1 x=sh1 y) (hx:dh x u=true) (hy:dh y v=true) (h:R (.bool (kb x y)) s):wpAny (model prog w) A (compareOp .Lt u v) R E s:=by
 rcases aK hx with⟨i,t,rfl,rfl⟩|⟨z,t,rfl,rfl⟩
 ·rcases aK hy with⟨j,t',rfl,rfl⟩|⟨z',t',rfl,rfl⟩
  ·exact lt_int h
  cases e
 rcases aK hy with⟨j,t',rfl,rfl⟩|⟨z',t',rfl,rfl⟩
 ·cases e
 exact PyProof.Rows.lt_str h
theorem uJ {x y:List Key} {a b:Addr} {P:Fin->Shared->Prop} (e:x.map sh1=y.map sh1) (hx:IsTupleKey (ax prog w) s.heap x a) (hy:IsTupleKey (ax prog w) s.heap y b) (h:P (.done (.ret (.bool (lb x y)))) s) :
  wpAny (model prog w) A (Builtin.«tuple.__lt__» ⟨[.ref a,.ref b],[]⟩) P E s:=by
 have hTb:=hy.typeIs;obtain⟨oa,xs,na,hoa,_,hda,hia⟩:=hx;obtain⟨ob,ys,nb,hob,_,hdb,hib⟩:=hy;show wpAny _ _ (isInstance (.ref b) (.type "tuple") >>= _) _ _ s;refine Qa (wpAny_isInstance hTb isSubtype_tuple_tuple ?_);simp only[Bool.not_true,QB,Xp];refine Qa (wpAny_tupleItemsOf hoa hda ?_);refine Qa (wpAny_tupleItemsOf hob hdb ?_);refine Qa ?_
 have zz:xs.size=ys.size:=by
  have:=congrArg List.length e;rw[Qb,Qb,hia.length,hib.length,Qg,Qg]at this;exact this
 refine wpAny_forIn_list _
  (λrest r s'=>r.1=none/\s'=s/\∃x' y' xs' ys',rest=List.zip xs' ys'/\ItemsAre (ax prog w) x' xs'/\ItemsAre (ax prog w) y' ys'/\lb x' y'=lb x y/\x'.map sh1=y'.map sh1)
  _ ?_ ?_ _ _ ⟨rfl,rfl,x,y,xs.toList,ys.toList,rfl,hia,hib,rfl,e⟩
 ·rintro⟨u,v⟩ rest r s' ⟨hr,rfl,x',y',xs',ys',hz,hx',hy',hdec,hsh⟩
  cases hx' with
  | nil=>simp at hz
  | @cons k1 u' x'' xs'' h1 hx'' =>
  cases hy' with
  | nil=>simp at hz
  | @cons k2 v' y'' ys'' h2 hy'' =>
  simp only[List.zip_cons_cons,List.cons.injEq,Prod.mk.injEq]at hz;obtain⟨⟨rfl,rfl⟩,rfl⟩:=hz;rw[Qu,Qu]at hsh;injection hsh with s1 s2;refine Qa ((ax prog w).eqBool (a:=k1) (b:=k2) h1 h2 ?_);by_cases hk:k1=k2
  ·subst hk;rw[QG rfl];simp only[Bool.not_true,QB,Xp];refine Qe ⟨rfl,rfl,x'',y'',xs'',ys'',rfl,hx'',hy'',?_,s2⟩;rw[<-hdec]
   conv=>rhs;unfold lb
   rw[jM];simp
  rw[QE hk];simp only[Bool.not_false,if_true];have hf:lb x y=kb k1 k2:=by rw[<-hdec];unfold lb;simp[hk]
  rw[hf]at h;refine Qa (XI (Qa ?_));refine Bq s1 h1 h2 ?_;exact Qa (Qe (Qe (Qe h)))
 rintro⟨r1,r2⟩ s' ⟨hr,rfl,x',y',xs',ys',hz,hx',hy',hdec,hsh⟩;simp only at hr;subst hr;refine Qe ?_
 have e0:lb x y=false:=by
  rw[<-hdec]
  cases hx' with
  | nil=>cases hy' with
   | nil=>rfl
   | cons _ _=>cases hsh
  | cons _ _=>cases hy' with
   | nil=>cases hsh
   | cons _ _=>simp at hz
 rw[e0]at h;have:Builtin.Tuple.tupleCompareSizes .Lt xs.size ys.size=.bool false:=by rw[zz];simp[Builtin.Tuple.tupleCompareSizes]
 show P (.done (.ret (Builtin.Tuple.tupleCompareSizes .Lt xs.size ys.size))) s';rw[this];exact h
theorem wj {x y:List Key} {a b:Addr} (hu:A.units<cLine) (e:x.map sh1=y.map sh1) (hx:IsTupleKey (ax prog w) s.heap x a) (hy:IsTupleKey (ax prog w) s.heap y b) (h:R (.bool (lb x y)) s) :
  wpAny (model prog w) A (compareOp .Lt (.ref a) (.ref b)) R E s:=by
 show wpAny _ _ (richCompare .Lt _ _) _ _ _;exact wpAny_richCompare_same_room (op:=.Lt) hx.typeIs hy.typeIs F.slot_tuple_lt (Xh F.slot_tuple_lt hx.typeIs F.entry_tuple_lt (uJ e hx hy ⟨_,rfl,(λe=>nomatch e),h⟩) (F.args_tuple_lt_2 _ _)) hu
theorem sD {x y:ay} {xs ys:List Value} {b:Bool} {Q:Bool->Shared->Prop} (hu:A.units<cLine) (hx:TK.Its (ax prog w) s.heap x xs) (hy:TK.Its (ax prog w) s.heap y ys) (e:x.map sh2=y.map sh2):∀i,(i=0->b=true->∃k r,x=.inl (.inr k)::r)->Q (lb (flat x) (flat y)) s ->
  PySem.W.KatLex prog w A b false Q (xs.zip ys) i s:=by
 induction hx generalizing y ys with
 | nil =>
  cases hy with
  | nil=>intro i _ q;exact PySem.W.kat_nil q
  | cons _ _=>cases e
 | @cons k1 u x' xs' h1 t1 ih =>
 cases hy with
 | nil=>cases e
 | @cons k2 v y' ys' h2 t2 =>
 intro i hb q;rw[Qu,Qu]at e;injection e with e1 e2;refine PySem.W.kat_cons (TK.it_eq (jG prog w) hu h1 h2 (PySem.W.kat_go (λc=>PySem.W.kat_yes (ih t2 e2 _ (λz=>absurd z (Nat.succ_ne_zero _)) ?_)) (λc=>PySem.W.kat_no ?_)))
 ·obtain rfl:k1=k2:=by simpa using c
  have:lb (flat (k1::x')) (flat (k1::y'))=lb (flat x') (flat y'):=by
   cases k1 with
   | inl k=>show lb (k::flat x') (k::flat y')=_;rw[gr,jM];simp
   | inr ks=>show lb (ks++flat x') (ks++flat y')=_;rw[jK rfl,mT];simp
  rw[this]at q;exact q
 have ne:k1≠k2:=by simpa using c
 cases k1 with
 | inl k =>
  cases k2 with
  | inr js=>cases e1
  | inl j =>
  have hkj:k≠j:=λz=>ne (by rw[z]);have:lb (flat (.inl k::x')) (flat (.inl j::y'))=kb k j:=by show lb (k::flat x') (j::flat y')=_;rw[gr];simp[hkj]
  rw[this]at q;have e1:sh1 k=sh1 j:=Sum.inl.inj e1;by_cases c1:(b&&i==0)=true
  ·rw[c1];rw[Xq]at c1;obtain⟨k',r,ek⟩:=hb (by simpa using c1.2) c1.1;injection ek with ek _;injection ek with ek;subst ek;rcases aK (show dh (.inr k') u=true from h1) with⟨_,_,z,_⟩|⟨_,t,z,rfl⟩
   ·cases z
   cases z;rcases aK (show dh j v=true from h2) with⟨_,_,rfl,_⟩|⟨z',t',rfl,rfl⟩
   ·cases e1
   exact oneLt_str q
  rw[show (b&&i==0)=false by simpa using c1];exact PySem.W.kat_one _ _ (Bq e1 h1 h2 q)
 | inr ks =>
 cases k2 with
 | inl j=>cases e1
 | inr js =>
 obtain⟨a1,rfl,g1⟩:=h1;obtain⟨a2,rfl,g2⟩:=h2;have e1:ks.map sh1=js.map sh1:=Sum.inr.inj e1;have len:ks.length=js.length:=by have:=congrArg List.length e1;simpa using this
 have hkj:ks≠js:=λz=>ne (by rw[z]);have:lb (flat (.inr ks::x')) (flat (.inr js::y'))=lb ks js:=by show lb (ks++flat x') (js++flat y')=_;rw[jK len];simp[hkj]
 rw[this]at q
 have c1:(b&&i==0)=false:=by
  cases c1:(b&&i==0) with
  | false=>rfl
  | true =>
  rw[Xq]at c1;obtain⟨k',r,ek⟩:=hb (by simpa using c1.2) c1.1;cases ek
 rw[c1];exact PySem.W.kat_one _ _ (wj hu e1 g1 g2 q)
end
def p6 (bs:D4) (tk:Addr->ay):PyProof.Rows.KeyKind:={ xq with
 keyOf:=λv=>match v with
  | .ref b=>if b∈bs then some (flat (tk b)) else none
  | _=>none
 dflt:=[] }
theorem iX {bs:D4} {tk:Addr->ay} {v:Value} {k:List Key} (e:(p6 bs tk).keyOf v=some k):∃b,v=.ref b/\b∈bs/\k=flat (tk b):=by
 have no:¬(none:Option (List Key))=some k:=λz=>nomatch z
 cases v with
 | ref b =>
  have e:(if b∈bs then some (flat (tk b)) else none)=some k:=e;by_cases c:b∈bs
  ·rw[Qp c]at e;exact⟨b,rfl,c,(QN e).symm⟩
  rw[Qn c]at e;cases e
 | _=>exact absurd e no
theorem jL {bs:D4} (tk:Addr->ay) {b:Addr} (h:b∈bs):(p6 bs tk).keyOf (.ref b)=some (flat (tk b)):=Qp h
def Shp (b:Bool) (bs:D4) (tk:Addr->ay):Prop:=(∀a∈bs,∀c∈bs,(tk a).map sh2=(tk c).map sh2)/\∀a∈bs,if b=true then ∃k r,tk a=.inl (.inr k)::r else ∃k r,tk a=.inr k::r
section
variable {prog:Program} {w:World}
theorem cD {h h':Heap} {k:ay} {a:Addr} (x:TK.IsT (ax prog w) h k a) (ks:∀b o,h.get? b=some o->o.cls=.type "tuple" -> h'.get? b=some o):TK.IsT (ax prog w) h' k a:=by
 obtain⟨o,items,n,h1,h2,h3,h4⟩:=x;refine⟨o,items,n,ks _ _ h1 h2,h2,h3,h4.imp λk v q=>?_⟩
 cases k with
 | inl k=>exact q
 | inr ks' =>
 obtain⟨c,e,o,items,n,h1,h2,h3,h4⟩:=q;exact⟨c,e,o,items,n,ks _ _ h1 h2,h2,h3,h4⟩
theorem tz {h:Heap} {a:Addr} {o:Obj} {bs:D4} {tk:Addr->ay} {b:Bool} (ho:h.get? a=some o) (hc:o.cls≠.type "tuple") (p:∀c∈bs,TK.IsT (ax prog w) h (tk c) c) (sp:Shp b bs tk) :
  Can prog w (λA=>A.units<cLine) (p6 bs tk) (tuples' b) h a (bs.map Value.ref) where
 key v hv:=by
  obtain⟨c,hc,rfl⟩:=Qr.mp hv;exact⟨_,jL tk hc⟩
 lt A s hu ks:=by
  intro E x y k1 k2 Q h1 h2 q;obtain⟨c1,rfl,m1,rfl⟩:=iX h1;obtain⟨c2,rfl,m2,rfl⟩:=iX h2;have kp:∀b o',h.get? b=some o'->o'.cls=.type "tuple" -> s.heap.get? b=some o':=λb o' e ec=>ks _ _ (λz=>by rw[z,ho]at e;cases e;exact hc ec) e;obtain⟨o1,i1,n1,g1,_,d1,t1⟩:=cD (p c1 m1) kp;obtain⟨o2,i2,n2,g2,_,d2,t2⟩:=cD (p c2 m2) kp;have e:=sp.1 _ m1 _ m2
  have ez:decide (i1.size<i2.size)=false:=by
   have l1:∀{k:ay} {vs:List Value},TK.Its (ax prog w) s.heap k vs->k.length=vs.length:=by
    intro k vs q
    induction q with
    | nil=>rfl
    | cons _ _ ih=>simp[ih]
   have:=congrArg List.length e;rw[Qb,Qb,l1 t1,l1 t2,Qg,Qg]at this;rw[this];exact QE (Nat.lt_irrefl _)
  refine PySem.W.kat_lt g1 d1 g2 d2 ?_;rw[ez];refine sD hu t1 t2 e 0 (λ_ hb=>?_) q;have:=sp.2 _ m1;rw[Qp hb]at this;exact this
 kind h2 A E s Q ks hq:=by
  have kp:∀b o',h.get? b=some o'->o'.cls=.type "tuple" -> s.heap.get? b=some o':=λb o' e ec=>ks _ _ (λz=>by rw[z,ho]at e;cases e;exact hc ec) e
  have all:∀{l:D4},(∀c∈l,c∈bs)->∃fs:List Value,fs.length=l.length/\PySem.W.KatTups s.heap (l.map Value.ref) fs/\∀f∈fs,PySem.W.Looks (model prog w) s.heap (typeOf f) (.type (if b=true then "str" else "tuple")):=by
   intro l
   induction l with
   | nil=>intro _;exact⟨[],rfl,.nil,λf hf=>nomatch hf⟩
   | cons c l ih =>
   intro hl;obtain⟨fs,z1,z2,z3⟩:=ih λc h=>hl c (Qo _ h);have hcb:=hl c (by simp);obtain⟨o1,i1,n1,g1,cl,d1,t1⟩:=cD (p c hcb) kp;have sp2:=sp.2 c hcb
   cases b with
   | true =>
    rw[Qp rfl]at sp2 ⊢;obtain⟨k,r,ek⟩:=sp2;rw[ek]at t1;generalize hv:i1.toList=vs at t1
    cases t1 with
    | @cons _ v _ vs h1 _ =>
    rcases aK (show dh (.inr k) v=true from h1) with⟨_,_,z,_⟩|⟨_,t,z,rfl⟩
    ·cases z
    refine⟨_::fs,by simp[z1],.cons g1 cl d1 (by rw[<-Qv,hv];rfl) z2,λf hf=>?_⟩;rcases Qw.mp hf with rfl|hf
    ·exact PySem.W.Looks.of_pure rfl
    exact z3 f hf
   | false =>
   rw[Qn Qk]at sp2 ⊢;obtain⟨k,r,ek⟩:=sp2;rw[ek]at t1;generalize hv:i1.toList=vs at t1
   cases t1 with
   | @cons _ v _ vs h1 _ =>
   obtain⟨c',rfl,o2,i2,n2,g2,cl2,_⟩:=h1;refine⟨_::fs,by simp[z1],.cons g1 cl d1 (by rw[<-Qv,hv];rfl) z2,λf hf=>?_⟩;rcases Qw.mp hf with rfl|hf
   ·exact λA Q E s' k q=>wpAny_typeOf_ref (k _ _ g2) (by rw[cl2];exact q)
   exact z3 f hf
  obtain⟨fs,l,kt,hf⟩:=all (l:=bs) λ_ h=>h;rw[Qb]at h2;refine PySem.W.kat_kind (T:=.type (if b=true then "str" else "tuple")) kt (by omega) hf (by cases b <;> decide) ?_;have:(Value.type (if b=true then "str" else "tuple") != Value.type "tuple")=b:=by cases b <;> decide
  rw[this];exact hq
end
end Tm
namespace LZ
open PySem
section
variable {prog:Program} {w:World} {A:Around} {E:C9} {s:Shared}
abbrev IsZ (h:Heap) (z TI TO:Addr) (f0:Value) (f1:Bool):Prop :=
 h.get? z=some { cls:=.type "zip", dict:=none,data:=.fields #[f0,.bool f1,.bool false,.ref TI,.ref TO],slots:=#[] }
structure Apart5 (z TI TO i1 i2 l:Addr):Prop where
 TIz:TI≠z
 TOz:TO≠z
 i1z:i1≠z
 i2z:i2≠z
 TITO:TI≠TO
 TIi1:TI≠i1
 TIi2:TI≠i2
 TOi1:TO≠i1
 TOi2:TO≠i2
 i12:i1≠i2
 lz:l≠z
 lTO:l≠TO
 li1:l≠i1
 li2:l≠i2
variable {x:Str} {it z i1 i2 l a:Addr} {ty:String}
theorem fH (hty:ty = "str_ascii_iterator" \/ ty = "str_iterator") {t:Tok} {i c:Nat} {Q:C9} (hit:s.heap.IsStrIter it ty x t i) (hx:x.cps[i]?=some c)
  (hQ:∀h',h'.IsStrIter it ty x t (i+1)->Heap.SameBut it s.heap h'->Q (.str ⟨#[c]⟩ s.toks) { s with heap:=h',toks:=s.toks+1 }) :
  wpAny (model prog w) A (Builtin.SmallTypes.nextOf (.ref it)) Q E s:=by
 rcases hty with e|e
 ·subst e;exact wpAny_nextOf_ascii_item hit hx hQ
 subst e;exact wpAny_nextOf_wide_item hit hx hQ
variable {Q:Option Value->Shared->Prop} {xs:Array Value}
theorem next_first (hty:ty = "str_ascii_iterator" \/ ty = "str_iterator") {TI TO:Addr} {k c:Nat} {t:Tok} {v a b:Value} (D:Apart5 z TI TO i1 i2 l)
  (hz:IsZ s.heap z TI TO .none false) (hTI:IsPair s.heap TI (.ref i1) (.ref i2)) (hTO:IsPair s.heap TO a b) (h1:s.heap.IsListIter i1 l k) (h2:s.heap.IsStrIter i2 ty x t k) (hl:s.heap.IsList l xs) (hv:xs[k]?=some v) (hc:x.cps[k]?=some c)
  (hQ:∀h',IsZ h' z TI TO (rawInt s.heap.objs.size) false->(∃a b,IsPair h' TO a b)->h'.IsListIter i1 l (k+1)->h'.IsStrIter i2 ty x t (k+1)->IsPair h' s.heap.objs.size v (.str ⟨#[c]⟩ s.toks)->h'.objs.size=s.heap.objs.size+1 ->
   (∀c o,c≠z->c≠TO->c≠i1->c≠i2->s.heap.get? c=some o->h'.get? c=some o)->Q (some (.ref s.heap.objs.size)) { s with heap:=h',toks:=s.toks+1 }) :
  wpAny (model prog w) A (pyNext (.ref z)) Q E s:=by
 have hT:s.TypeIs (.ref z) "zip" := ⟨_,hz,rfl⟩;unfold pyNext
 refine Qa (wpAny_attempt (Xn (name:=Str.ofString "__next__") hT X2
  (Xh X2 hT F.entry_zip_next ?_ (F.args_zip_next_1 _))))
 show wpAny _ _ (field (.ref z) 2 >>= _) _ _ _;refine Qa (QP hz rfl (x:=.bool false) rfl ?_);show wpAny _ _ (field (.ref z) 3 >>= _) _ _ _;refine Qa (QP hz rfl (x:=.ref TI) rfl ?_);refine Qa (Xk hTI rfl ?_);show wpAny _ _ (Builtin.SmallTypes.ownedTupleIsFree (.ref z) >>= _) _ _ _;refine Qa ?_;unfold Builtin.SmallTypes.ownedTupleIsFree;refine Qa (QP hz rfl (x:=.none) rfl (Qe ?_));simp only[if_true];refine Qa (XI ?_);refine Qa (QP hz rfl (x:=.ref TO) rfl ?_);refine Qa (Xc hz (by simp) λh₁ hz1 hs₁=>?_)
 replace hz1:IsZ h₁ z TI TO .ellipsis false:=hz1
 refine Qa ?_;simp only[List.zipIdx_cons,List.zipIdx_nil,XR,List.forIn_nil];refine Qa (Qa (wpAny_onRaise ?_));show wpAny _ _ (Builtin.SmallTypes.nextOf (.ref i1) >>= _) _ _ _;refine Qa (wpAny_nextOf_list_item (h1.extBut hs₁.extBut D.i1z) (hl.extBut hs₁.extBut D.lz) hv λh₂ h12 hs₂=>Qe ?_);have hTO2:IsPair h₂ TO a b:=hs₂.extBut _ _ D.TOi1 (hs₁.extBut _ _ D.TOz hTO);refine Qa (Xk hTO2 rfl ?_);refine Qa (wpAny_updateSeq_pair hTO2 λh₃ hTO3 hs₃=>?_)
 replace hTO3:IsPair h₃ TO v b:=hTO3
 refine Qa (wpAny_letGo (Qe ?_));refine Qa (Qa (wpAny_onRaise ?_));show wpAny _ _ (Builtin.SmallTypes.nextOf (.ref i2) >>= _) _ _ _;have h23:h₃.IsStrIter i2 ty x t k:=((h2.extBut hs₁.extBut D.i2z).extBut hs₂.extBut D.i12.symm).extBut hs₃.extBut D.TOi2.symm;refine Qa (fH hty h23 hc λh₄ h24 hs4=>Qe ?_);have hTO4:IsPair h₄ TO v b:=hs4.extBut _ _ D.TOi2 hTO3;refine Qa (Xk hTO4 rfl ?_);refine Qa (wpAny_updateSeq_pair hTO4 λh₅ hTO5 hs5=>?_)
 replace hTO5:IsPair h₅ TO v (.str ⟨#[c]⟩ s.toks):=hTO5
 refine Qa (wpAny_letGo (Qe (Qe ?_)));refine Qa (Xk hTO5 rfl ?_);refine Qa (wpAny_newTuple ?_);have hsz:h₅.objs.size=s.heap.objs.size:=by rw[hs5.1,hs4.1,hs₃.1,hs₂.1,hs₁.1]
 have hz5:IsZ h₅ z TI TO .ellipsis false:=hs5.extBut _ _ D.TOz.symm (hs4.extBut _ _ D.i2z.symm (hs₃.extBut _ _ D.TOz.symm (hs₂.extBut _ _ D.i1z.symm hz1)))
 have hk5:∀c o,c≠z->c≠TO->c≠i1->c≠i2->s.heap.get? c=some o->h₅.get? c=some o:=λc o c1 c2 c3 c4 e =>
  hs5.extBut _ _ c2 (hs4.extBut _ _ c4 (hs₃.extBut _ _ c2 (hs₂.extBut _ _ c3 (hs₁.extBut _ _ c1 e))))
 have h1₅:h₅.IsListIter i1 l (k+1):=((h12.extBut hs₃.extBut D.TOi1.symm).extBut hs4.extBut D.i12).extBut hs5.extBut D.TOi1.symm;have h25:h₅.IsStrIter i2 ty x t (k+1):=h24.extBut hs5.extBut D.TOi2.symm;have hzlt:z<h₅.objs.size:=Qm hz5;show wpAny _ _ (Builtin.SmallTypes.ownedTupleHandOut (.ref z) (.ref h₅.objs.size) >>= _) _ _ _;refine Qa ?_;unfold Builtin.SmallTypes.ownedTupleHandOut;have hz6:IsZ (h₅.push { cls:=.type "tuple", data:=.seq #[v,.str ⟨#[c]⟩ s.toks] }) z TI TO .ellipsis false:=Qc _ hz5;refine Qa (Xc hz6 (by simp) λh₇ hz7 hs7=>?_)
 replace hz7:IsZ h₇ z TI TO (rawInt h₅.objs.size) false:=hz7
 refine Xc hz7 (by simp) λh₈ hz₈ hs8=>?_
 replace hz₈:IsZ h₈ z TI TO (rawInt h₅.objs.size) false:=hz₈
 have up:∀c o,c≠z->h₅.get? c=some o->h₈.get? c=some o:=λc o c1 e=>hs8.extBut _ _ c1 (hs7.extBut _ _ c1 (Qc _ e));have hT8:IsPair h₈ h₅.objs.size v (.str ⟨#[c]⟩ s.toks):=hs8.extBut _ _ (Nat.ne_of_gt hzlt) (hs7.extBut _ _ (Nat.ne_of_gt hzlt) (Qs _ rfl));have hz8:h₈.objs.size=h₅.objs.size+1:=by rw[hs8.1,hs7.1,Q8]
 rw[hsz]at hz₈ hT8 hz8;refine Qe ⟨_,rfl,Qe ?_⟩;show Q (some (.ref h₅.objs.size)) _;rw[hsz];exact hQ h₈ hz₈ ⟨_,_,up _ _ D.TOz hTO5⟩ (h1₅.at λo e=>up _ o D.i1z e) (let ⟨o,e,r⟩:=h25;⟨o,up _ o D.i2z e,r⟩) hT8 hz8 λc o c1 c2 c3 c4 e=>up c o c1 (hk5 c o c1 c2 c3 c4 e)
theorem tF {o:Obj} {Q:Option Obj->Shared->Prop} (ho:s.heap.get? a=some o) (h:Q (some o) s):wpAny (model prog w) A (loadIfAlive a) Q E s:=by
 have h':Q (s.heap.get? a) s:=by rw[ho];exact h
 exact λ_ _ _=>h'
theorem mF (hty:ty = "str_ascii_iterator" \/ ty = "str_iterator") {TI TO T:Addr} {f1:Bool} {oT:Obj} {k c:Nat} {t:Tok} {v:Value} (D:Apart5 z TI TO i1 i2 l)
  (hz:IsZ s.heap z TI TO (rawInt T) f1) (hT:s.heap.get? T=some oT) (hTI:IsPair s.heap TI (.ref i1) (.ref i2)) (h1:s.heap.IsListIter i1 l k) (h2:s.heap.IsStrIter i2 ty x t k) (hl:s.heap.IsList l xs) (hv:xs[k]?=some v) (hc:x.cps[k]?=some c)
  (hQ:∀h',IsZ h' z TI TO (rawInt T) true->h'.IsListIter i1 l (k+1)->h'.IsStrIter i2 ty x t (k+1)->IsPair h' s.heap.objs.size v (.str ⟨#[c]⟩ s.toks)->h'.objs.size=s.heap.objs.size+1 ->
   (∀c o,c≠z->c≠i1->c≠i2->s.heap.get? c=some o->h'.get? c=some o)->Q (some (.ref s.heap.objs.size)) { s with heap:=h',toks:=s.toks+1 }) :
  wpAny (model prog w) A (pyNext (.ref z)) Q E s:=by
 have hTy:s.TypeIs (.ref z) "zip" := ⟨_,hz,rfl⟩;unfold pyNext
 refine Qa (wpAny_attempt (Xn (name:=Str.ofString "__next__") hTy X2
  (Xh X2 hTy F.entry_zip_next ?_ (F.args_zip_next_1 _))))
 show wpAny _ _ (field (.ref z) 2 >>= _) _ _ _;refine Qa (QP hz rfl (x:=.bool false) rfl ?_);show wpAny _ _ (field (.ref z) 3 >>= _) _ _ _;refine Qa (QP hz rfl (x:=.ref TI) rfl ?_);refine Qa (Xk hTI rfl ?_);show wpAny _ _ (Builtin.SmallTypes.ownedTupleIsFree (.ref z) >>= _) _ _ _;refine Qa ?_;unfold Builtin.SmallTypes.ownedTupleIsFree;refine Qa (QP hz rfl (x:=rawInt T) rfl ?_);show wpAny _ _ (loadIfAlive ((T:Int).toNat) >>= _) _ _ _;rw[Q9];refine Qa (tF hT ?_);simp only[Option.isNone_some,QB,Xp];refine Qa (QP hz rfl (x:=.bool f1) rfl ?_)
 cases f1 with
 | false =>
  simp only[show (Value.bool false != Value.bool true)=true from rfl,if_true];refine Qa (Xc hz (by simp) λh₁ hz1 hs₁=>Qe ?_)
  replace hz1:IsZ h₁ z TI TO (rawInt T) true:=hz1
  simp only[QB,Xp,List.forIn_toArray,XR,List.forIn_nil];refine Qa (Qa (Qa (QT ?_)));show wpAny _ _ (Builtin.SmallTypes.nextOf (.ref i1) >>= _) _ _ _;refine Qa (wpAny_nextOf_list_item (h1.extBut hs₁.extBut D.i1z) (hl.extBut hs₁.extBut D.lz) hv λh₂ h12 hs₂=>Qe ?_);refine Qe ?_;dsimp only;refine Qa (Qa (QT ?_));show wpAny _ _ (Builtin.SmallTypes.nextOf (.ref i2) >>= _) _ _ _;have h22:h₂.IsStrIter i2 ty x t k:=(h2.extBut hs₁.extBut D.i2z).extBut hs₂.extBut D.i12.symm;refine Qa (fH hty h22 hc λh₄ h24 hs4=>Qe ?_);refine Qe (Qe ?_);dsimp only;show wpAny _ _ (newTuple [v,.str ⟨#[c]⟩ s.toks] >>= _) _ _ _;refine Qa (wpAny_newTuple ?_);have hsz:h₄.objs.size=s.heap.objs.size:=by rw[hs4.1,hs₂.1,hs₁.1]
  have hz4:IsZ h₄ z TI TO (rawInt T) true:=hs4.extBut _ _ D.i2z.symm (hs₂.extBut _ _ D.i1z.symm hz1);have hk₄:∀c o,c≠z->c≠i1->c≠i2->s.heap.get? c=some o->h₄.get? c=some o:=λc o c1 c3 c4 e=>hs4.extBut _ _ c4 (hs₂.extBut _ _ c3 (hs₁.extBut _ _ c1 e));refine Qe ⟨_,rfl,Qe ?_⟩;show Q (some (.ref h₄.objs.size)) _;rw[hsz];exact hQ _ (Qc _ hz4) ((h12.extBut hs4.extBut D.i12).at λo e=>Qc _ e) (let ⟨o,e,r⟩:=h24;⟨o,Qc _ e,r⟩) (by rw[<-hsz];exact Qs _ rfl) (by rw[Q8,hsz]) λc o c1 c3 c4 e=>Qc _ (hk₄ c o c1 c3 c4 e)
 | true =>
 simp only[show (Value.bool true != Value.bool true)=false from rfl,QB,Xp];refine Qe ?_;have hz1:IsZ s.heap z TI TO (rawInt T) true:=hz;have hs₁:Heap.SameBut z s.heap s.heap:=.refl ..;simp only[QB,Xp,List.forIn_toArray,XR,List.forIn_nil];refine Qa (Qa (Qa (QT ?_)));show wpAny _ _ (Builtin.SmallTypes.nextOf (.ref i1) >>= _) _ _ _;refine Qa (wpAny_nextOf_list_item (h1.extBut hs₁.extBut D.i1z) (hl.extBut hs₁.extBut D.lz) hv λh₂ h12 hs₂=>Qe ?_);refine Qe ?_;dsimp only;refine Qa (Qa (QT ?_));show wpAny _ _ (Builtin.SmallTypes.nextOf (.ref i2) >>= _) _ _ _;have h22:h₂.IsStrIter i2 ty x t k:=(h2.extBut hs₁.extBut D.i2z).extBut hs₂.extBut D.i12.symm;refine Qa (fH hty h22 hc λh₄ h24 hs4=>Qe ?_);refine Qe (Qe ?_);dsimp only;show wpAny _ _ (newTuple [v,.str ⟨#[c]⟩ s.toks] >>= _) _ _ _;refine Qa (wpAny_newTuple ?_);have hsz:h₄.objs.size=s.heap.objs.size:=by rw[hs4.1,hs₂.1,hs₁.1]
 have hz4:IsZ h₄ z TI TO (rawInt T) true:=hs4.extBut _ _ D.i2z.symm (hs₂.extBut _ _ D.i1z.symm hz1);have hk₄:∀c o,c≠z->c≠i1->c≠i2->s.heap.get? c=some o->h₄.get? c=some o:=λc o c1 c3 c4 e=>hs4.extBut _ _ c4 (hs₂.extBut _ _ c3 (hs₁.extBut _ _ c1 e));refine Qe ⟨_,rfl,Qe ?_⟩;show Q (some (.ref h₄.objs.size)) _;rw[hsz];exact hQ _ (Qc _ hz4) ((h12.extBut hs4.extBut D.i12).at λo e=>Qc _ e) (let ⟨o,e,r⟩:=h24;⟨o,Qc _ e,r⟩) (by rw[<-hsz];exact Qs _ rfl) (by rw[Q8,hsz]) λc o c1 c3 c4 e=>Qc _ (hk₄ c o c1 c3 c4 e)
theorem next_end {TI TO:Addr} {f0:Value} {f1:Bool} {k:Nat} {a b:Value} (hh:A.handled=none) (D:Apart5 z TI TO i1 i2 l)
  (hz:IsZ s.heap z TI TO f0 f1) (hf:(f0=.none/\f1=false/\∃a b,IsPair s.heap TO a b)\/∃(T:Addr) (oT:Obj),f0=rawInt (T:Nat)/\s.heap.get? T=some oT) (hTI:IsPair s.heap TI (.ref i1) (.ref i2)) (h1:s.heap.IsListIter i1 l k) (hl:s.heap.IsList l xs) (hv:xs[k]?=none)
  (hQ:∀h',(∀c o,c≠z->c≠i1->s.heap.get? c=some o->h'.get? c=some o)->Q none { s with heap:=h' }):wpAny (model prog w) A (pyNext (.ref z)) Q E s:=by
 have hTy:s.TypeIs (.ref z) "zip" := ⟨_,hz,rfl⟩;unfold pyNext
 refine Qa (wpAny_attempt (Xn (name:=Str.ofString "__next__") hTy X2
  (Xh X2 hTy F.entry_zip_next ?_ (F.args_zip_next_1 _))))
 show wpAny _ _ (field (.ref z) 2 >>= _) _ _ _;refine Qa (QP hz rfl (x:=.bool false) rfl ?_);show wpAny _ _ (field (.ref z) 3 >>= _) _ _ _;refine Qa (QP hz rfl (x:=.ref TI) rfl ?_);refine Qa (Xk hTI rfl ?_);show wpAny _ _ (Builtin.SmallTypes.ownedTupleIsFree (.ref z) >>= _) _ _ _;refine Qa ?_;unfold Builtin.SmallTypes.ownedTupleIsFree;refine Qa (QP hz rfl (x:=f0) rfl ?_)
 have fin:∀h' e,(∀c o,c≠z->c≠i1->s.heap.get? c=some o->h'.get? c=some o)->(∃o,h'.get? e=some o/\o.cls=.type "StopIteration") ->
   wpAny (model prog w) A (do if <-isInstance (.ref e) (.type "StopIteration") then pure none else throw (.ref e)) Q E { s with heap:=h' }:=λh' e hk ⟨o,ho,hc⟩ =>
  Qa (wpAny_isInstance (T := "StopIteration") (b:=true) ⟨o,ho,hc⟩ isSubtype_stop (Qe (hQ _ hk)))
 rcases hf with⟨e1,e2,a,b,hTO⟩|⟨T,oT,e1,hT⟩
 ·subst e1 e2;refine Qe ?_;simp only[if_true];refine Qa (XI ?_);refine Qa (QP hz rfl (x:=.ref TO) rfl ?_);refine Qa (Xc hz (by simp) λh₁ hz1 hs₁=>?_)
  replace hz1:IsZ h₁ z TI TO .ellipsis false:=hz1
  refine Qa ?_;simp only[List.zipIdx_cons,List.zipIdx_nil,XR,List.forIn_nil];refine Qa (Qa (wpAny_onRaise ?_));show wpAny _ _ (Builtin.SmallTypes.nextOf (.ref i1) >>= _) _ _ _;refine Qa (wpAny_nextOf_list_end hh (h1.extBut hs₁.extBut D.i1z) (hl.extBut hs₁.extBut D.lz) hv λh₂ e hs₂ he=>?_);obtain⟨oe,hoe,hce⟩:=he;have hz₂:IsZ h₂ z TI TO .ellipsis false:=hs₂ _ _ D.i1z.symm hz1;have hez:e≠z:=λx=>by subst x;rw[hz₂]at hoe;cases hoe;simp at hce
  refine Xc hz₂ (by simp) λh₃ _ hs₃=>?_;exact fin h₃ e (λc o c1 c3 x=>hs₃.extBut _ _ c1 (hs₂ _ _ c3 (hs₁.extBut _ _ c1 x))) ⟨oe,hs₃.extBut _ _ hez hoe,hce⟩
 subst e1;show wpAny _ _ (loadIfAlive ((T:Int).toNat) >>= _) _ _ _;rw[Q9];refine Qa (tF hT ?_);simp only[Option.isNone_some,QB,Xp];refine Qa (QP hz rfl (x:=.bool f1) rfl ?_)
 cases f1 with
 | false =>
  simp only[show (Value.bool false != Value.bool true)=true from rfl,if_true];refine Qa (Xc hz (by simp) λh₁ hz1 hs₁=>Qe ?_)
  replace hz1:IsZ h₁ z TI TO (rawInt T) true:=hz1
  simp only[QB,Xp,List.forIn_toArray,XR,List.forIn_nil];refine Qa (Qa (Qa (QT ?_)));show wpAny _ _ (Builtin.SmallTypes.nextOf (.ref i1) >>= _) _ _ _;refine Qa (wpAny_nextOf_list_end hh (h1.extBut hs₁.extBut D.i1z) (hl.extBut hs₁.extBut D.lz) hv λh₂ e hs₂ he=>?_);exact fin h₂ e (λc o c1 c3 x=>hs₂ _ _ c3 (hs₁.extBut _ _ c1 x)) he
 | true =>
 simp only[show (Value.bool true != Value.bool true)=false from rfl,QB,Xp];refine Qe ?_;simp only[QB,Xp,List.forIn_toArray,XR,List.forIn_nil];refine Qa (Qa (Qa (QT ?_)));show wpAny _ _ (Builtin.SmallTypes.nextOf (.ref i1) >>= _) _ _ _;refine Qa (wpAny_nextOf_list_end hh h1 hl hv λh₂ e hs₂ he=>?_);exact fin h₂ e (λc o c1 c3 x=>hs₂ _ _ c3 x) he
abbrev zH1 (h:Heap) (l:Addr):Heap:=h.push { cls:=.type "list_iterator", data:=.fields #[.ref l,.int 0 0] }
abbrev zH2 (h:Heap) (l:Addr) (ty:String) (x:Str) (t:Tok):Heap:=(zH1 h l).push { cls:=.type ty,data:=.fields #[.str x t,.int 0 0] }
abbrev zH3 (h:Heap) (l:Addr) (ty:String) (x:Str) (t:Tok):Heap:=(zH2 h l ty x t).push { cls:=.type "tuple", data:=.seq #[.ref h.objs.size,.ref (zH1 h l).objs.size] }
abbrev zH4 (h:Heap) (l:Addr) (ty:String) (x:Str) (t:Tok):Heap:=(zH3 h l ty x t).push { cls:=.type "tuple", data:=.seq #[.none,.none] }
abbrev zH5 (h:Heap) (l:Addr) (ty:String) (x:Str) (t:Tok):Heap:=(zH4 h l ty x t).push { cls:=.type "zip", data:=.fields #[.none,.bool false,.bool false,.ref (zH2 h l ty x t).objs.size,.ref (zH3 h l ty x t).objs.size] }
def c9 (x:Str):String:=if x.cps.all (·<128)=true then "str_ascii_iterator" else "str_iterator"
theorem p_ {t:Tok} {Q:C9} (hQ:Q (.ref s.heap.objs.size) { s with heap:=s.heap.push { cls:=.type (c9 x),data:=.fields #[.str x t,.int 0 0] } }):wpAny (model prog w) A (pyIter (.str x t)) Q E s:=by
 unfold c9 at hQ
 cases ha:x.cps.all (·<128) with
 | true=>rw[ha,Qp rfl]at hQ;exact wpAny_pyIter_ascii ha hQ
 | false=>rw[ha,Qn Qk]at hQ;exact wpAny_pyIter_wide ha hQ
theorem nq (x:Str):c9 x = "str_ascii_iterator" \/ c9 x = "str_iterator" := by
 unfold c9
 split
 ·exact .inl rfl
 exact .inr rfl
theorem meets_new (l:Addr) (xs:Array Value) (x:Str) (t:Tok) :
  Meets (Builtin.«zip.__new__» ⟨[.type "zip", .ref l,.str x t],[]⟩) (λ_ R s=>s.heap.IsList l xs/\R (.ok (.ret (.ref (zH4 s.heap l (c9 x) x t).objs.size))) { s with heap:=zH5 s.heap l (c9 x) x t }) :=
 .of_wp λprog w A R s h=>by
  obtain⟨hp,g,d,tk,os⟩:=s;obtain⟨hl1,h⟩:=h;have hsub:=sub_zip;have hL1:Heap.IsList (Shared.heap ⟨hp,g,d,tk,os⟩) l xs:=hl1
  wp_walk using wpAny_pyIter_list hL1,p_
  exact⟨_,rfl,h⟩
theorem call_zip {t:Tok} {Q:C9} (hl1:s.heap.IsList l xs)
  (h:∀h',IsZ h' (s.heap.objs.size+4) (s.heap.objs.size+2) (s.heap.objs.size+3) .none false->IsPair h' (s.heap.objs.size+2) (.ref s.heap.objs.size) (.ref (s.heap.objs.size+1)) ->
   IsPair h' (s.heap.objs.size+3) .none .none->h'.IsListIter s.heap.objs.size l 0->h'.IsStrIter (s.heap.objs.size+1) (c9 x) x t 0->h'.objs.size=s.heap.objs.size+5 ->
   (∀c o,s.heap.get? c=some o->h'.get? c=some o)->Q (.ref (s.heap.objs.size+4)) { s with heap:=h' }) :
  wpAny (model prog w) A (call (.type "zip") [.ref l,.str x t]) Q E s:=by
 refine callType_new F.called_zip (by decide) (F.typeCall_zip_2 _ _) (F.newCall_zip_2 _ _) (λobj=>F.args_object_init_3 obj _ _) F.entry_zip_new (meets_new l xs x t) ⟨hl1,?_⟩;have z1:(zH1 s.heap l).objs.size=s.heap.objs.size+1:=Q8 ..;have z2:(zH2 s.heap l (c9 x) x t).objs.size=s.heap.objs.size+2:=by rw[Q8,z1]
 have z3:(zH3 s.heap l (c9 x) x t).objs.size=s.heap.objs.size+3:=by rw[Q8,z2]
 have z4:(zH4 s.heap l (c9 x) x t).objs.size=s.heap.objs.size+4:=by rw[Q8,z3]
 have z5:(zH5 s.heap l (c9 x) x t).objs.size=s.heap.objs.size+5:=by rw[Q8,z4]
 have g5:(zH5 s.heap l (c9 x) x t).get? (zH4 s.heap l (c9 x) x t).objs.size=some _:=Qs _ rfl;have g4:(zH5 s.heap l (c9 x) x t).get? (zH3 s.heap l (c9 x) x t).objs.size=some _:=Qc _ (Qs _ rfl);have g3:(zH5 s.heap l (c9 x) x t).get? (zH2 s.heap l (c9 x) x t).objs.size=some _:=Qc _ (Qc _ (Qs _ rfl));have g2:(zH5 s.heap l (c9 x) x t).get? (zH1 s.heap l).objs.size=some _:=Qc _ (Qc _ (Qc _ (Qs _ rfl)));have g1:(zH5 s.heap l (c9 x) x t).get? s.heap.objs.size=some _:=Qc _ (Qc _ (Qc _ (Qc _ (Qs _ rfl))));show _/\_;rw[z2,z3,z4]at g5;rw[z1,z2]at g3;rw[z3]at g4;rw[z1]at g2;rw[z4]
 exact⟨⟨_,g5,rfl⟩,h _ g5 g3 g4 ⟨_,g1,rfl,rfl⟩ ⟨_,g2,rfl,rfl⟩ z5 λc o x =>
  Qc _ (Qc _ (Qc _ (Qc _ (Qc _ x))))⟩
theorem fB:typeLookup (.type "zip") "__getattr__" = pure none:=by rw[typeLookup_type,builtinLookup_eq_fast];kernel_rfl
theorem iB:typeLookup (.type "zip") "keys" = pure none:=by rw[typeLookup_type,builtinLookup_eq_fast];kernel_rfl
theorem dE:entryFor table "zip.__getattribute__" = some Builtin.«object.__getattribute__» :=
 entryFor_alias (id' := "object.__getattribute__") (by kernel_rfl) (by decide +kernel) (by decide +kernel) (by kernel_rfl)
theorem hW (a:Addr) (xs:Array Value) (sl:Array (Option Value)) (u:Tok) :
  Meets (Builtin.«object.__getattribute__» ⟨[.ref a,.str "keys" u],[]⟩) (λA R s=>s.heap.get? a=some { cls:=.type "zip", dict:=none,data:=.fields xs,slots:=sl }/\raisesAttr (.ref a) "keys" A R s) :=
 Meets.of_wp λprog w A R s hs=>by
  obtain⟨hp,g,d,tk,os⟩:=s;obtain⟨hx,hs⟩:=hs;have hT:(⟨hp,g,d,tk,os⟩:Shared).TypeIs (.ref a) "zip" := ⟨_,hx,rfl⟩;have hmiss:=iB;have hname:(["__module__", "__name__", "__qualname__", "__doc__", "__annotations__"]:List Str).contains "keys" = false:=by decide +kernel
  unfold Builtin.«object.__getattribute__»
  repeat (any_goals (first|assumption|wp_step))
  try simp only[hname,QB,Xp]
  repeat (any_goals (first|assumption|wp_step))
  exact wpAny_raiseAttrError hs.1 hs.2 (attrMsg_fits (by decide +kernel) (by decide +kernel))
theorem pZ {sl:Array (Option Value)} (hx:s.heap.get? a=some { cls:=.type "zip", dict:=none,data:=.fields xs,slots:=sl }) (hA:A.handled=none)
  (h:∀h' tk,(∀c o,s.heap.get? c=some o->h'.get? c=some o)->Q none { s with heap:=h',toks:=tk }):wpAny (model prog w) A (getAttr? (.ref a) "keys") Q E s:=by
 obtain⟨hp,g,d,tk,os⟩:=s;have hT:∀tk',(⟨hp,g,d,tk',os⟩:Shared).TypeIs (.ref a) "zip" := λ_=>⟨_,hx,rfl⟩;have f1:=sub_AttributeError;have f3:=F.slot_zip_getattribute.lookup;have f4:=F.slot_zip_getattribute.bind (.ref a);have f5:=fB;unfold getAttr? getAttrBy? getAttrBy
 repeat (any_goals (first|assumption|exact hT _|((with_reducible show wpAny _ _ (call (Value.builtin "zip.__getattribute__") _ _) _ _ _);refine call_meets F.slot_zip_getattribute (hT _) dE (F.args_zip_getattribute_2 _ _) (hW a xs sl _) ⟨hx,hA,λh' tk' e hx'=>?_⟩)|wp_step))
 obtain⟨t',u',he⟩:=hx'.there;show wpAny _ _ (getattributeRaised _ _ _ _ _ _ _) _ _ _;unfold getattributeRaised
 repeat (any_goals (first|assumption|wp_step))
 all_goals exact h _ _ hx'.keeps
end
theorem hV:mroOf (.type "dict")=pure [.type "dict", .type "object"]:=by rw[mroOf_type];kernel_rfl
theorem gi:typeLookup (.type "dict") "__new__" = pure (some (.builtin "dict.__new__")):=by rw[typeLookup_type,builtinLookup_eq_fast];kernel_rfl
theorem lM:TypeCalled "dict" "dict.__new__" "dict.__init__" :=
 ⟨by decide +kernel,by decide +kernel,⟨_,_,hV⟩,madeBy_type hV gi (by decide +kernel),by decide +kernel,by rw[isSubtype_type];kernel_rfl,F.slot_dict_init⟩
theorem gc (a:Value):checkTypeCall "dict" ⟨[a],[]⟩=pure ():=by kernel_rfl
theorem hC (a:Value):checkBuiltinCall "dict.__new__" ⟨[.type "dict", a],[]⟩=pure ():=by kernel_rfl
theorem iq:entryFor table "dict.__new__" = some Builtin.«dict.__new__»:=entryFor_of_tree (by kernel_rfl)
theorem gP:plainId "dict.__new__" = true:=by decide +kernel
theorem qQ:isSubtype (.type "dict") (.type "dict")=pure true:=by rw[isSubtype_type];kernel_rfl
theorem i4:entryFor table "dict.update.loop" = some Builtin.«dict.update.loop»:=entryFor_of_tree (by kernel_rfl)
theorem d6:plainId "dict.update.loop" = true:=by decide +kernel
structure ApartD (z TI TO i1 i2 l d:Addr):Prop extends Apart5 z TI TO i1 i2 l where
 dz:d≠z
 dTI:d≠TI
 dTO:d≠TO
 di1:d≠i1
 di2:d≠i2
 dl:d≠l
structure ZS (h:Heap) (z TI TO i1 i2 l d:Addr) (ty:String) (x:Str) (t:Tok) (xs:Array Value) (k:Nat):Prop where
 zf:(IsZ h z TI TO .none false/\∃a b,IsPair h TO a b)\/∃(T:Addr) (f1:Bool) (oT:Obj),IsZ h z TI TO (rawInt (T:Nat)) f1/\h.get? T=some oT/\T≠z/\T≠i1/\T≠i2/\T≠d
 ti:IsPair h TI (.ref i1) (.ref i2)
 a1:h.IsListIter i1 l k
 a2:h.IsStrIter i2 ty x t k
 li:h.IsList l xs
section
variable {prog:Program} {w:World} {K:Type} [DecidableEq K] {knd:KeyKind prog w K} {A:Around} {R:Result->Shared->Prop}
variable {Q:Option Value->Shared->Prop} {xs:Array Value} {x:Str} {z i1 i2 l d:Addr} {ty:String} {s:Shared} {E:C9}
theorem tJ (hty:ty = "str_ascii_iterator" \/ ty = "str_iterator") {TI TO:Addr} {t:Tok} {k c:Nat} {v:Value} {od:Obj} (D:ApartD z TI TO i1 i2 l d)
  (Z:ZS s.heap z TI TO i1 i2 l d ty x t xs k) (hod:s.heap.get? d=some od) (hv:xs[k]?=some v) (hc:x.cps[k]?=some c)
  (hQ:∀h' T u,ZS h' z TI TO i1 i2 l d ty x t xs (k+1)->IsPair h' T v (.str ⟨#[c]⟩ u)->T≠d->(∀c o,c≠z->c≠TO->c≠i1->c≠i2->s.heap.get? c=some o->h'.get? c=some o)->Q (some (.ref T)) { s with heap:=h',toks:=s.toks+1 }) :
  wpAny (model prog w) A (pyNext (.ref z)) Q E s:=by
 have lt:∀{c o},s.heap.get? c=some o->s.heap.objs.size≠c:=λe=>Nat.ne_of_gt (Qm e);have l1:s.heap.objs.size≠i1:=by obtain⟨_,e,_⟩:=Z.a1;exact lt e
 have l2:s.heap.objs.size≠i2:=by obtain⟨_,e,_⟩:=Z.a2;exact lt e
 rcases Z.zf with⟨hz,a,b,hTO⟩|⟨T,f1,oT,hz,hT,n1,n2,n3,n4⟩
 ·refine next_first hty D.toApart5 hz Z.ti hTO Z.a1 Z.a2 Z.li hv hc λh' b1 b2 b3 b4 b5 b6 b7=>?_;exact hQ h' _ _ ⟨.inr ⟨_,_,_,b1,b5,lt hz,l1,l2,lt hod⟩,b7 _ _ D.TIz D.TITO D.TIi1 D.TIi2 Z.ti,b3,b4,Z.li.at λo e=>b7 _ o D.lz D.lTO D.li1 D.li2 e⟩ b5 (lt hod) b7
 refine mF hty D.toApart5 hz hT Z.ti Z.a1 Z.a2 Z.li hv hc λh' b1 b3 b4 b5 b6 b7=>?_;exact hQ h' _ _ ⟨.inr ⟨T,_,oT,b1,b7 _ _ n1 n2 n3 hT,n1,n2,n3,n4⟩,b7 _ _ D.TIz D.TIi1 D.TIi2 Z.ti,b3,b4,Z.li.at λo e=>b7 _ o D.lz D.li1 D.li2 e⟩ b5 (lt hod) λc o c1 _ c3 c4 e=>b7 c o c1 c3 c4 e
theorem v0 {TI TO:Addr} {t:Tok} {k:Nat} (hh:A.handled=none) (D:ApartD z TI TO i1 i2 l d)
  (Z:ZS s.heap z TI TO i1 i2 l d ty x t xs k) (hv:xs[k]?=none) (hQ:∀h',(∀c o,c≠z->c≠i1->s.heap.get? c=some o->h'.get? c=some o)->Q none { s with heap:=h' }):wpAny (model prog w) A (pyNext (.ref z)) Q E s:=by
 rcases Z.zf with⟨hz,a,b,hTO⟩|⟨T,f1,oT,hz,hT,n1,n2,n3,n4⟩
 ·exact next_end (a:=a) (b:=b) hh D.toApart5 hz (.inl ⟨rfl,rfl,a,b,hTO⟩) Z.ti Z.a1 Z.li hv hQ
 exact next_end (a:=.none) (b:=.none) hh D.toApart5 hz (.inr ⟨T,oT,rfl,hT⟩) Z.ti Z.a1 Z.li hv hQ
theorem ZS.dict {h h':Heap} {TI TO:Addr} {t:Tok} {k:Nat} (D:ApartD z TI TO i1 i2 l d) (Z:ZS h z TI TO i1 i2 l d ty x t xs k) (hs:Heap.SameBut d h h'):ZS h' z TI TO i1 i2 l d ty x t xs k:=by
 refine⟨?_,hs.extBut _ _ D.dTI.symm Z.ti,Z.a1.extBut hs.extBut D.di1.symm,Z.a2.extBut hs.extBut D.di2.symm,Z.li.extBut hs.extBut D.dl.symm⟩;rcases Z.zf with⟨hz,a,b,hTO⟩|⟨T,f1,oT,hz,hT,n1,n2,n3,n4⟩
 ·exact .inl ⟨hs.extBut _ _ D.dz.symm hz,a,b,hs.extBut _ _ D.dTO.symm hTO⟩
 exact .inr ⟨T,f1,oT,hs.extBut _ _ D.dz.symm hz,hs.extBut _ _ n4 hT,n1,n2,n3,n4⟩
def dY (kvs:List (K × Value)) (ps:List (K × Value)):List (K × Value):=ps.foldl (λacc p=>stored acc p.1 p.2) kvs
theorem l_ (kvs:List (K × Value)) (k:K) (v:Value):(stored kvs k v).length<=kvs.length+1:=by
 unfold stored
 split
 ·rw[Qb];exact zb
 rw[Qh];simp
theorem qu (hty:ty = "str_ascii_iterator" \/ ty = "str_iterator") {TI TO:Addr} {t:Tok} (D:ApartD z TI TO i1 i2 l d) (hh:A.handled=none) (ks:Nat->K) (hk:∀k v,xs[k]?=some v->knd.is (ks k) v=true)
  (hlen:xs.size<=x.cps.size) (hsz:xs.size<=sizeLine):∀(m k:Nat) (i:Int) (s:Shared) (kvs:List (K × Value)),xs.size-k=m->k<=xs.size->ZS s.heap z TI TO i1 i2 l d ty x t xs k->s.heap.DictOf knd d kvs->kvs.length<=k ->
  (∀h' tk (ps:List (K × Value)),ps.length=xs.size-k->(∀(j:Nat) p,ps[j]?=some p->p.1=ks (k+j)/\∃c u,x.cps[k+j]?=some c/\p.2=.str ⟨#[c]⟩ u)->h'.DictOf knd d (dY kvs ps) ->
   (∀c o,c≠z->c≠TO->c≠i1->c≠i2->c≠d->s.heap.get? c=some o->h'.get? c=some o)->R (.ok (.ret .none)) { s with heap:=h',toks:=tk }) ->
  codeAny (model prog w) A (.builtin "dict.update.loop" ⟨[.ref d,.ref z,rawInt i,.none],[]⟩) R s:=by
 intro m
 induction m with
 | zero =>
  intro k i s kvs hm hkk Z hd hkl hR;have hin:k=xs.size:=by exact za hm hkk
  refine XB i4 ?_;rw[Xf d6 _];show wpAny _ A.in1 (pyNext (.ref z) >>= _) _ _ s;refine Qa (v0 (show A.in1.handled=none from hh) D Z (by rw[hin];simp) λh' hkeep=>?_);show wpAny _ _ (Builtin.Dict.addKeywords d [] >>= _) _ _ _;refine Qa (Qe (Qe ?_));have hdn:d≠z:=D.dz
  have hd':h'.DictOf knd d kvs:=by
   obtain⟨o,es,ep,e1,r⟩:=hd;exact⟨o,es,ep,hkeep d o D.dz D.di1 e1,r⟩
  exact hR h' s.toks [] (by simp;exact y_ hm) (λj p e=>by simp at e) hd' λc o c1 _ c3 _ _ e=>hkeep c o c1 c3 e
 | succ m ih =>
 intro k i s kvs hm hkk Z hd hkl hR;have hlt:k<xs.size:=by exact yZ hm hkk
 have hv:xs[k]?=some xs[k]:=by simp[hlt]
 have hltc:k<x.cps.size:=by exact rQ hlen hlt
 have hc:x.cps[k]?=some x.cps[k]:=by simp[hltc]
 obtain⟨od,es0,ep0,hod,_⟩:=id hd;refine XB i4 ?_;rw[Xf d6 _];show wpAny _ A.in1 (pyNext (.ref z) >>= _) _ _ s;refine Qa (tJ hty D Z hod hv hc λh1 T u Z1 hT hTd hkeep=>?_)
 have hd1:h1.DictOf knd d kvs:=by
  obtain⟨o,es,ep,e1,r⟩:=hd;exact⟨o,es,ep,hkeep d o D.dz D.dTO D.di1 D.di2 e1,r⟩
 refine Qa (QT ?_);have hTy:(Shared.TypeIs { s with heap:=h1,toks:=s.toks+1 } (.ref T) "tuple"):=⟨_,hT,rfl⟩;refine Qa (wpAny_tryCatch ?_);unfold Builtin.Dict.pairItems;refine Qa (wpAny_typeOf hTy ?_);rw[Qp (by decide)];refine Qa (Xk hT rfl (Qe ?_));show wpAny _ _ (holding [xs[k],_] (dictSet d xs[k] _)) _ _ _;refine QT (wpAny_dictSet_pairs (hk k _ hv) hd1 (λh2 hd2 hs2=>?_) (by exact yY hsz hkl hlt));refine Qe ⟨plainId_quiet d6 _,ih (k+1) (i+1) _ _ (by exact yW hm hlt) (by exact yV hlt) (ZS.dict D Z1 hs2) hd2 (QR (l_ _ _ _) (by exact rP hkl)) λh3 tk ps hl hp hd3 hk3=>?_⟩;refine hR h3 tk ((ks k,.str ⟨#[x.cps[k]]⟩ u)::ps) (by rw[Q2,hl];exact yU hm hlt) (λj p e=>?_) hd3 λc o c1 c2 c3 c4 c5 e=>hk3 c o c1 c2 c3 c4 c5 (hs2.extBut c o c5 (hkeep c o c1 c2 c3 c4 e))
 cases j with
 | zero =>
  have e':(ks k,Value.str ⟨#[x.cps[k]]⟩ u)=p:=by simpa using e
  subst e';exact⟨rfl,x.cps[k],u,hc,rfl⟩
 | succ j =>
 have q:=hp j p (by simpa using e);rw[show k+(j+1)=k+1+j by exact yT];exact q
theorem iH (a:Value) {Q:C9} (h:Q (.ref s.heap.objs.size) { s with heap:=s.heap.push { cls:=.type "dict", data:=.dict #[] } }) :
  codeAny (model prog w) A (.call (.builtin "dict.__new__") ⟨[.type "dict", a],[]⟩) (wants Q E) s:=by
 refine codeAny_call_builtin gP iq (wpAny_of_eq (hC a) ?_);have hsub:=qQ;have hmro:=hV;obtain⟨hp,g,d,tk,os⟩:=s;unfold Builtin.«dict.__new__»
 wp_walk
 exact h
theorem qz (hty:ty = "str_ascii_iterator" \/ ty = "str_iterator") {TI TO:Addr} {t:Tok} {Q:C9} (D:Apart5 z TI TO i1 i2 l) (hh:A.handled=none) (ks:Nat->K)
  (hk:∀k v,xs[k]?=some v->knd.is (ks k) v=true) (hlen:xs.size<=x.cps.size) (hsz:xs.size<=sizeLine) (hz:IsZ s.heap z TI TO .none false) (hTI:IsPair s.heap TI (.ref i1) (.ref i2)) (hTO:∃a b,IsPair s.heap TO a b)
  (h1:s.heap.IsListIter i1 l 0) (h2:s.heap.IsStrIter i2 ty x t 0) (hl:s.heap.IsList l xs)
  (h:∀h' tk (ps:List (K × Value)),ps.length=xs.size->(∀(j:Nat) p,ps[j]?=some p->p.1=ks j/\∃c u,x.cps[j]?=some c/\p.2=.str ⟨#[c]⟩ u)->h'.DictOf knd s.heap.objs.size (dY [] ps) ->
   (∀c o,c≠z->c≠TO->c≠i1->c≠i2->s.heap.get? c=some o->h'.get? c=some o)->Q (.ref s.heap.objs.size) { s with heap:=h',toks:=tk }) :
  wpAny (model prog w) A (call (.type "dict") [.ref z]) Q E s:=by
 refine callType_codes (Q₁:=λobj s1=>obj=.ref s.heap.objs.size/\s1={ s with heap:=s.heap.push { cls:=.type "dict", data:=.dict #[] } }) lM (gc _) F.entry_dict_init (iH _ ⟨rfl,rfl⟩) ?_;rintro obj s1 ⟨rfl,rfl⟩;have up:∀c o,s.heap.get? c=some o->(s.heap.push { cls:=.type "dict", data:=.dict #[] }).get? c=some o:=λc o e=>Qc _ e;have hnew:(s.heap.push { cls:=.type "dict", data:=.dict #[] }).DictOf knd s.heap.objs.size []:=Heap.DictOf.new s.heap;have lt:∀{c o},s.heap.get? c=some o->s.heap.objs.size≠c:=λe=>Nat.ne_of_gt (Qm e);have l1:s.heap.objs.size≠i1:=by obtain⟨_,e,_⟩:=h1;exact lt e
 have l2:s.heap.objs.size≠i2:=by obtain⟨_,e,_⟩:=h2;exact lt e
 have ll:s.heap.objs.size≠l:=by obtain⟨_,e,_⟩:=hl;exact lt e
 obtain⟨a0,b0,hTO'⟩:=hTO;have DD:ApartD z TI TO i1 i2 l s.heap.objs.size:=⟨D,lt hz,lt hTI,lt hTO',l1,l2,ll⟩;refine⟨hnew.typeIs,F.args_dict_init_2 _ _,?_⟩;unfold Builtin.«dict.__init__»;refine Qa ?_;unfold Builtin.Dict.selfAndRest;refine Qa (wpAny_notOrdered_dict hnew.typeIs ?_);show wpAny _ _ (pure (s.heap.objs.size,[Value.ref z])) _ _ _;refine Qe ?_;show wpAny _ _ (Builtin.Dict.updateFrom "dict.__init__" s.heap.objs.size (.ref z) [] .none) _ _ _;unfold Builtin.Dict.updateFrom;have hzT:Shared.TypeIs { s with heap:=s.heap.push { cls:=.type "dict", data:=.dict #[] } } (.ref z) "zip" := ⟨_,up _ _ hz,rfl⟩;refine Qa (wpAny_typeOf hzT ?_);rw[Qp (by decide)];refine Qa (pZ (up _ _ hz) (show A.in1.in1.handled=none from hh) λh3 tk k3=>?_);simp only[Option.isNone_none,if_true];refine Qa (XI ?_);have hz3:IsZ h3 z TI TO .none false:=k3 _ _ (up _ _ hz);refine Qa (wpAny_pyIter_zip (z:=z) (TI:=TI) (TO:=TO) (f0:=.none) hz3 ?_);refine Qe ⟨plainId_quiet d6 _,?_⟩;have Z3:ZS h3 z TI TO i1 i2 l s.heap.objs.size ty x t xs 0:=⟨.inl ⟨hz3,a0,b0,k3 _ _ (up _ _ hTO')⟩,k3 _ _ (up _ _ hTI),h1.at λo e=>k3 _ o (up _ o e),(let ⟨o,e,r⟩:=h2;⟨o,k3 _ o (up _ o e),r⟩),hl.at λo e=>k3 _ o (up _ o e)⟩
 have hd3:h3.DictOf knd s.heap.objs.size []:=by
  obtain⟨o,es,ep,e1,r⟩:=hnew;exact⟨o,es,ep,k3 _ _ e1,r⟩
 refine qu hty DD (show A.in1.handled=none from hh) ks hk hlen hsz xs.size 0 0 _ [] (by simp) (Q0 _) Z3 hd3 (Qi _) λh4 tk4 ps hp1 hp2 hd4 hk4=>?_;refine⟨rfl,h h4 tk4 ps (by simpa using hp1) (λj p e=>by simpa using hp2 j p e) hd4 λc o c1 c2 c3 c4 e=>hk4 c o c1 c2 c3 c4 (lt e).symm (k3 _ _ (up _ _ e))⟩
end
end LZ
namespace L2
open PySem PySem.Spec PyProof.Rows
def bx (kvs:List (Key × V)):List (Key × V)->List (Key × V)
 | []=>kvs
 | p::r=>bx (bn kvs p.1 p.2) r
def bR (ns:List Str) (z:Str):List (Key × V):=(ns.zipIdx).map λp=>(Sum.inr p.1,dM z p.2)
theorem sm:∀{qs:List (Key × V)} {ps:List (Key × Value)} {kvs:List (Key × V)} {vs:List (Key × Value)},KV qs ps->KV kvs vs->KV (bx kvs qs) (LZ.dY vs ps)
 | [],_,_,_,h,r=>by cases h;exact r
 | q::qs,p::ps,kvs,vs,h,r=>by
  cases h with
  | cons h1 h2 =>
  show KV (bx (bn kvs q.1 q.2) qs) (LZ.dY (stored vs p.1 p.2) ps);rw[<-h1.1];exact sm h2 (r.put q.1 h1.2)
theorem paired_get {α β:Type} {F:α->β->Prop}:∀{xs:List α} {ys:List β},xs.length=ys.length->(∀(j:Nat) x y,xs[j]?=some x->ys[j]?=some y->F x y)->Paired F xs ys
 | [],[],_,_=>.nil
 | x::xs,y::ys,hl,h=>.cons (h 0 x y rfl rfl) (paired_get (by simpa using hl) λj a b e1 e2=>h (j+1) a b (by simpa using e1) (by simpa using e2))
theorem eA:∀(qs kvs:List (Key × V)),(bx kvs qs).length<=kvs.length+qs.length
 | [],kvs=>Qi _
 | q::qs,kvs=>by
  have h1:=eA qs (bn kvs q.1 q.2);have h2:=br kvs q.1 q.2;show (bx (bn kvs q.1 q.2) qs).length<=_;rw[Q2];exact zq h1 h2
section
variable {X:Cx} {a b:Expr} {ta:TA} {p1 p2 pos1 pos2:Pos}
def ya (K:PySem.W.Frag) (ta:TA):TE:=λO H Q=>ta O H λvs H1=>∃l ns z,vs=[.ref l,.str z]/\SqL K H1 l (ns.map V.str)/\ns.length<=z.cps.size/\ns.length<1000/\∀d,H1 d=none->Q (.ref d) (upd H1 d (.dK (bx [] (bR ns z))))
theorem jD (hc:X.calm=true) (hg:Gl X "dict") (hm:X.mg "dict" = none) (hg2:Gl X "zip") (hm2:X.mg "zip" = none) (ha:PA X [a,b] ta)
  (hs:starEach [a,b] X.env=[(false,eval a X.env),(false,eval b X.env)]:=by rfl) (hs2:starEach [b] X.env=[(false,eval b X.env)]:=by rfl)
  (hs0:starEach [.Call (.Name "zip" p2) [a,b] [] pos2] X.env=[(false,eval (.Call (.Name "zip" p2) [a,b] [] pos2) X.env)]:=by rfl) :
  PE X (.Call (.Name "dict" p1) [.Call (.Name "zip" p2) [a,b] [] pos2] [] pos1) (ya X.K ta):=by
 intro pins s O H Q I h;refine Call_ (cO I hg hm PyProof.Rows.boot_dict (Q7 ?_ hs0 rfl));rw[hs0];show wpAny _ _ (spliced [(false,eval (.Call (.Name "zip" p2) [a,b] [] pos2) X.env)]) _ _ s;refine Calls.spliced_cons ?_;refine Call_ (cO I hg2 hm2 PyProof.Rows.boot_zip (Q7 (thn (ha pos2 pins s O H _ I h) λus s1 ⟨vs,H1,I1,r1,q1⟩=>?_) (by rw[hs,hs2]) (by rw[hs2];rfl)));obtain⟨l,ns,z,e,hl,hlen,hsm,q⟩:=q1;subst e;obtain⟨u1,u2,e,ru1,ru2⟩:=fY r1;subst e;cases ru1;obtain⟨t,e⟩:=ru2;subst e;obtain⟨its,rv,pl,_⟩:=I1.list hl;have hits:its.length=ns.length:=by have:=rv.length;rw[Qb]at this;exact this.symm
 refine LZ.call_zip pl.isList λh2 b1 b2 b3 b4 b5 b6 b7=>?_;refine Calls.spliced_nil ?_;have I2:Inv X pins O H1 { s1 with heap:=h2 }:=I1.kept (t':=s1.toks) b7;have ltl:@LT.lt Nat _ l s1.heap.objs.size:=by obtain⟨o,ho,_⟩:=pl.isList;exact Qm ho
 have big:1000<sizeLine:=by decide
 refine LZ.qz (knd:=ax X.prog X.w) (LZ.nq z) (i1:=s1.heap.objs.size) (i2:=s1.heap.objs.size+1) (l:=l) (xs:=its.toArray) ⟨(by show @Ne Nat _ _;exact zp),(by show @Ne Nat _ _;exact zo),(by show @Ne Nat _ _;exact zn),(by show @Ne Nat _ _;exact zm),(by show @Ne Nat _ _;exact zk),(by show @Ne Nat _ _;exact zj),(by show @Ne Nat _ _;exact zi),(by show @Ne Nat _ _;exact zh),(by show @Ne Nat _ _;exact zg),(by show @Ne Nat _ _;exact ze),(by show @Ne Nat _ _;omega),(by show @Ne Nat _ _;omega),(by show @Ne Nat _ _;omega),(by show @Ne Nat _ _;omega)⟩ (I.ok.hd hc) (λk=>Sum.inr (ns.getD k Str.empty)) (λk v hv=>?_)
  (by rw[Ql,hits];exact hlen) (by rw[Ql,hits];omega) b1 b2 ⟨_,_,b3⟩ b4 b5 (pl.isList.at λo e=>b7 _ o e) λh3 tk ps hp1 hp2 hd3 hk3=>?_
 ·have hv':its[k]?=some v:=by simpa using hv
  have hk:k<ns.length:=by have:=(Qf.mp hv').1;exact k_ hits this
  have e1:(ns.map V.str)[k]?=some (.str (ns.getD k Str.empty)):=by
   rw[Qy,Qd hk,QQ,Qd hk];rfl
  obtain⟨u,hu,ru⟩:=rv.get e1;rw[hv']at hu;cases hu;obtain⟨t',e⟩:=ru;subst e;exact f8 _ _ _ _
 have hlenz:(bR ns z).length=ns.length:=by unfold bR;simp
 have kv:KV (bR ns z) ps:=by
  refine paired_get (by rw[hlenz,hp1,Ql,hits]) λj x y e1 e2=>?_;obtain⟨f1,c,u,f2,f3⟩:=hp2 j y e2;unfold bR at e1;rw[Qy,List.getElem?_zipIdx]at e1
  cases e:ns[j]? with
  | none=>rw[e]at e1;simp at e1
  | some n =>
  rw[e]at e1;simp at e1;subst e1;refine⟨?_,?_⟩
  ·rw[f1];show (Sum.inr n:Key)=Sum.inr (ns.getD j Str.empty);rw[QQ,e];rfl
  rw[f3];refine⟨u,?_⟩;show Value.str ⟨#[c]⟩ u=Value.str ⟨#[z.cps.getD j 0]⟩ u;rw[Array.getD_eq_getD_getElem?,f2];rfl
 have hnew:H1 h2.objs.size=none:=I2.hok.fresh (Qi _)
 have kept:∀c o,s1.heap.get? c=some o->h3.get? c=some o:=λc o e=>by
  have:@LT.lt Nat _ c s1.heap.objs.size:=Qm e;exact hk3 c o (by show @Ne Nat _ _;omega) (by show @Ne Nat _ _;omega) (by show @Ne Nat _ _;omega) (by show @Ne Nat _ _;omega) (b7 c o e)
 have hle:s1.heap.objs.size<=h2.objs.size:=by exact zd b6
 have I3:Inv X pins O (upd H1 h2.objs.size (.dK (bx [] (bR ns z)))) { s1 with heap:=h3,toks:=tk }:=I1.laid kept hle ⟨by
   have:=eA (bR ns z) [];rw[hlenz]at this;simp only[List.length_nil]at this
   omega,beq_eq_false_iff_ne.mpr (by
   have:@LT.lt Nat _ sysModules s1.heap.objs.size:=I1.big;intro e;have e':@Eq Nat h2.objs.size sysModules:=e
   omega),_,sm kv .nil,hd3⟩
 exact⟨.ref h2.objs.size,_,I3,rfl,q _ hnew⟩
end
end L2
namespace LZ
open PySem
section
variable {prog:Program} {w:World} {A:Around} {E:C9} {s:Shared}
end
section
variable {prog:Program} {w:World} {K:Type} [DecidableEq K] {knd:KeyKind prog w K} {A:Around} {R:Result->Shared->Prop}
def jY (h:Heap) (xs:Array Value) (ka va:Nat->Value) (it d:Addr):Prop:=∀k,k<xs.size->∃(T:Addr) (o:Obj) (n:Nat),xs[k]?=some (.ref T)/\h.get? T=some o/\o.cls=.type "tuple" /\ o.data=.seq #[ka k,va k] n/\T≠it/\T≠d
theorem jY.keep {h h':Heap} {xs:Array Value} {ka va:Nat->Value} {it d:Addr} (p:jY h xs ka va it d) (hk:∀c o,c≠it->c≠d->h.get? c=some o->h'.get? c=some o):jY h' xs ka va it d:=λk hlt =>
 let ⟨T,o,n,e1,e2,e3,e4,e5,e6⟩:=p k hlt;⟨T,o,n,e1,hk T o e5 e6 e2,e3,e4,e5,e6⟩
end
end LZ
namespace L2
open PySem PySem.Spec PyProof.Rows
section
variable {X:Cx} {a:Expr} {ta:TA} {p1 pos1:Pos}
end
end L2
namespace LS
open PySem PySem.Spec PyProof.Rows
def Led (w:World) (t:SetTable) (n:Nat):Prop:=w.params.followText "set-order" = true\/(t.led=true/\(n≠0->t.plain=false))
theorem pA (t:SetTable) (n:Nat):(t.orStandIn n).led=t.led/\(t.plain=false->(t.orStandIn n).plain=false):=by
 unfold SetTable.orStandIn
 split
 ·exact⟨rfl,id⟩
 exact⟨rfl,λ_=>rfl⟩
theorem mU (t:SetTable) (es:Array (Int × Value)) (h:Int) (x:Value):(layNew t es h x).2.1.led=t.led/\(t.plain=false->(layNew t es h x).2.1.plain=false):=by
 unfold layNew
 split
 ·exact pA (t.put _).1 _
 exact⟨rfl,λ_=>rfl⟩
theorem sk {m f v:Nat} {l p:Bool} {hs:Array Int} {t:SetTable} {o:Array Nat} (h:SetTable.laid m f v l p hs=some (t,o)):t.led=l/\t.plain=p:=by
 unfold SetTable.laid at h
 cases e:SetTable.layClean m hs with
 | none=>rw[e]at h;cases h
 | some ow=>rw[e]at h;cases h;exact⟨rfl,rfl⟩
theorem pF (t:SetTable) (es:Array (Int × Value)) (n:Nat):(relayAll t es n).2.1.led=t.led/\(t.plain=false->(relayAll t es n).2.1.plain=false):=by
 unfold relayAll
 split
 ·rename_i t' o e
  obtain⟨e1,e2⟩:=sk e;dsimp only
  split
  ·exact⟨e1,λz=>e2.trans z⟩
  exact⟨rfl,λ_=>rfl⟩
 exact⟨rfl,λ_=>rfl⟩
def cK (prog:Program) (w:World) (h:Heap) (a:Addr) (S:Str->Bool) (n:Nat):Prop:=∃o es ep t,h.get? a=some o/\o.ExactSet/\o.data=.set es ep t/\ElemsOf (strKind prog w) es.toList/\(∀k,S k=true↔∃e∈es.toList,(strKind prog w).is k e.2=true)/\es.size<scanBound/\t.fits es.size=true/\es.size=n/\Led w t es.size
section
variable {prog:Program} {w:World} {A:Around} {E:C9} {s:Shared} {a:Addr} {S:Str->Bool} {n:Nat}
variable {es' es:Array (Int × Value)}
theorem cK.put {h:Heap} {o:Obj} {ep:Nat} {t:SetTable} (ho:h.get? a=some o) (hex:o.ExactSet) (hd:o.data=.set es ep t) {t':SetTable}
  (hel:ElemsOf (strKind prog w) es'.toList) (hm:∀k,S k=true↔∃e∈es'.toList,(strKind prog w).is k e.2=true) (hb:es'.size<scanBound) (hf:t'.fits es'.size=true) (hn:es'.size=n) (hl:Led w t' es'.size) :
  (h.update a (Obj.putSet es' t')).get? a=some { o with data:=.set es' (ep+1) t' }/\cK prog w (h.update a (Obj.putSet es' t')) a S n:=by
 obtain⟨g,_⟩:=SetOf_store (knd:=strKind prog w) ho hex hd hel hm hb hf;exact⟨g,_,es',ep+1,t',g,hex,rfl,hel,hm,hb,hf,hn,hl⟩
theorem u4 {k:Str} {tok:Tok} {Q:Bool->Shared->Prop} (hS:cK prog w s.heap a S n) (hroom:n+1<scanBound)
  (h:∀h' b,Heap.SameBut a s.heap h'->cK prog w h' a (λk'=>S k' || decide (k'=k)) (if S k then n else n+1)->Q b { s with heap:=h' }) :
  wpAny (model prog w) A (setAddHashed a (.str k tok) ((strKind prog w).hash k)) Q E s:=by
 obtain⟨o,es,ep,t,ho,hex,hd,hel,hm,hb,hf,hn,hl⟩:=hS;have hkey:(strKind prog w).is k (.str k tok)=true:=strKind_is _ _ _ _;have hsc:(Value.str k tok).scannable=true:=rfl;unfold setAddHashed setAddHashedIn;refine QT (Qa (wpAny_setState_of ho hd hf ?_));dsimp only;rw[byScan_of hsc hb hel];simp only[↓reduceIte];unfold setAddByScan;refine Qa (Qa (XI (Qa (wpAny_setScan_of hkey ho hd hf hel ?_))))
 cases hr:List.findIdx? (λe=>(strKind prog w).is k e.2) es.toList with
 | some j =>
  dsimp only;obtain⟨hj,hpj,_⟩:=List.findIdx?_eq_some_iff_getElem.mp hr;have hk:S k=true:=(hm k).mpr ⟨_,XT hj,hpj⟩;refine Qe (Qe (h s.heap _ (Heap.SameBut.refl a s.heap) ⟨o,es,ep,t,ho,hex,hd,hel,λk'=>?_,hb,hf,by rw[hk];exact hn,hl⟩));rw[Bool.or_eq_true,decide_eq_true_eq,<-hm k'];exact⟨λz=>z.elim id λe=>e▸hk,.inl⟩
 | none =>
 dsimp only
 have hk:S k=false:=by
  cases hk:S k with
  | false=>rfl
  | true=>obtain⟨e,he,hp⟩:=(hm k).mp hk;have:=List.findIdx?_eq_none_iff.mp hr e he;rw[hp]at this;exact Bool.noConfusion this
 have hperm:=layNew_perm t es ((strKind prog w).hash k) (.str k tok);have hfits:=layNew_fits t es ((strKind prog w).hash k) (.str k tok);obtain⟨l1,l2⟩:=mU t es ((strKind prog w).hash k) (.str k tok);generalize hL:layNew t es ((strKind prog w).hash k) (.str k tok)=L at hperm hfits l1 l2 ⊢;obtain⟨es1,t1,wasDummy,gave⟩:=L;dsimp only at hperm hfits l1 l2 ⊢;rw[Array.toList_push]at hperm;have hel1:=(hel.push hkey hsc).perm hperm;have hm1:∀k',(S k' || decide (k'=k))=true↔∃e∈es1.toList,(strKind prog w).is k' e.2=true:=mem_push_iff hkey hm hperm;have hz:es1.size=n+1:=by rw[<-Qg,hperm.length_eq,Qh,Qg,hn];rfl
 have hb1:es1.size<scanBound:=by rw[hz];exact hroom
 rw[hk]at h
 have tail:∀(t2:SetTable) (s1:Shared) (g:Bool->Sem Unit),(∀(b:Bool) (s₁:Shared) (Q':Unit->Shared->Prop),Q' () s₁->wpAny (model prog w) A (g b) Q' E s₁)->s1=s->t2.fits es1.size=true->Led w t2 es1.size ->
   wpAny (model prog w) A (do
    storeSet a es1 t2
    if (!wasDummy&&t2.tooFull)=true then do
      g (relayAll t2 es1 (SetTable.grown es1.size)).2.2
      storeSet a (relayAll t2 es1 (SetTable.grown es1.size)).1 (relayAll t2 es1 (SetTable.grown es1.size)).2.1
      pure (some true)
     else pure (some true)) (λr s'=>∃h' b,r=some b/\s'={ s with heap:=h' }/\Heap.SameBut a s.heap h'/\cK prog w h' a (λk'=>S k' || decide (k'=k)) (n+1)) E s1:=λt2 s1 g hg e f2 d2=>by
  subst e;refine Qa (wpAny_storeSet_of ho hd ?_ (fits_of_scanBound hb1));obtain⟨ho1,q1⟩:=cK.put ho hex hd hel1 hm1 hb1 f2 hz d2;have k1:=XW s1.heap a (Obj.putSet es1 t2)
  split
  ·have hp:=relayAll_perm t2 es1 (SetTable.grown es1.size);have hfr:=relayAll_fits t2 es1 (SetTable.grown es1.size);obtain⟨r1,r2⟩:=pF t2 es1 (SetTable.grown es1.size);generalize hRl:relayAll t2 es1 (SetTable.grown es1.size)=Rl at hp hfr r1 r2 ⊢;obtain⟨es2,t3,gave2⟩:=Rl;dsimp only at hp hfr r1 r2 ⊢;have hz2:es2.size=es1.size:=by rw[<-Qg,hp.length_eq,Qg]
   refine Qa (hg _ _ _ (Qa (wpAny_storeSet_of ho1 rfl ?_ (fits_of_scanBound (by rw[hz2];exact hb1)))))
   obtain⟨_,q2⟩:=cK.put (S:=λk'=>S k' || decide (k'=k)) (n:=n+1) ho1 hex rfl (hel1.perm hp) (λk'=>(hm1 k').trans ⟨λ⟨e,he,q⟩=>⟨e,hp.mem_iff.mpr he,q⟩,λ⟨e,he,q⟩=>⟨e,hp.mem_iff.mp he,q⟩⟩) (by rw[hz2];exact hb1) hfr (hz2.trans hz)
    (d2.imp id λz=>⟨r1.trans z.1,λy=>r2 (z.2 (by rw[<-hz2];exact y))⟩)
   exact Qe ⟨_,true,rfl,rfl,k1.trans (XW _ a _),q2⟩
  exact Qe ⟨_,true,rfl,rfl,k1,q1⟩
 have fin:∀(r:Option Bool) (s':Shared),(∃h' b,r=some b/\s'={ s with heap:=h' }/\Heap.SameBut a s.heap h'/\cK prog w h' a (λk'=>S k' || decide (k'=k)) (n+1))->∃h' b,r=some b/\s'={ s with heap:=h' }/\Q b s':=λr s' ⟨h',b,e1,e2,e3,e4⟩=>⟨h',b,e1,e2,by rw[e2];exact h h' b e3 (by simpa using e4)⟩
 have gw:∀(b:Bool) {s₁:Shared} {Q':Unit->Shared->Prop},Q' () s₁->wpAny (model prog w) A (match b with|true=>rule "set.scan.the-table-gave-way" | false=>pure ()) Q' E s₁ :=
  λb s₁ Q' hq=>by cases b <;> first|exact Qe hq|exact XI hq
 refine Qa (gw _ ?_)
 split
 ·refine Qa ?_;rw[hashByValue_scannable 8 hsc];refine Qe ?_;refine Xm (tail _ s _ ?_ rfl ?_ ?_) (λr s' z=>?_) λ_ _ z=>z
  ·intro b s₁ Q' hq;cases b <;> first|exact Qe hq|exact XI hq
  ·exact SetTable.fits_plain_off hfits
  ·exact hl.imp id λz=>⟨l1.trans z.1,λ_=>rfl⟩
  obtain⟨h',b,rfl,rfl,q⟩:=fin r s' z;exact Qe q
 rename_i hp
 refine Qa (Qe ?_);simp only[↓reduceIte];refine Xm (tail _ s _ ?_ rfl hfits ?_) (λr s' z=>?_) λ_ _ z=>z
 ·intro b s₁ Q' hq;cases b <;> first|exact Qe hq|exact XI hq
 ·exact hl.imp id λz=>⟨l1.trans z.1,λ_=>by simpa using hp⟩
 obtain⟨h',b,rfl,rfl,q⟩:=fin r s' z;exact Qe q
theorem cK.congr {h:Heap} {S':Str->Bool} {m:Nat} (q:cK prog w h a S n) (e:∀k,S k=S' k) (f:n=m):cK prog w h a S' m:=by
 obtain⟨o,es,ep,t,h1,h2,h3,h4,h5,h6,h7,h8,h9⟩:=q;exact⟨o,es,ep,t,h1,h2,h3,h4,λk=>by rw[<-e k];exact h5 k,h6,h7,h8.trans f,h9⟩
abbrev bare (led:Bool):Obj:={ cls:=.type "set", dict:=none,data:=.set #[] 0 (.fresh 0 0 led) }
theorem cK.bare {h:Heap} (g:h.get? a=some (bare !(w.params.followText "set-order"))):cK prog w h a (λ_=>false) 0 :=
 ⟨_,#[],0,_,g,⟨rfl,rfl,rfl⟩,rfl,fun e he=>by simp at he,fun k=>by simp,by decide,rfl,rfl,by
  unfold Led
  cases e:w.params.followText "set-order" with
  | true=>exact .inl rfl
  | false=>exact .inr ⟨rfl,λz=>absurd rfl z⟩⟩
theorem tm (x:Value) {Q₁:C9} (h:Q₁ (.ref s.heap.objs.size) { s with heap:=s.heap.push (LS.bare !(w.params.followText "set-order")) }) :
  codeAny (model prog w) A (.call (.builtin "set.__new__") ⟨[.type "set", x],[]⟩) (wants Q₁ E) s:=by
 refine codeAny_of_tree ?_;show wpAny _ A.in1 (do checkBuiltinCall "set.__new__" ⟨[.type "set", x],[]⟩;again (.builtin "set.__new__" ⟨[.type "set", x],[]⟩)) _ _ s;refine Qa (wpAny_of_eq (F.newCall_set_1 x) (Qe ⟨plainId_quiet F.plain_set_new _,XB F.entry_set_new ?_⟩));rw[Xf F.plain_set_new _];unfold Builtin.«set.__new__» Builtin.Frozenset.newClass;have hsub:=sub_set_self;obtain⟨hp,g,d,tk,os⟩:=s;dsimp only
 wp_walk
 refine wpAny_askSetting (Qe ?_);dsimp only;simp only[newObj];exact Qa (wpAny_alloc (Qe (Qe h)))
end
def BO (h:Heap) (it a:Addr) (first:Value) (i n ep:Nat):Prop:=∃o,h.get? it=some o/\o.cls=.type "set_iterator" /\ o.data=.fields #[first,.int i 0,.ref a,.int n 0,.int ep 0]
section
variable {prog:Program} {w:World} {A:Around} {E:C9} {s:Shared} {a it:Addr} {es:Array (Int × Value)} {ep:Nat} {t:SetTable} {i:Nat} {first:Value}
theorem BO.typeIs {n:Nat} (h:BO s.heap it a first i n ep):s.TypeIs (.ref it) "set_iterator" := let ⟨o,ho,hc,_⟩:=h;⟨o,ho,hc⟩
theorem ye {Q:Option Value->Shared->Prop} {h1:Heap} (hh:A.handled=none) (k:Heap.ExtBut it s.heap h1) (h:∀h',Heap.ExtBut it s.heap h'->Q none { s with heap:=h' }) :
  wpAny (model prog w) A.in1 (PySem.newExc (Value.type "StopIteration") [] >>= λe=>raiseNew (α:=Fin) e) (λfin s'=>∃v,fin=Fin.done (Flow.ret v)/\wpAny (model prog w) A (pure (some v)) Q E s')
   (λe s'=>wpAny (model prog w) A (isInstance e (Value.type "StopIteration") >>= λb=>if b=true then pure none else throw e) Q E s') { s with heap:=h1 }:=by
 refine Qa ?_;simp only[PySem.newExc,newTuple];refine Qa (wpAny_newObj_type ?_ (by size_fits));refine Qa (m:=firstArgMember _ _) (wpAny_of_eq (a:=Value.none) (by first|rfl|(simp only[firstArgMember];rfl)) ?_);refine wpAny_newObj_type ?_ (by size_fits);simp only[raiseNew];refine Qa (wpAny_handled ?_);rw[show A.in1.handled=none from hh];refine Qa (Qe (wpAny_throw ?_));refine Qa (wpAny_isInstance (T := "StopIteration") (b:=true) ⟨_,Qs _ rfl,rfl⟩ isSubtype_stop ?_);exact Qe (h _ ((k.push _).push _))
end
end LS
set_option maxHeartbeats 1000000
namespace DR
open PySem PySem.Spec PyProof.Rows
abbrev At (h:Heap) (d:Addr) (es:Array DictEntry) (ep:Nat):Prop:=h.get? d=some { cls:=.type "dict", data:=.dict es ep }
abbrev IAt (h:Heap) (it d:Addr) (i n ep:Nat):Prop:=h.get? it=some { cls:=.type "dict_keyiterator", data:=.fields #[.ref d,.int i 0,.int n 0,.int ep 0] }
theorem yo:(if Builtin.Dict_items.ownsTuple ((Manifest.find? "dict_keyiterator").elim "dict_keyiterator" λx=>x.tpName)=true then 2 else 0)=0:=by rw[find?_eq_fast];kernel_rfl
section
variable {prog:Program} {w:World} {A:Around} {E:C9} {s:Shared} {d it:Addr} {es:Array DictEntry} {ep i:Nat}
theorem iter {Q:C9} (hd:(d==sysModules)=false) (hm:At s.heap d es ep)
  (hQ:Q (.ref s.heap.objs.size) { s with heap:=s.heap.push { cls:=.type "dict_keyiterator", data:=.fields #[.ref d,.int 0 0,.int es.size 0,.int ep 0] } }):wpAny (model prog w) A (pyIter (.ref d)) Q E s:=by
 have hT:s.TypeIs (.ref d) "dict" := ⟨_,hm,rfl⟩;refine wpAny_pyIter_slot hT F.slot_dict_iter (Xh F.slot_dict_iter hT F.entry_dict_iter ?_ (F.args_dict_iter_1 _));unfold Builtin.«dict.__iter__» Builtin.Dict.dictSlotNone Builtin.Dict.showsAll
 wp_walk
 exact⟨_,rfl, "dict_keyiterator", _,⟨_,Qs _ rfl,rfl⟩,X3.lookup,hQ⟩
variable {Q:Option Value->Shared->Prop}
theorem nxt (hit:IAt s.heap it d i es.size ep) (hm:At s.heap d es ep) (hi:i<es.size)
  (hQ:∀h',IAt h' it d (i+1) es.size ep->Heap.SameBut it s.heap h'->Q (some es[i].key) { s with heap:=h' }):wpAny (model prog w) A (pyNext (.ref it)) Q E s:=by
 have hT:s.TypeIs (.ref it) "dict_keyiterator" := ⟨_,hit,rfl⟩;refine Qa (wpAny_attempt (Xn (name:=Str.ofString "__next__") hT X3 (Xh X3 hT F.entry_dict_keyiterator_next ?_ (F.args_dict_keyiterator_next_1 _))));unfold Builtin.«dict_keyiterator.__next__»
 wp_walk
 have e:(if (i:Int)<0 then none else es[(i:Int).toNat]?)=some es[i]:=by rw[Qn (by omega),Q9];simp[hi]
 rw[e];dsimp only;have m1:=mroOf_keyiter
 wp_walk
 rw[yo,Qn (by decide +kernel)];exact⟨_,rfl,Qe (hQ _ ((QU _ hit rfl).trans (by simp[Obj.mapFields,rawInt])) (XW ..))⟩
theorem stp (hh:A.handled=none) (hit:IAt s.heap it d i es.size ep) (hm:At s.heap d es ep) (hi:es.size<=i)
  (hQ:∀h',Heap.ExtBut it s.heap h'->Q none { s with heap:=h' }):wpAny (model prog w) A (pyNext (.ref it)) Q E s:=by
 have hT:s.TypeIs (.ref it) "dict_keyiterator" := ⟨_,hit,rfl⟩;refine Qa (wpAny_attempt (Xn (name:=Str.ofString "__next__") hT X3 (Xh X3 hT F.entry_dict_keyiterator_next ?_ (F.args_dict_keyiterator_next_1 _))));unfold Builtin.«dict_keyiterator.__next__»
 wp_walk
 have e:(if (i:Int)<0 then none else es[(i:Int).toNat]?)=none:=by rw[Qn (by omega),Q9];simp[hi]
 rw[e];dsimp only;have m1:=mroOf_keyiter;generalize hN:setField=SF
 wp_walk
 subst hN;refine wpAny_setField hit rfl (by rw[yo];simp) ?_;exact LS.ye hh (XW ..).extBut hQ
theorem self {Q:C9} {n:Nat} (hit:IAt s.heap it d i n ep) (h:Q (.ref it) s):wpAny (model prog w) A (pyIter (.ref it)) Q E s:=wpAny_pyIter_keyiter ⟨_,hit,rfl,rfl⟩ h
theorem u_ (hh:A.handled=none) (I d:Addr) (hne:d≠I) (es:Array DictEntry) (ep:Nat):Walks prog w A I [I,d] [I] es.size (λi v=>∃e,es[i]?=some e/\v=e.key) (λi h=>IAt h I d i es.size ep/\At h d es ep) where
 sub:=λb hb=>by simp at hb;simp[hb]
 frame:=λ_ _ _ st hk=>⟨hk I (by simp) _ st.1,hk d (by simp) _ st.2⟩
 item:=λi s Q E hi st hQ=>nxt st.1 st.2 hi λh' hit' hs'=>hQ _ h' s.toks ⟨es[i],by simp[hi],rfl⟩ ⟨hit',hs'.extBut d _ hne st.2⟩ λb o hb e=>hs'.extBut b o (λh=>hb (by simp[h])) e
 done:=λs Q E st hQ=>stp hh st.1 st.2 (Qi _) λh' he'=>hQ h' s.toks λb o hb e=>he' b o (λh=>hb (by simp[h])) e
 self:=λ_ _ _ _ st hQ=>self st.1 hQ
theorem src (lo:(d==sysModules)=false):PySem.W.KdlSrc prog w "dict" d d es.size (λi v=>∃e,es[i]?=some e/\v=e.key) (λh=>At h d es ep) where
 type:=λ_ hm=>⟨_,hm,rfl⟩
 there:=λ_ h=>⟨Qm h,Qm h⟩
 keep:=λ_ _ hm hk=>hk d (.inl rfl) _ hm
 notList:=by decide
 notTuple:=by decide
 hint:=λ_ _ _ _ hm hq=>PySem.W.kdl_hint_dict ⟨_,hm,rfl⟩ hq
 iter:=λ_ _ hh hm=>⟨_,_,(λ_ _ hq=>iter lo hm hq),u_ hh _ d (QM (Qm hm)) es ep,⟨Qs _ rfl,Qc _ hm⟩⟩
end
end DR
namespace L2
open PySem PySem.Spec PyProof.Rows
variable {H H':Hp}
theorem KIt.inj {x y:Key ⊕ List Key} {v:V} (h1:KIt H x v) (h2:KIt H y v):x=y:=by
 cases x with
 | inl k =>
  cases h1
  cases y with
  | inl j=>rw[sE (show kV k=kV j from h2)]
  | inr js=>obtain⟨c,e,_⟩:=h2;cases k <;> cases e
 | inr ks =>
 obtain⟨c,rfl,h1⟩:=h1
 cases y with
 | inl j=>have e:V.ref c=kV j:=h2;cases j <;> cases e
 | inr js =>
 obtain⟨c2,e,h2⟩:=h2;cases e;rw[h1]at h2;cases oD (HO.tup.inj (QN h2));rfl
theorem cv.inj {x y:ay} {b:Addr} (h1:cv H x b) (h2:cv H y b):x=y:=by
 obtain⟨vs,e1,p1⟩:=h1;obtain⟨us,e2,p2⟩:=h2;rw[e1]at e2;cases HO.tup.inj (QN e2);clear e1 e2
 induction p1 generalizing y with
 | nil=>cases p2;rfl
 | cons q _ ih=>cases p2 with
  | cons q2 t2=>rw[q.inj q2,ih t2]
abbrev KsA (H:Hp) (bs:D4) (ks:List ay):Prop:=Paired (λb k=>cv H k b) bs ks
theorem KsA.keeps {bs:D4} {ks:List ay} (h:KsA H bs ks) (ht:∀b xs,H b=some (.tup xs)->H' b=some (.tup xs)):KsA H' bs ks:=Paired.mapT h λ_ _ z=>z.keeps ht
open Classical in
noncomputable def ge (H:Hp) (b:Addr):ay:=if h:∃k,cv H k b then h.choose else []
theorem nv {k:ay} {b:Addr} (h:cv H k b):ge H b=k:=by
 unfold ge;rw[dif_pos ⟨k,h⟩];exact(Exists.choose_spec (p:=λk=>cv H k b) ⟨k,h⟩).inj h
theorem KsA.tk {bs:D4} {ks:List ay} (h:KsA H bs ks):ks=bs.map (ge H)/\∀b∈bs,cv H (ge H b) b:=by
 induction h with
 | nil=>exact⟨rfl,λb hb=>nomatch hb⟩
 | cons q _ ih =>
 rw[Qu,nv q];refine⟨by rw[<-ih.1],λb hb=>?_⟩;rcases Qw.mp hb with rfl|hb
 ·rw[nv q];exact q
 exact ih.2 b hb
theorem sv {H:Hp}:∀{bs:D4},(∀b∈bs,cv H (ge H b) b)->KsA H bs (bs.map (ge H))
 | [],_=>.nil
 | b::bs,h=>.cons (h b (by simp)) (sv λc hc=>h c (Qo _ hc))
theorem iQ:∀(cs:D4),aJ (cs.map V.ref) (cs.map Value.ref)
 | []=>.nil
 | _::cs=>.cons rfl (iQ cs)
theorem gz:∀{cs:D4} {us:List Value},aJ (cs.map V.ref) us->us=cs.map Value.ref
 | [],_,r=>by
  rw[List.map_nil]at r;cases r;rfl
 | c::cs,_,r=>by
  rw[Qu]at r
  cases r with
  | cons r1 r2=>rw[gz r2,Qu];cases (show _=Value.ref c from r1);rfl
theorem pI {ys:List Value} {l:D4} (h:ys.Perm (l.map Value.ref)):∃l':D4,l'.Perm l/\ys=l'.map Value.ref:=by
 let f:Value->Addr:=λv=>match v with
  | .ref a=>a
  | _=>0
 have e:∀l:D4,(l.map Value.ref).map f=l:=λl=>by rw[XA];exact List.map_id _
 refine⟨ys.map f,by have:=h.map f;rwa [e]at this,?_⟩;rw[XA];refine(List.map_id _).symm.trans (List.map_congr_left λv hv=>?_);obtain⟨a,_,rfl⟩:=Qr.mp (h.mem_iff.mp hv);rfl
section
variable {P:Program} {w:World} {H:Hp} {h:Heap} {a:Addr}
theorem mY {kvs:List (ay × V)} (ok:HOk P w H h) (e:Rd H a (.dT kvs)):(a==sysModules)=false/\kvs.length<=sizeLine/\∃(es:Array DictEntry) (ep:Nat) (bs:D4),DR.At h a es ep/\es.toList.map (·.key)=bs.map Value.ref/\KsA H bs (kvs.map (·.1)):=by
 obtain⟨z,y,xs,r,o,es,ep,h1,h2,h3,h4,h5⟩:=(show bp P w H h a (.dT kvs) from rc ok e);refine⟨y,z,es,ep,xs.map (·.2.1),?_,by rw[h4,XA,XA];rfl,?_⟩
 ·obtain⟨c,d,dt,sl⟩:=o;obtain⟨e1,e2,e3⟩:=h2;dsimp only at e1 e2 e3 h3;subst e1 e2 e3 h3;exact h1
 clear h4 h5 z e
 induction r with
 | nil=>exact .nil
 | cons q _ ih=>exact .cons q.2.1 ih
end
def CP (K:PySem.W.Frag) (H:Hp) (l:Addr) (ks:List ay):Prop:=(∃bs:D4,SqL K H l (bs.map V.ref)/\KsA H bs ks)\/∃kvs,Rd H l (.dT kvs)/\kvs.map (·.1)=ks
def xQ (b:Bool) (ks:List ay):Prop:=(∀x∈ks,∀y∈ks,x.map Tm.sh2=y.map Tm.sh2)/\∀x∈ks,if b=true then ∃k r,x=.inl (.inr k)::r else ∃k r,x=.inr k::r
abbrev leF (x y:ay):Prop:=Tm.leK (Tm.flat x) (Tm.flat y)
def mt (K:PySem.W.Frag):List V->Hp->VK->Prop:=λxs H Q=>∃(l:Addr) (ks:List ay) (b:Bool),xs=[.ref l]/\CP K H l ks/\xQ b ks/\ks.length<=100000 /\
 ∀(p:Addr) (bs':D4) (ks':List ay),H p=none->KsA H bs' ks'->ks'.Perm ks->ks'.Pairwise leF->Q (.ref p) (upd H p (.lst (bs'.map V.ref)))
section
variable {X:Cx}
theorem eP (hc:X.calm=true) (hu:X.A.units+8<cLine):dI X (.builtin "sorted") (mt X.K):=by
 intro pins s O H xs us Q I r h;obtain⟨l,ks,b,rfl,src,sp,hz,q⟩:=h;obtain⟨u,rfl,ru⟩:=dJ r;cases ru
 have main:∀bs:D4,KsA H bs ks->(∀(A:Around) (E:C9) (R:List Value->Shared->Prop),A.handled=none->(∀h' tk vs,(∀b o,s.heap.get? b=some o->h'.get? b=some o)->s.heap.objs.size<=h'.objs.size->vs=bs.map Value.ref->R vs { s with heap:=h',toks:=tk })->wpAny (model X.prog X.w) A (collect (.ref l)) R E s) ->
   wpAny (model X.prog X.w) X.A (call (.builtin "sorted") [.ref l]) (EP X pins O Q) X.xe s:=λbs ka col=>by
  obtain⟨ek,tk⟩:=ka.tk;have bl:bs.length=ks.length:=by rw[ek,Qb]
  have mem:∀{c},c∈bs->ge H c∈ks:=λhc=>by rw[ek];exact Qr.mpr ⟨_,hc,rfl⟩
  refine Tm.pB (s:=s) (up:=λA=>A.units<cLine) (κ:=λ_=>Tm.p6 bs (ge H)) (kd:=tuples' b) (G:=λ_ vs=>vs=bs.map Value.ref) col (I.ok.hd hc) (show X.A.units+1+1<cLine by omega) (λh' vs D k g hD=>?_) (λD h' tk' vs h1 out m k1 g1 k2 hle hD at' p1 p2=>?_)
  ·subst g;refine⟨by rw[Qb,bl];exact hz,Tm.tz (o:=seqObj "list" (bs.map Value.ref).toArray 0) (by rw[hD];exact Qs _ rfl) (λz=>absurd (Value.type.inj z) (by decide)) (λc hc=>?_) ⟨λa ha c hc=>sp.1 _ (mem ha) _ (mem hc),λa ha=>sp.2 _ (mem ha)⟩⟩;exact Tm.cD (fQ I.hok (tk c hc)) λb o e _=>Qc _ (k _ _ e)
  subst g1;obtain⟨bs',pm,eo⟩:=pI p1;rw[eo,Xs]at p2;have tk':∀b∈bs',cv H (ge H b) b:=λb hb=>tk b (pm.mem_iff.mp hb)
  have so:(bs'.map (ge H)).Pairwise leF:=by
   rw[Xs];refine p2.imp_of_mem λ{a c} ha hc hq=>?_;have hq:Tm.lb (((Tm.p6 bs (ge H)).keyOf (.ref c)).getD []) (((Tm.p6 bs (ge H)).keyOf (.ref a)).getD [])=false:=hq;rw[Tm.jL _ (pm.mem_iff.mp ha),Tm.jL _ (pm.mem_iff.mp hc)]at hq;exact hq
  refine⟨.ref D,_,I.laid (o:=.lst (bs'.map V.ref)) (t':=_) (λb o g=>k2 b o (k1 b o g)) hle ⟨by rw[Qb,pm.length_eq,bl,sizeLine_eq];omega,out.toList,m,by rw[eo];exact iQ _,by rw[Array.toArray_toList];exact at'⟩,rfl,q _ bs' _ (I.hok.fresh hle) (sv tk') (by rw[ek];exact pm.map _) so⟩
 rcases src with⟨bs,hl,ka⟩|⟨kvs,rd,ek⟩
 ·obtain⟨its,rv,pl,_⟩:=I.list hl;refine main bs ka λA E R _ hR=>collect_list pl.isList (hR _ _ its (λb o e=>?_) (by rw[Heap.size_update,size_push'];exact Nat.le_succ _) (gz rv)) (by rw[<-rv.length,Qb,X8 ka,sizeLine_eq];omega);exact(Qq _ _ (Nat.ne_of_gt (Qm e))).trans (Qc _ e)
 obtain⟨y,z,es,ep,bs,da,ee,ka⟩:=mY I.hok rd;rw[ek]at ka
 have ez:es.size=ks.length:=by
  have:=congrArg List.length ee;rw[Qb,Qb,Qg]at this;rw[this,X8 ka]
 refine main bs ka λA E R hA hR=>Tm.tj (DR.src (es:=es) (ep:=ep) y) hA da (by rw[ez,sizeLine_eq];omega) λh' tk acc k z it=>hR h' tk acc.toList k z ?_;rw[<-ee];refine List.ext_getElem? λj=>?_;rw[Qy];by_cases hj:j<es.size
 ·have ha:j<acc.size:=by rw[it.1];exact hj
  obtain⟨e,e1,e2⟩:=it.2 j acc[j] (QI ha);rw[Qv,Qv,QI ha,e1,e2];rfl
 rw[List.getElem?_eq_none (by rw[Qg,it.1];omega),List.getElem?_eq_none (by rw[Qg];omega)];rfl
end
def vOf:Value->V
 | .none=>.non
 | .bool b=>.bl b
 | .int i _=>.int i
 | .str x _=>.str x
 | .bytes b _=>.byt b
 | .float b _=>.flt b
 | .ref a=>.ref a
 | .type n=>.ty n
 | _=>.non
theorem qI {x:V} {u:Value} (r:aR x u):vOf u=x:=by
 cases x with
 | int i=>obtain⟨t,rfl⟩:=r;rfl
 | str z=>obtain⟨t,rfl⟩:=r;rfl
 | byt b=>obtain⟨t,rfl⟩:=r;rfl
 | flt b=>obtain⟨t,rfl⟩:=r;rfl
 | _=>cases r;rfl
section
variable {X:Cx}
theorem EqD.mems {pins:D0} {O:St} {H:Hp} {s:Shared} (I:Inv X pins O H s) {A:Around} (hu:A.units+8<cLine) {x:V} {v:Value} (rx:aR x v) {e:V->Bool}:∀{xs:List V} {us:List Value},aJ xs us->(∀y∈xs,EqD X.K H 8 y x (e y))->∀u∈us,SeqAt.EqAt A s u v (e (vOf u))
 | _,_,.nil,_=>λu hu=>by cases hu
 | y::xs,u::us,.cons r t,f=>λu' hu'=>by
  rcases Qw.mp hu' with rfl|hu'
  ·rw[qI r];exact EqD.at I (f y (by simp)) hu r rx
  exact EqD.mems I hu rx t (λy hy=>f y (Qo _ hy)) u' hu'
end
def tI (a:Addr) (o:Obj) (kvs:List (ay × V)):It :=
 ⟨λi H=>H a=some (.frz o (.dT kvs))/\i<kvs.length,λi H x H'=>H'=H/\∃k v b,kvs[i]?=some (k,v)/\x=.ref b/\cv H k b,λi H=>H a=some (.frz o (.dT kvs))/\kvs.length<=i⟩
theorem jP {X:Cx} {pins:D0} {O:St} {s:Shared} {a:Addr} {o:Obj} {es:Array DictEntry} {ep:Nat} {kvs:List (ay × V)} (I:Inv X pins O H s) (h:H a=some (.frz o (.dT kvs))) (hd:o={ cls:=.type "dict", data:=.dict es ep }) :
  (a==sysModules)=false/\DR.At s.heap a es ep/\es.size=kvs.length/\∃bs:D4,es.toList.map (·.key)=bs.map Value.ref/\KsA H bs (kvs.map (·.1)):=by
 obtain⟨y,z,es',ep',bs,e1,e2,e3⟩:=mY I.hok (.inr ⟨o,h⟩);obtain⟨e4,_⟩:=I.hok a _ h;rw[e1,hd]at e4;cases e4;have:=congrArg List.length e2;rw[Qb,Qb,Qg,X8 e3,Qb]at this;exact⟨y,e1,this,bs,e2,e3⟩
theorem oC {H:Hp}:∀{bs:D4} {ks:List ay} {i:Nat} {k:ay},KsA H bs ks->ks[i]?=some k->∃b,bs[i]?=some b/\cv H k b
 | _,_,_,_,.nil,e=>by simp at e
 | _,_,0,_,.cons r _,e=>by simp at e;subst e;exact⟨_,rfl,r⟩
 | _,_,i+1,_,.cons _ t,e=>by obtain⟨b,h1,h2⟩:=oC (i:=i) t (by simpa using e);exact⟨b,by simpa using h1,h2⟩
theorem lX {P:Program} {w:World} {K:PySem.W.Frag} {tg:Expr} (a it:Addr) (o:Obj) (kvs:List (ay × V)) (es:Array DictEntry) (ep:Nat) (hd:o={ cls:=.type "dict", data:=.dict es ep }):Turn P w K tg (tI a o kvs) [it] it (λi h=>DR.IAt h it a i kvs.length ep) where
 mem:=by simp
 obj:=λi h st b hb=>by
  have e:b=it:=by simpa using hb
  subst e;exact⟨_,st,λv z=>nomatch z⟩
 keep:=λi h h' st k=>k it (by simp) _ st
 item:=by
  intro X hP hw hK hc i pins s O H E I hf st hg;subst hP hw hK;obtain⟨hz,hi⟩:=hg;obtain⟨_,da,ez,bs,e2,e3⟩:=jP I hz hd;obtain⟨⟨k,v⟩,hx⟩:∃p,kvs[i]?=some p:=⟨kvs[i],by simp[hi]⟩;obtain⟨b,hb,tb⟩:=oC (i:=i) (k:=k) e3 (by rw[Qy,hx];rfl);have hi':i<es.size:=by omega
  have hk:es[i].key=.ref b:=by
   have e:=congrArg (·[i]?) e2;simp only[Qy,hb,Qv,QI hi']at e;exact QN e
  obtain⟨f0,f1,f2,f3,f4,f5⟩:=hf it (by simp);have st0:=st;rw[<-ez]at st0;refine DR.nxt st0 da hi' λh' st' sb=>?_;have I1:Inv X pins O H { s with heap:=h' }:=I.turned (t':=s.toks) (λb o hb e=>(sb.2 b hb).trans e) f0 f1 f3 f4 f5;rw[ez]at st';rw[hk];exact⟨.ref b,rfl,oH (s:={ s with heap:=h' }) st' rfl rfl (by decide) ⟨.ref b,H,I1,rfl,⟨rfl,k,v,b,hx,rfl,tb⟩,st',λb hb=>(hf b hb).1⟩⟩
 done:=by
  intro X hP hw hK hc i pins s O H E I hf st hg;subst hP hw hK;obtain⟨hz,hi⟩:=hg;obtain⟨_,da,ez,bs,e2,e3⟩:=jP I hz hd;obtain⟨f0,f1,f2,f3,f4,f5⟩:=hf it (by simp);rw[<-ez]at st;exact DR.stp (I.ok.hd hc) st da (by omega) λh' eb=>⟨rfl,I.turned (t':=s.toks) (λb o hb e=>eb b o hb e) f0 f1 f3 f4 f5⟩
 self:=λ_ _ _ _ _ st h=>DR.self st h
def xC (tl:TE):TI:=λO H R=>tl O H λx H1=>∃a o kvs,x=.ref a/\H1 a=some (.frz o (.dT kvs))/\R (tI a o kvs) H1
theorem kQ {X:Cx} {tg l:Expr} {tl:TE} (hl:PE X l tl):PI X tg l (xC tl):=by
 intro pins s O H R I h;refine thn (hl pins s O H _ I h) λv s1 ⟨x,H1,I1,r1,q1⟩=>?_;obtain⟨a,o,kvs,e,hz,q⟩:=q1;subst e;cases r1;obtain⟨y,z,es,ep,bs,e1,e2,e3⟩:=mY I1.hok (.inr ⟨o,hz⟩);obtain⟨e4,_⟩:=I1.hok a _ hz;have eo:o={ cls:=.type "dict", data:=.dict es ep }:=QN (e4.symm.trans e1);obtain⟨_,_,ez,_⟩:=jP I1 hz eo;refine DR.iter y e1 ?_;refine⟨s1.heap.objs.size,[s1.heap.objs.size],_,_,H1,rfl,I1.kept (t':=s1.toks) λb o e=>Qc _ e,lX a _ o kvs es ep eo,by rw[ez];exact Qs _ rfl,λb hb=>?_,q⟩;have e:b=s1.heap.objs.size:=by simpa using hb
 subst e;exact I1.fpOk (Qi _) (I1.hok.fresh (Qi _))
section
variable {X:Cx}
end
end L2
namespace Ht
open PySem PySem.SetTable
def itn {α:Type} (f:α->α):Nat->α->α
 | 0,x=>x
 | n+1,x=>itn f n (f x)
theorem c6 {α:Type} (f:α->α):∀(m n:Nat) (x:α),itn f (m+n) x=itn f n (itn f m x)
 | 0,n,x=>by rw[Nat.zero_add];rfl
 | m+1,n,x=>by rw[Nat.succ_add];exact c6 f m n (f x)
def Msk (m:Nat):Prop:=m=7\/m=31\/m=127\/m=511
def lp (m i:Nat):Nat:=(i*5+1+0) % (m+1)
def orb (m:Nat):Nat->Nat->List Nat
 | 0,_=>[]
 | n+1,x=>x::orb m n (lp m x)
theorem n_ {m:Nat}:∀(n x e:Nat),e∈orb m n x->∃d,d<n/\itn (lp m) d x=e
 | 0,_,_,h=>nomatch h
 | n+1,x,e,h=>by
  rcases Qw.mp h with h|h
  ·exact⟨0,Nat.succ_pos _,h.symm⟩
  obtain⟨d,hd,q⟩:=n_ n (lp m x) e h;exact⟨d+1,Nat.succ_lt_succ hd,q⟩
variable {m s e j i:Nat}
theorem CN (hm:Msk m):(∀e,e<m+1->∃d,d<m+1/\itn (lp m) d 0=e)/\itn (lp m) (m+1) 0=0:=by
 rcases hm with rfl|rfl|rfl|rfl
 ·exact⟨by decide +kernel,by decide +kernel⟩
 ·exact⟨by decide +kernel,by decide +kernel⟩
 ·exact⟨by decide +kernel,by decide +kernel⟩
 refine⟨λe he=>n_ 512 0 e ?_,by decide +kernel⟩;have h:(List.range 512).all (λe=>(orb 511 512 0).elem e)=true:=by decide +kernel
 exact List.elem_iff.mp (XS.mp h e (List.mem_range.mpr he))
theorem cyc (hm:Msk m) (hs:s<m+1) (he:e<m+1):∃d,d<m+1/\itn (lp m) d s=e:=by
 obtain⟨all,z⟩:=CN hm;obtain⟨a,ha,rfl⟩:=all s hs;obtain⟨b,hb,rfl⟩:=all e he;by_cases c:a<=b
 ·exact⟨b-a,by omega,by rw[<-c6];congr 1;omega⟩
 refine⟨b+(m+1)-a,by omega,?_⟩;rw[<-c6,show a+(b+(m+1)-a)=(m+1)+b by omega,c6,z]
def lps (m:Nat) (x:Nat × Nat):Nat × Nat:=leap m x.1 x.2
theorem oA (m:Nat):∀n x,(itn (lps m) n x).2=x.2 / 32 ^ n
 | 0,x=>by simp[itn]
 | n+1,x=>by
  show (itn (lps m) n (lps m x)).2=_;rw[oA m n];show x.2 / 32 / 32 ^ n=_;rw[Nat.div_div_eq_div_mul,Nat.pow_succ,Nat.mul_comm]
theorem lC (m:Nat):∀n i,itn (lps m) n (i,0)=(itn (lp m) n i,0)
 | 0,i=>rfl
 | n+1,i=>by
  show itn (lps m) n (lps m (i,0))=_;rw[show lps m (i,0)=(lp m i,0) by simp[lps,leap,lp]];exact lC m n (lp m i)
theorem sf {m:Nat}:∀n x,x.1<m+1->(itn (lps m) n x).1<m+1
 | 0,x,h=>h
 | n+1,x,h=>sf n (lps m x) (Nat.mod_lt _ (Nat.succ_pos _))
theorem vW {x:Nat × Nat} (hm:Msk m) (h1:x.1<m+1) (h2:x.2<2 ^ 64) (he:e<m+1):∃n,n<m+14/\(itn (lps m) n x).1=e:=by
 have z:(itn (lps m) 13 x).2=0:=by rw[oA];exact Nat.div_eq_of_lt (Nat.lt_trans h2 (by decide))
 have l:=sf (m:=m) 13 x h1;obtain⟨d,hd,ed⟩:=cyc hm l he;refine⟨13+d,by omega,?_⟩;rw[c6,show itn (lps m) 13 x=((itn (lps m) 13 x).1,0) from by rw[<-z],lC];exact ed
def adv (m:Nat) (p:Probe):Probe:=if p.more>0 then { p with j:=p.j+1,more:=p.more-1 } else let (i,perturb):=leap m p.i p.perturb;{ p with j:=i,more:=runEnd m i-i,i,perturb }
def beg (m:Nat) (x:Nat × Nat):Probe:={ j:=x.1,more:=runEnd m x.1-x.1,i:=x.1,perturb:=x.2,dummy:=none }
theorem qS (t:SetTable) (h:Int):t.probeStart h=beg t.mask (bits h % (t.mask+1),bits h):=rfl
theorem wC (m i:Nat):runEnd m i-i<=9:=by unfold runEnd;split <;> omega
theorem jW (m:Nat):∀(k:Nat) (p:Probe),p.more=k->p.dummy=none->itn (adv m) (k+1) p=beg m (lps m (p.i,p.perturb))
 | 0,p,h,hd=>by
  show adv m p=_;unfold adv;rw[Qn (by omega)];obtain⟨j,more,i,pe,d⟩:=p;dsimp only at hd;subst hd;rfl
 | k+1,p,h,hd=>by
  have e:adv m p={ p with j:=p.j+1,more:=p.more-1 }:=Qp (by omega);show itn (adv m) (k+1) (adv m p)=_;rw[e];exact jW m k { p with j:=p.j+1,more:=p.more-1 } (by show p.more-1=k;omega) hd
theorem jg (m:Nat):∀(n:Nat) (x:Nat × Nat),∃c,c<=10*n/\itn (adv m) c (beg m x)=beg m (itn (lps m) n x)
 | 0,x=>⟨0,Qi _,rfl⟩
 | n+1,x=>by
  obtain⟨c,hc,e⟩:=jg m n (lps m x);have r:=wC m x.1;refine⟨(beg m x).more+1+c,by show runEnd m x.1-x.1+1+c<=_;omega,?_⟩;rw[c6,jW m _ (beg m x) rfl rfl];exact e
def Emp (m:Nat) (L:Nat->Prop):Nat->Probe->Prop
 | 0,p=>¬L p.j
 | n+1,p=>L p.j/\Emp m L n (adv m p)
theorem sX {m:Nat} {L:Nat->Prop}:∀(n:Nat) (p:Probe),¬L (itn (adv m) n p).j->∃k,k<=n/\Emp m L k p
 | 0,p,h=>⟨0,Qi _,h⟩
 | n+1,p,h=>by
  by_cases c:L p.j
  ·obtain⟨k,hk,e⟩:=sX n (adv m p) h;exact⟨k+1,by omega,c,e⟩
  exact⟨0,Q0 _,c⟩
theorem qm {L:Nat->Prop} (hm:Msk m) (h:Int) (he:e<m+1) (ne:¬L e):∃n,n<10*turns m/\Emp m L n (beg m (bits h % (m+1),bits h)):=by
 have hb:bits h<2 ^ 64:=by
  unfold bits;have h1:0<=h % (2 ^ 64:Int):=Int.emod_nonneg _ (by decide);have h2:h % (2 ^ 64:Int)<2 ^ 64:=Int.emod_lt_of_pos _ (by decide);omega
 obtain⟨n,hn,ee⟩:=vW (x:=(bits h % (m+1),bits h)) hm (Nat.mod_lt _ (Nat.succ_pos _)) hb he;obtain⟨c,hc,ec⟩:=jg m n (bits h % (m+1),bits h);obtain⟨k,hk,em⟩:=sX (m:=m) (L:=L) c (beg m (bits h % (m+1),bits h)) (by rw[ec];show ¬L (itn (lps m) n _).1;rw[ee];exact ne);exact⟨k,by unfold turns;omega,em⟩
inductive Rch (m:Nat) (L:Nat->Prop):Probe->Nat->Prop
 | here (p:Probe):Rch m L p p.j
 | step {p:Probe} {j:Nat}:L p.j->Rch m L (adv m p) j->Rch m L p j
theorem Rch.mono {L L':Nat->Prop} (f:∀j,L j->L' j) {p:Probe} (h:Rch m L p j):Rch m L' p j:=by
 induction h with
 | here p=>exact .here p
 | step a _ ih=>exact .step (f _ a) ih
theorem Emp.rch {L:Nat->Prop}:∀{n:Nat} {p:Probe},Emp m L n p->Rch m L p (itn (adv m) n p).j/\¬L (itn (adv m) n p).j
 | 0,p,h=>⟨.here p,h⟩
 | n+1,p,h=>⟨.step h.1 (Emp.rch h.2).1,(Emp.rch h.2).2⟩
def jX (l:List Nat):Prop:=l.Pairwise (·<·)
variable {l js:List Nat}
theorem jX.lt (r:jX l) {k:Nat} (h:i<k) (hk:k<l.length):l[i]<l[k]:=XU.mp r i k (by omega) hk h
theorem m_ {xs:Array Nat} {j:Nat} (r:jX xs.toList):∀(f lo hi:Nat),lo<=hi->hi<=xs.size->hi-lo<=f->(∀i (h:i<xs.toList.length),i<lo->xs.toList[i]<j)->(∀i (h:i<xs.toList.length),hi<=i->j<=xs.toList[i]) ->
  below.go xs j f lo hi<=xs.size/\(∀i (h:i<xs.toList.length),i<below.go xs j f lo hi->xs.toList[i]<j)/\∀i (h:i<xs.toList.length),below.go xs j f lo hi<=i->j<=xs.toList[i]
 | 0,lo,hi,h1,h2,h3,a,b=>by
  obtain rfl:lo=hi:=by omega
  exact⟨h2,a,b⟩
 | f+1,lo,hi,h1,h2,h3,a,b=>by
  unfold below.go;by_cases c:lo<hi
  ·rw[Qp c];have hz:xs.toList.length=xs.size:=Qg;have hm:(lo+hi) / 2<xs.toList.length:=by omega
   have e:xs.getD ((lo+hi) / 2) j=xs.toList[(lo+hi) / 2]:=by
    have:(lo+hi) / 2<xs.size:=by omega
    simp[Array.getD,this]
   dsimp only;rw[e];by_cases d:xs.toList[(lo+hi) / 2]<j
   ·rw[Qp d];refine m_ r f _ hi (by omega) h2 (by omega) (λi h hx=>?_) b;by_cases z:i=(lo+hi) / 2
    ·subst z;exact d
    exact Nat.lt_trans (r.lt (show i<(lo+hi) / 2 by omega) hm) d
   rw[Qn d];refine m_ r f lo _ (by omega) (by omega) (by omega) a λi h hx=>?_;by_cases z:i=(lo+hi) / 2
   ·subst z;omega
   have:=r.lt (show (lo+hi) / 2<i by omega) h;omega
  rw[Qn c];obtain rfl:lo=hi:=by omega
  exact⟨h2,a,b⟩
theorem bel {xs:Array Nat} (j:Nat) (r:jX xs.toList):below xs j<=xs.size/\(∀i (h:i<xs.toList.length),i<below xs j->xs.toList[i]<j)/\∀i (h:i<xs.toList.length),below xs j<=i->j<=xs.toList[i] :=
 m_ r _ 0 xs.size (Q0 _) (Qi _) (by omega) (λi _ h=>absurd h (Nat.not_lt_zero _)) (λi h1 h2=>absurd h1 (by rw[Qg];omega))
theorem fF {t:SetTable} (r:jX t.place.toList) (h:t.place.toList[i]?=some j):t.slot j=.live i:=by
 obtain⟨b1,b2,b3⟩:=bel j r;obtain⟨hi,e⟩:=Qf.mp h
 have eb:below t.place j=i:=by
  by_cases c:i<below t.place j
  ·have:=b2 i hi c;omega
  by_cases d:below t.place j<i
  ·have h1:=b3 (below t.place j) (by omega) (Qi _);have h2:=r.lt d hi;omega
  omega
 unfold slot;dsimp only;rw[eb,<-Qv,h];simp
theorem me {t:SetTable} (hd:t.dummies=#[]) (h:j∉t.place.toList):t.slot j=.empty:=by
 unfold slot;dsimp only
 have n1:(t.place[below t.place j]?==some j)=false:=by
  cases c:t.place[below t.place j]? with
  | none=>rfl
  | some k =>
  have:k∈t.place.toList:=QC (by rw[Qv];exact c);have:k≠j:=λz=>h (z▸this);simpa using this
 rw[n1,hd];simp[has]
theorem lG {α:Type} (xs:Array α) (p:Nat) (x:α) (h:p<=xs.size):(insertAt xs p x).toList=xs.toList.take p++x::xs.toList.drop p:=by
 unfold insertAt;rw[QK,Array.toList_push,Array.toList_extract,Array.toList_extract];simp only[List.extract_eq_take_drop,List.drop_zero,Nat.sub_zero,Xa,List.singleton_append];congr 2;exact Q1 (by rw[Q3,Qg];exact Qi _)
structure Tb (t:SetTable) (hs:List Int):Prop where
 msk:Msk t.mask
 dum:t.dummies=#[]
 len:t.place.toList.length=hs.length
 up:jX t.place.toList
 bd:∀j∈t.place.toList,j<t.mask+1
 rch:∀q∈t.place.toList.zip hs,Rch t.mask (·∈t.place.toList) (t.probeStart q.2) q.1
variable {hs:List Int}
theorem Tb.fits {t:SetTable} (b:Tb t hs) (h:hs.length<=t.mask):t.fits hs.length=true:=by
 have:=b.len;rw[Qg]at this;simp[SetTable.fits,fill,b.dum,this,h]
theorem oI {m:Nat} (nd:l.Nodup) (h:l.length<m+1):∃e,e<m+1/\e∉l:=by
 by_cases c:∃e,e<m+1/\e∉l
 ·exact c
 exfalso
 have all:∀e,e∈List.range (m+1)->e∈l:=λe he=>by
  by_cases d:e∈l
  ·exact d
  exact absurd ⟨e,List.mem_range.mp he,d⟩ c
 have le:∀(as bs:List Nat),as.Nodup->(∀x∈as,x∈bs)->as.length<=bs.length:=by
  intro as
  induction as with
  | nil=>intro bs _ _;exact Q0 _
  | cons a as ih =>
  intro bs nd h;have ha:=h a (by simp);have:=ih (bs.erase a) (Q4.mp nd).2 λx hx=>(List.mem_erase_of_ne λe:x=a=>(Q4.mp nd).1 (e▸hx)).mpr (h x (Qo _ hx));rw[List.length_erase_of_mem ha]at this;have:=List.length_pos_of_mem ha;simp only[Q2];omega
 have:=le _ l List.nodup_range all;rw[List.length_range]at this;omega
theorem jX.nodup (r:jX l):l.Nodup:=r.imp λh=>QM h
theorem Tb.put {t:SetTable} {h:Int} (b:Tb t hs) (hj:j<t.mask+1) (nj:j∉t.place.toList) (r:Rch t.mask (·∈t.place.toList) (t.probeStart h) j) :
  ∃p,p=(t.put j).2/\p<=hs.length/\(t.put j).1.mask=t.mask/\(t.put j).1.led=t.led/\(t.put j).1.plain=t.plain/\Tb (t.put j).1 (hs.take p++h::hs.drop p):=by
 obtain⟨b1,b2,b3⟩:=bel j b.up;have lz:t.place.size=hs.length:=by rw[<-Qg];exact b.len
 have nh:has t.dummies j=false:=by rw[b.dum];simp[has]
 refine⟨below t.place j,rfl,by omega,rfl,rfl,rfl,?_⟩;have pl:(t.put j).1.place.toList=t.place.toList.take (below t.place j)++j::t.place.toList.drop (below t.place j):=lG _ _ _ b1
 have mem:∀x,x∈(t.put j).1.place.toList↔x=j\/x∈t.place.toList:=λx=>by
  rw[pl,Qj,Qw]
  conv=>rhs;rw[<-QX (below t.place j) t.place.toList,Qj]
  constructor
  ·rintro(h|h|h)
   ·exact .inr (.inl h)
   ·exact .inl h
   exact .inr (.inr h)
  rintro(h|h|h)
  ·exact .inr (.inl h)
  ·exact .inl h
  exact .inr (.inr h)
 have bl:=b.len;refine⟨b.msk,?_,?_,?_,λx hx=>?_,λq hq=>?_⟩
 ·show (if has t.dummies j=true then _ else t.dummies)=#[];rw[Qn (by rw[nh];simp)];exact b.dum
 ·rw[pl];simp only[Qh,Q2,QA,Q3];omega
 ·rw[pl];refine Q5.mpr ⟨b.up.sublist (List.take_sublist _ _),List.pairwise_cons.mpr ⟨λx hx=>?_,b.up.sublist (List.drop_sublist _ _)⟩,λx hx y hy=>?_⟩
  ·obtain⟨i,hi,e⟩:=XH hx;rw[List.getElem_drop]at e;rw[Q3]at hi;have:=b3 (below t.place j+i) (by omega) (by omega);have ne:x≠j:=λz=>nj (z▸List.mem_of_mem_drop hx);omega
  obtain⟨i,hi,e⟩:=XH hx;rw[List.getElem_take]at e;rw[QA]at hi;have h1:=b2 i (by omega) (by omega);rcases Qw.mp hy with rfl|hy
  ·omega
  obtain⟨k,hk,e2⟩:=XH hy;rw[List.getElem_drop]at e2;rw[Q3]at hk;have:=b3 (below t.place j+k) (by omega) (by omega);omega
 ·rcases(mem x).mp hx with rfl|hx
  ·exact hj
  exact b.bd x hx
 have up:∀x,x∈t.place.toList->x∈(t.put j).1.place.toList:=λx hx=>(mem x).mpr (.inr hx);rw[pl,List.zip_append (by rw[QA,QA];omega),List.zip_cons_cons,Qj,Qw]at hq
 have old:∀q,q∈(t.place.toList.take (below t.place j)).zip (hs.take (below t.place j))\/q∈(t.place.toList.drop (below t.place j)).zip (hs.drop (below t.place j))->q∈t.place.toList.zip hs:=λq hq=>by
  rw[<-QX (below t.place j) t.place.toList,<-QX (below t.place j) hs,List.zip_append (by rw[QA,QA];omega),Qj];simpa using hq
 rcases hq with hq|rfl|hq
 ·exact(b.rch q (old q (.inl hq))).mono up
 ·exact r.mono up
 exact(b.rch q (old q (.inr hq))).mono up
theorem mh (h:i<m+1):i<=runEnd m i/\runEnd m i<m+1:=by unfold runEnd;split <;> omega
theorem lP {p:Probe} (h:p.more>0):adv m p={ p with j:=p.j+1,more:=p.more-1 }:=Qp h
theorem qZ {m:Nat} {L:Nat->Prop}:∀(k:Nat) (p:Probe),k<=p.more->(∀d,d<k->L (p.j+d))->Rch m L p (p.j+k)
 | 0,p,_,_=>.here p
 | k+1,p,h,a=>by
  refine .step (a 0 (by omega)) ?_;rw[lP (by omega),show p.j+(k+1)=p.j+1+k by omega];exact qZ k { p with j:=p.j+1,more:=p.more-1 } (by show k<=p.more-1;omega) λd hd=>by have:=a (d+1) (by omega);rw[show p.j+(d+1)=p.j+1+d by omega]at this;exact this
theorem q_ {m j:Nat} {L:Nat->Prop}:∀(k:Nat) (p:Probe),p.more=k->p.dummy=none->(∀d,d<=k->L (p.j+d))->Rch m L (beg m (lps m (p.i,p.perturb))) j->Rch m L p j
 | 0,p,h,hd,a,r=>by
  refine .step (a 0 (Qi _)) ?_;have:=jW m 0 p h hd;rw[show itn (adv m) (0+1) p=adv m p from rfl]at this;rw[this];exact r
 | k+1,p,h,hd,a,r=>by
  refine .step (a 0 (Q0 _)) ?_;rw[lP (by omega)];exact q_ k { p with j:=p.j+1,more:=p.more-1 } (by show p.more-1=k;omega) hd (λd hd=>by have:=a (d+1) (by omega);rw[show p.j+(d+1)=p.j+1+d by omega]at this;exact this) r
def Ln (m:Nat) (owner:Array (Option Nat)) (j:Nat):Prop:=j<m+1/\owner.getD j none≠none
theorem vV {m e:Nat} {owner:Array (Option Nat)} (ho:owner.size=m+1) (he:e<m+1) (ee:owner.getD e none=none):∀(f i per:Nat),i<m+1->(∃n,n<f/\(itn (lps m) n (i,per)).1=e) ->
  ∃j,layClean.free m owner f i per=some j/\j<m+1/\owner.getD j none=none/\Rch m (Ln m owner) (beg m (i,per)) j
 | 0,i,per,hi,⟨n,hn,_⟩=>absurd hn (Nat.not_lt_zero _)
 | f+1,i,per,hi,⟨n,hn,en⟩=>by
  obtain⟨r1,r2⟩:=mh hi
  have gd:∀j,j<m+1->owner.getD j (some 0)=owner.getD j none:=λj hj=>by
   have:j<owner.size:=by omega
   simp[Array.getD,this]
  unfold layClean.free
  cases c:(List.range (runEnd m i+1-i)).find? λk=>(owner.getD (i+k) (some 0)).isNone with
  | some k =>
   obtain⟨h1,as,bs,h2,h3⟩:=List.find?_eq_some_iff_append.mp c;have hk:k∈List.range (runEnd m i+1-i):=List.mem_of_find?_eq_some c;rw[List.mem_range]at hk;have kl:i+k<m+1:=by omega
   rw[gd _ kl]at h1;refine⟨i+k,rfl,kl,by simpa using h1,?_⟩;refine qZ (m:=m) (L:=Ln m owner) k (beg m (i,per)) (by show k<=runEnd m i-i;omega) λd hd=>?_;have hd2:i+d<m+1:=by omega
   refine⟨hd2,λz=>?_⟩;have z:owner.getD (i+d) none=none:=z
   have mem:d∈as:=by
    have e1:d∈as++k::bs:=by rw[<-h2,List.mem_range];omega
    rcases Qj.mp e1 with q|q
    ·exact q
    exfalso;have sr:(as++k::bs).Pairwise (·<·):=by rw[<-h2];exact List.pairwise_lt_range
    have:=(List.pairwise_cons.mp (Q5.mp sr).2.1).1;rcases Qw.mp q with rfl|q
    ·omega
    have:=this d q;omega
   have:=h3 d mem;rw[gd _ hd2,z]at this;simp at this
  | none =>
  have all:∀d,d<=runEnd m i-i->Ln m owner (i+d):=λd hd=>by
   have hd2:i+d<m+1:=by omega
   refine⟨hd2,λz=>?_⟩;have:=List.find?_eq_none.mp c d (List.mem_range.mpr (by omega));rw[gd _ hd2,z]at this;simp at this
  cases n with
  | zero=>exact absurd ee (by have:=all 0 (Q0 _);rw[show e=i+0 from en.symm];exact this.2)
  | succ n =>
  obtain⟨j,q1,q2,q3,q4⟩:=vV ho he ee f (lps m (i,per)).1 (lps m (i,per)).2 (Nat.mod_lt _ (Nat.succ_pos _)) ⟨n,by omega,en⟩;exact⟨j,q1,q2,q3,q_ _ (beg m (i,per)) rfl rfl all q4⟩
structure Lay (m:Nat) (owner:Array (Option Nat)) (js:List Nat) (hs:List Int):Prop where
 sz:owner.size=m+1
 len:js.length=hs.length
 nd:js.Nodup
 bd:∀j∈js,j<m+1
 own:∀j i,j<m+1->(owner.getD j none=some i↔js[i]?=some j)
 rch:∀q∈js.zip hs,Rch m (·∈js) (beg m (bits q.2 % (m+1),bits q.2)) q.1
theorem uY (h:Int):bits h<2 ^ 64:=by
 unfold bits;have h1:0<=h % (2 ^ 64:Int):=Int.emod_nonneg _ (by decide);have h2:h % (2 ^ 64:Int)<2 ^ 64:=Int.emod_lt_of_pos _ (by decide);omega
theorem Lay.more {owner:Array (Option Nat)} (hm:Msk m) (l:Lay m owner js hs) (h:Int) (fw:hs.length<m+1) :
  ∃j,layClean.free m owner (turns m) (bits h % (m+1)) (bits h)=some j/\Lay m (owner.setIfInBounds j (some hs.length)) (js++[j]) (hs++[h]):=by
 obtain⟨e,he,ne⟩:=oI l.nd (by rw[l.len];exact fw)
 have none_of:∀j,j<m+1->j∉js->owner.getD j none=none:=λj hj nj=>by
  cases c:owner.getD j none with
  | none=>rfl
  | some i=>exact absurd (QC ((l.own j i hj).mp c)) nj
 obtain⟨n,hn,en⟩:=vW (x:=(bits h % (m+1),bits h)) hm (Nat.mod_lt _ (Nat.succ_pos _)) (uY h) he;obtain⟨j,f1,f2,f3,f4⟩:=vV l.sz he (none_of e he ne) (turns m) (bits h % (m+1)) (bits h) (Nat.mod_lt _ (Nat.succ_pos _)) ⟨n,by unfold turns;omega,en⟩
 have mem_of:∀j,Ln m owner j->j∈js:=λj ⟨a,b⟩=>by
  cases c:owner.getD j none with
  | none=>exact absurd c b
  | some i=>exact QC ((l.own j i a).mp c)
 have nj:j∉js:=λz=>by
  obtain⟨i,hi,e⟩:=XH z;rw[(l.own j i f2).mpr (by rw[Qd hi,e])]at f3;cases f3
 have up:∀x,x∈js->x∈js++[j]:=λx hx=>QH _ hx;refine⟨j,f1,by simp[l.sz],by simp[l.len],?_,λx hx=>?_,λx i hx=>?_,λq hq=>?_⟩
 ·exact Xj.mpr ⟨l.nd,by simp,λa ha b hb e=>nj (by simp at hb;rw[<-hb,<-e];exact ha)⟩
 ·rcases Qj.mp hx with hx|hx
  ·exact l.bd x hx
  simp at hx;rw[hx];exact f2
 ·have hj:j<owner.size:=by rw[l.sz];exact f2
  have gd:(owner.setIfInBounds j (some hs.length)).getD x none=if j=x then some hs.length else owner.getD x none:=by
   rw[Array.getD_eq_getD_getElem?,Array.getElem?_setIfInBounds];by_cases c:j=x
   ·subst c;simp[hj]
   rw[Qn c,Qn c,Array.getD_eq_getD_getElem?]
  rw[gd];by_cases c:j=x
  ·subst c;rw[Qp rfl]
   constructor
   ·intro z;cases z;rw[<-l.len,QZ (Qi _)];simp
   intro z;by_cases d:i<js.length
   ·rw[Xd d]at z;exact absurd (QC z) nj
   have:=(Qf.mp z).1;rw[Qh,XY]at this;rw[show i=js.length by omega,l.len]
  rw[Qn c,l.own x i hx];by_cases d:i<js.length
  ·rw[Xd d]
  rw[List.getElem?_eq_none (by omega),QZ (by omega)]
  constructor
  ·intro z;cases z
  intro z;have:=QC z;simp at this;exact absurd this.symm c
 rw[List.zip_append l.len,Qj]at hq;rcases hq with hq|hq
 ·exact(l.rch q hq).mono up
 simp at hq;subst hq;exact(f4.mono mem_of).mono up
theorem lE {m:Nat} (hm:Msk m):∀(more hs:List Int) (owner:Array (Option Nat)) (js:List Nat),Lay m owner js hs->hs.length+more.length<=m+1 ->
  ∃owner' js',more.foldl (λ(acc:Option (Array (Option Nat) × Nat)) h=>do
   let (owner,k) <-acc;let j <-layClean.free m owner (turns m) (bits h % (m+1)) (bits h)
   pure (owner.setIfInBounds j (some k),k+1)) (some (owner,hs.length))=some (owner',(hs++more).length)/\Lay m owner' js' (hs++more)
 | [],hs,owner,js,l,_=>⟨owner,js,by simp,by simpa using l⟩
 | h::more,hs,owner,js,l,z=>by
  rw[Q2]at z;obtain⟨j,e,l'⟩:=l.more hm h (by omega);obtain⟨o',js',e2,l2⟩:=lE hm more (hs++[h]) _ _ l' (by simp;omega);refine⟨o',js',?_,by simpa using l2⟩;rw[List.foldl_cons]
  have st:(do
    let (owner,k) <-some (owner,hs.length);let j <-layClean.free m owner (turns m) (bits h % (m+1)) (bits h)
    pure (owner.setIfInBounds j (some k),k+1):Option (Array (Option Nat) × Nat))=some (owner.setIfInBounds j (some hs.length),(hs++[h]).length):=by
   show (layClean.free m owner (turns m) (bits h % (m+1)) (bits h)).bind _=_;rw[e];simp
  rw[st,e2];simp
theorem pX (hm:Msk m) (hs:Array Int) (fw:hs.size<=m+1):∃owner js,layClean m hs=some owner/\Lay m owner js hs.toList:=by
 have l0:Lay m (Array.replicate (m+1) none) [] []:=⟨by simp,rfl,List.nodup_nil,λj h=>(nomatch h),λj i hj=>by simp[Array.getD,hj],λq hq=>(nomatch hq)⟩;obtain⟨o,js,e,l⟩:=lE hm hs.toList [] _ _ l0 (by simpa using fw);refine⟨o,js,?_,by simpa using l⟩;unfold layClean;rw[<-Array.foldl_toList];have e':=congrArg (Option.map (·.1)) e;exact e'
theorem r8 {α:Type} [DecidableEq α]:∀(as bs:List α),as.Nodup->(∀x∈as,x∈bs)->as.length<=bs.length
 | [],_,_,_=>Q0 _
 | a::as,bs,nd,h=>by
  have ha:=h a (by simp);have:=r8 as (bs.erase a) (Q4.mp nd).2 λx hx=>(List.mem_erase_of_ne λe:x=a=>(Q4.mp nd).1 (e▸hx)).mpr (h x (Qo _ hx));rw[List.length_erase_of_mem ha]at this;have:=List.length_pos_of_mem ha;simp only[Q2];omega
theorem oq {α:Type} [DecidableEq α]:∀(as bs:List α),as.Nodup->(∀x∈as,x∈bs)->bs.length<=as.length->as.Perm bs
 | [],bs,_,_,h=>by
  obtain rfl:bs=[]:=List.length_eq_zero_iff.mp (by simpa using h);exact .nil
 | a::as,bs,nd,h,z=>by
  obtain⟨n1,n2⟩:=Q4.mp nd;have ha:=h a (by simp);have q:=oq as (bs.erase a) n2 (λx hx=>(List.mem_erase_of_ne λ(e:x=a)=>n1 (e▸hx)).mpr (h x (Qo _ hx))) (by rw[List.length_erase_of_mem ha];simp at z;omega);exact(q.cons a).trans (List.perm_cons_erase ha).symm
theorem Bi {α:Type} [DecidableEq α] {as bs:List α} (n1:as.Nodup) (n2:bs.Nodup) (h:∀x,x∈as↔x∈bs):as.Perm bs:=oq as bs n1 (λx=>(h x).mp) (r8 bs as n2 λx=>(h x).mpr)
theorem Bp {α:Type} (hm:Msk m) (es:Array (Int × α)) (fw:es.size<=m+1) (finger moves:Nat) (led plain:Bool):∃t order,laid m finger moves led plain (es.map (·.1))=some (t,order)/\t.mask=m/\t.led=led/\t.plain=plain /\
  (order.filterMap (es[·]?)).toList.Perm es.toList/\Tb t ((order.filterMap (es[·]?)).toList.map (·.1)):=by
 obtain⟨owner,js,e,l⟩:=pX hm (es.map (·.1)) (by simpa using fw);rw[Array.toList_map]at l;have ll:js.length=es.size:=by have:=l.len;rwa [Qb,Qg]at this
 let live:=(List.range (m+1)).filterMap λj=>(owner.getD j none).map (j,·)
 have mem:∀j i,(j,i)∈live↔j<m+1/\js[i]?=some j:=λj i=>by
  show (j,i)∈(List.range (m+1)).filterMap _↔_;rw[List.mem_filterMap]
  constructor
  ·rintro⟨x,hx,z⟩;obtain⟨y,hy,z⟩:=Xy.mp z;cases z;have hx:=List.mem_range.mp hx;exact⟨hx,(l.own j i hx).mp hy⟩
  rintro⟨h1,h2⟩;exact⟨j,List.mem_range.mpr h1,by rw[(l.own j i h1).mpr h2];rfl⟩
 have f1:live.map (·.1)=(List.range (m+1)).filter λj=>(owner.getD j none).isSome:=by
  show ((List.range (m+1)).filterMap _).map _=_;generalize List.range (m+1)=r
  induction r with
  | nil=>rfl
  | cons x r ih =>
  cases c:owner.getD x none with
  | none=>rw[List.filterMap_cons_none (by rw[c];rfl),ih,List.filter_cons_of_neg (by rw[c];simp)]
  | some i=>rw[List.filterMap_cons_some (by rw[c];rfl),Qu,ih,List.filter_cons_of_pos (by rw[c];rfl)]
 have up:jX (live.map (·.1)):=by rw[f1];exact List.pairwise_lt_range.sublist List.filter_sublist
 have ms:∀j,j∈live.map (·.1)↔j∈js:=λj=>by
  rw[Qr]
  constructor
  ·rintro⟨⟨x,i⟩,h,rfl⟩;exact QC ((mem x i).mp h).2
  intro h;obtain⟨i,hi,ei⟩:=XH h;exact⟨(j,i),(mem j i).mpr ⟨l.bd j h,by rw[Qd hi,ei]⟩,rfl⟩
 have inj:∀q∈live,∀r∈live,q.2=r.2->q=r:=λ⟨j,i⟩ hq ⟨j',i'⟩ hr z=>by
  cases z;have h1:=((mem j i).mp hq).2;have h2:=((mem j' i).mp hr).2;rw[h1]at h2;cases h2;rfl
 have ndl:live.Nodup:=by
  have:(live.map (·.1)).Nodup:=up.nodup;rw[List.nodup_iff_pairwise_ne,Xs]at this;exact List.nodup_iff_pairwise_ne.mpr (this.imp λh z=>h (by rw[z]))
 have nd2:(live.map (·.2)).Nodup:=by
  rw[List.nodup_iff_pairwise_ne]at ndl ⊢;rw[Xs];exact ndl.imp_of_mem λha hb ne z=>ne (inj _ ha _ hb z)
 have pr:(live.map (·.2)).Perm (List.range es.size):=Bi nd2 List.nodup_range λi=>by
  rw[Qr,List.mem_range]
  constructor
  ·rintro⟨⟨j,k⟩,h,rfl⟩;have:=(Qf.mp ((mem j k).mp h).2).1;show k<_;omega
  intro h;have hi:i<js.length:=by omega
  exact⟨(js[i],i),(mem _ _).mpr ⟨l.bd _ (XT hi),Qd hi⟩,rfl⟩
 refine⟨{ mask:=m,place:=(live.map (·.1)).toArray,dummies:=#[],finger,led,moves,plain },(live.map (·.2)).toArray,?_,rfl,rfl,rfl,?_,?_⟩
 ·unfold laid;rw[e];rfl
 ·rw[Array.toList_filterMap];refine(pr.filterMap _).trans (.of_eq ?_);refine List.ext_getElem? λi=>?_
  have:∀n k,n<=es.size->((List.range n).filterMap (es[·]?))[k]?=if k<n then es[k]? else none:=by
   intro n
   induction n with
   | zero=>intro k _;simp
   | succ n ih =>
   intro k hn
   have ln:((List.range n).filterMap (es[·]?)).length=n:=by
    have h1:=ih n (by omega);rw[Qn (Nat.lt_irrefl _)]at h1;have h1:=List.getElem?_eq_none_iff.mp h1;by_cases c:n=0
    ·subst c;rfl
    have h2:=ih (n-1) (by omega);rw[Qp (by omega),QI (show n-1<es.size by omega)]at h2;have:=(Qf.mp h2).1;omega
   rw[List.range_succ,List.filterMap_append,List.filterMap_cons_some (QI (show n<es.size by omega)),List.filterMap_nil];by_cases c:k<n
   ·rw[Xd (by omega),ih k (by omega),Qp c,Qp (by omega)]
   rw[QZ (by omega),ln];by_cases d:k=n
   ·subst d;simp <;> omega
   rw[Qn (by omega),List.getElem?_eq_none (by simp;omega)]
  rw[this _ _ (Qi _),Qv]
  split
  ·rfl
  rename_i h;rw[Array.getElem?_eq_none (by omega)]
 have fm:((live.map (·.2)).toArray.filterMap (es[·]?)).toList.map (·.1)=live.map λq=>(es.toList.map (·.1)).getD q.2 0:=by
  rw[Array.toList_filterMap];show ((live.map (·.2)).filterMap (es[·]?)).map (·.1)=_
  have all:∀q∈live,q.2<es.size:=λ⟨j,k⟩ h=>by
   have:=(Qf.mp ((mem j k).mp h).2).1;show k<_;omega
  generalize live=lv at all
  induction lv with
  | nil=>rfl
  | cons q lv ih =>
  have hq:=all q (by simp);rw[Qu,List.filterMap_cons_some (QI hq),Qu,Qu,ih λr hr=>all r (Qo _ hr)];congr 1;rw[QQ,Qy,Qv,QI hq];rfl
 rw[fm];refine⟨hm,rfl,by simp,by simpa using up,λj hj=>?_,λq hq=>?_⟩
 ·have hj:j∈live.map (·.1):=by simpa using hj
  exact l.bd j ((ms j).mp hj)
 have hq:q∈(live.map (·.1)).zip (live.map λq=>(es.toList.map (·.1)).getD q.2 0):=by simpa using hq
 rw[List.zip_map',Qr]at hq;obtain⟨⟨j,i⟩,h1,rfl⟩:=hq;obtain⟨h2,h3⟩:=(mem j i).mp h1;have hi:=(Qf.mp h3).1
 have z:(j,(es.toList.map (·.1)).getD i 0)∈js.zip (es.toList.map (·.1)):=by
  have hz:i<(es.toList.map (·.1)).length:=by rw[<-l.len];exact hi
  refine QC (i:=i) ?_;rw[XV];exact⟨h3,by rw[QQ,Qd hz];rfl⟩
 refine(l.rch _ z).mono λx hx=>?_;have:=(ms x).mpr hx;simpa using this
end Ht
namespace Ht
open PySem PySem.Spec PyProof.Rows L2 PySem.SetTable
section
variable {prog:Program} {w:World} {A:Around} {E:C9} {s:Shared}
theorem i3 {α:Type} {P:α->Prop} {Q:Option Bool × PUnit->Shared->Prop} {f:α->Option Bool × PUnit->Sem (ForInStep (Option Bool × PUnit))} (l:List α) (hl:∀x∈l,P x)
  (hf:∀x,P x->∀(R:ForInStep (Option Bool × PUnit)->Shared->Prop),R (.yield (none,⟨⟩)) s->wpAny (model prog w) A (f x (none,⟨⟩)) R E s) (h:Q (none,⟨⟩) s):wpAny (model prog w) A (forIn l (none,⟨⟩) f) Q E s:=by
 refine wpAny_forIn_list _ (λrest r s'=>r=(none,⟨⟩)/\s'=s/\∀x∈rest,P x) _ ?_ ?_ _ _ ⟨rfl,rfl,hl⟩
 ·rintro x rest r s' ⟨rfl,rfl,a⟩;exact hf x (a x (by simp)) _ ⟨rfl,rfl,λy hy=>a y (Qo _ hy)⟩
 rintro r s' ⟨rfl,rfl,_⟩;exact h
variable {v:Value}
theorem uO {k:Key} (h:(ax prog w).is k v=true):(∃i t,v=.int i t)\/∃x t,v=.str x t:=by
 rcases aK (show dh k v=true from h) with⟨i,t,_,e⟩|⟨x,t,_,e⟩
 ·exact .inl ⟨i,t,e⟩
 exact .inr ⟨x,t,e⟩
variable {vs:List Value}
theorem uQ {ks:List Key} (h:ItemsAre (ax prog w) ks vs):∀v∈vs,∃k,(ax prog w).is k v=true:=by
 induction h with
 | nil=>intro v hv;cases hv
 | cons q _ ih =>
 intro v hv;rcases Qw.mp hv with rfl|hv
 ·exact⟨_,q⟩
 exact ih v hv
theorem sF {h:Heap} {ks:ay} (x:TK.Its (ax prog w) h ks vs):∀v∈vs,∃k,TK.It (ax prog w) h k v:=by
 induction x with
 | nil=>intro v hv;cases hv
 | cons q _ ih =>
 intro v hv;rcases Qw.mp hv with rfl|hv
 ·exact⟨_,q⟩
 exact ih v hv
variable {Q:Bool->Shared->Prop}
theorem iV {k:Key} {d:Nat} (hk:(ax prog w).is k v=true) (h:Q false s):wpAny (model prog w) A (ofAClassStatement d v) Q E s:=by
 rcases uO hk with⟨i,t,rfl⟩|⟨x,t,rfl⟩ <;> (unfold ofAClassStatement;exact Qe h)
variable {b:Addr}
theorem iW {o:Obj} {its:Array Value} {n d:Nat} {P:Value->Prop} (ho:s.heap.get? b=some o) (hc:o.cls=.type "tuple") (hd:o.data=.seq its n) (hp:∀v∈its.toList,P v)
  (hf:∀v,P v->∀(R:Bool->Shared->Prop),R false s->wpAny (model prog w) A (ofAClassStatement d v) R E s) (h:Q false s):wpAny (model prog w) A (ofAClassStatement (d+1) (.ref b)) Q E s:=by
 unfold ofAClassStatement;refine Qa (wpAny_typeOf (T := "tuple") ⟨o,ho,hc⟩ ?_);dsimp only;rw[Qp (by decide)];refine Qa (Qe ?_);rw[Qn (by decide)];unfold seqItems?;refine Qa (Qa (wpAny_load ho ?_));rw[hd];refine Qe ?_;dsimp only;refine Qa ?_;rw[<-Array.forIn_toList];refine i3 its.toList hp (λv hv R hR=>Qa (hf v hv _ ?_)) ?_
 ·rw[Qn Qk];exact Qe hR
 exact Qe h
theorem on {k:ay} (hk:TK.IsT (ax prog w) s.heap k b) (h:Q false s):wpAny (model prog w) A (ofAClassStatement 8 (.ref b)) Q E s:=by
 obtain⟨o,its,n,h1,h2,h3,h4⟩:=hk;refine iW (d:=7) h1 h2 h3 (sF h4) (λv ⟨k,hv⟩ R hR=>?_) h
 cases k with
 | inl k=>exact iV hv hR
 | inr ks =>
 obtain⟨c,rfl,o,its,n,h1,h2,h3,h4⟩:=hv;exact iW (d:=6) h1 h2 h3 (uQ h4) (λv ⟨k,hv⟩ R hR=>iV hv hR) hR
def xJ:Key->Bool
 | .inl _=>true
 | .inr _=>false
def xI:Key ⊕ List Key->Bool
 | .inl k=>xJ k
 | .inr ks=>ks.all xJ
theorem vX {k:Key} {d:Nat} (hk:(ax prog w).is k v=true) (h:Q (xJ k) s):wpAny (model prog w) A (hashByValue d v) Q E s:=by
 rcases aK (show dh k v=true from hk) with⟨i,t,rfl,rfl⟩|⟨x,t,rfl,rfl⟩ <;> (unfold hashByValue;exact Qe h)
theorem vY {α:Type} {o:Obj} {its:Array Value} {n d:Nat} {P:α->Value->Prop} {g:α->Bool} {xs:List α} (ho:s.heap.get? b=some o) (hc:o.cls=.type "tuple") (hd:o.data=.seq its n) (hp:Paired P xs its.toList)
  (hf:∀x v,P x v->∀(R:Bool->Shared->Prop),R (g x) s->wpAny (model prog w) A (hashByValue d v) R E s) (h:Q (xs.all g) s):wpAny (model prog w) A (hashByValue (d+1) (.ref b)) Q E s:=by
 unfold hashByValue;refine Qa (wpAny_specialOf (T := "tuple") ⟨o,ho,hc⟩ F.slot_tuple_hash.lookup ?_);dsimp only;unfold seqItems?;refine Qa (Qa (wpAny_load ho ?_));rw[hd];refine Qe ?_;refine Qa ?_;rw[Option.getD_some,<-Array.forIn_toList];refine wpAny_forIn_list _ (λrest r s'=>r.1=none/\s'=s/\∃ys,Paired P ys rest/\xs.all g=ys.all g) _ ?_ ?_ _ _ ⟨rfl,rfl,xs,hp,rfl⟩
 ·rintro x rest r s' ⟨_,rfl,ys,a,e⟩
  cases a with
  | @cons y _ ys _ q t =>
  refine Qa (hf y x q _ ?_);rw[List.all_cons]at e
  cases c:g y with
  | true=>rw[c,Bool.true_and]at e;exact Qe ⟨rfl,rfl,ys,t,e⟩
  | false=>rw[c,Bool.false_and]at e;rw[e]at h;exact Qe (Qe h)
 rintro⟨r1,r2⟩ s' ⟨hr,rfl,ys,a,e⟩;dsimp only at hr;subst hr;cases a;rw[e]at h;exact Qe h
theorem xt {ks:List Key} (h:ItemsAre (ax prog w) ks vs):Paired (λk v=>(ax prog w).is k v=true) ks vs:=by
 induction h with
 | nil=>exact .nil
 | cons q _ ih=>exact .cons q ih
theorem uP {h:Heap} {ks:ay} (x:TK.Its (ax prog w) h ks vs):Paired (TK.It (ax prog w) h) ks vs:=by
 induction x with
 | nil=>exact .nil
 | cons q _ ih=>exact .cons q ih
theorem byv {k:ay} (hk:TK.IsT (ax prog w) s.heap k b) (h:Q (k.all xI) s):wpAny (model prog w) A (hashByValue 8 (.ref b)) Q E s:=by
 obtain⟨o,its,n,h1,h2,h3,h4⟩:=hk;refine vY (d:=7) h1 h2 h3 (uP h4) (λk v hv R hR=>?_) h
 cases k with
 | inl k=>exact vX hv hR
 | inr ks =>
 obtain⟨c,rfl,o,its,n,h1,h2,h3,h4⟩:=hv;exact vY (d:=6) h1 h2 h3 (xt h4) (λk v hv R hR=>vX hv hR) hR
end
theorem vU {t:SetTable} {hs:List Int} {f:Nat->Int} {h:Int} (b:Tb t hs):∀(n:Nat) (p:Probe) (fu:Nat),Emp t.mask (·∈t.place.toList) n p->n<fu->p.dummy=none ->
  (probe.go t f h fu p=some (.empty (itn (adv t.mask) n p).j none)/\∀d,d<n->∀i,t.place.toList[i]?=some (itn (adv t.mask) d p).j->f i≠h) \/
  ∃d i,d<n/\t.place.toList[i]?=some (itn (adv t.mask) d p).j/\f i=h/\probe.go t f h fu p=some (.candidate (itn (adv t.mask) d p).j i (itn (adv t.mask) (d+1) p))/\Emp t.mask (·∈t.place.toList) (n-(d+1)) (itn (adv t.mask) (d+1) p) /\
   (itn (adv t.mask) (d+1) p).dummy=none/\∀d',d'<d->∀i',t.place.toList[i']?=some (itn (adv t.mask) d' p).j->f i'≠h
 | 0,p,fu+1,e,_,hd=>by
  refine .inl ⟨?_,λd hd=>absurd hd (Nat.not_lt_zero _)⟩;unfold probe.go;rw[me b.dum e];show some (Met.empty p.j p.dummy)=_;rw[hd];rfl
 | n+1,p,fu+1,e,hn,hd=>by
  obtain⟨i,hi,ei⟩:=XH e.1;have ei:t.place.toList[i]?=some p.j:=by rw[Qd hi,ei]
  have hd':(adv t.mask p).dummy=none:=by unfold adv;split <;> exact hd
  by_cases c:f i=h
  ·refine .inr ⟨0,i,by omega,ei,c,?_,e.2,hd',λd' hd=>absurd hd (Nat.not_lt_zero _)⟩;unfold probe.go;rw[fF b.up ei];dsimp only;rw[Qp (by simpa using c)];rfl
  have st:probe.go t f h (fu+1) p=probe.go t f h fu (adv t.mask p):=by
   conv=>lhs;unfold probe.go
   rw[fF b.up ei];dsimp only;rw[Qn (by simpa using c)];rfl
  have one:∀i',t.place.toList[i']?=some p.j->i'=i:=λi' z=>by
   have:=(List.getElem?_inj hi b.up.nodup).mp (ei.trans z.symm);exact this.symm
  rcases vU b n (adv t.mask p) fu e.2 (by omega) hd' with⟨g1,g2⟩|⟨d,i2,g1,g2,g3,g4,g5,g6,g7⟩
  ·refine .inl ⟨by rw[st];exact g1,λd hd=>?_⟩
   cases d with
   | zero=>intro i' z;rw[one i' z];exact c
   | succ d=>exact g2 d (by omega)
  refine .inr ⟨d+1,i2,by omega,g2,g3,by rw[st];exact g4,by rw[show n+1-(d+1+1)=n-(d+1) by omega];exact g5,g6,λd' hd=>?_⟩
  cases d' with
  | zero=>intro i' z;rw[one i' z];exact c
  | succ d'=>exact g7 d' (by omega)
section
variable {prog:Program} {w:World}
def El (prog:Program) (w:World) (B:Addr->Prop) (h:Heap) (e:Int × Value) (k:ay):Prop:=∃b,e.2=.ref b/\TK.IsT (ax prog w) h k b/\e.1=(bq prog w).hash k/\B b
abbrev t6 (es:Array (Int × Value)) (ep:Nat) (t:SetTable):Obj:={ cls:=.type "set", data:=.set es ep t }
theorem El.at {B:Addr->Prop} {h h':Heap} {a:Addr} {o:Obj} {e:Int × Value} {k:ay} (x:El prog w B h e k) (ho:h.get? a=some o) (hc:o.cls≠.type "tuple") (sb:∀b o,b≠a->h.get? b=some o->h'.get? b=some o):El prog w B h' e k:=by
 obtain⟨b,e1,e2,e3⟩:=x;exact⟨b,e1,Tm.cD e2 λc oc hc' hcl=>sb c oc (λz=>by rw[z,ho]at hc';cases hc';exact hc hcl) hc',e3⟩
theorem fj {B:Addr->Prop} {h:Heap}:∀{es:List (Int × Value)} {ks:List ay} {i:Nat},Paired (El prog w B h) es ks->∀{e},es[i]?=some e->∃k,ks[i]?=some k/\El prog w B h e k
 | _,_,_,.nil,_,e=>by simp at e
 | _,_,0,.cons r _,_,e=>by simp at e;subst e;exact⟨_,rfl,r⟩
 | _,_,i+1,.cons _ t,_,e=>by obtain⟨k,h1,h2⟩:=fj (i:=i) t (by simpa using e);exact⟨k,by simpa using h1,h2⟩
variable {A:Around} {E:C9} {s:Shared} {a b:Addr} {es:Array (Int × Value)} {ep:Nat} {t:SetTable} {ks:List ay} {kx:ay}
theorem wg {l:List Value} {Q:Bool->Shared->Prop} (hx:TK.IsT (ax prog w) s.heap kx b) (hl:∀v∈l,∃c k,v=.ref c/\TK.IsT (ax prog w) s.heap k c) (h:Q false s):wpAny (model prog w) A (searchCouldBeSeen (.ref b) l) Q E s:=by
 unfold searchCouldBeSeen;refine Qa (i3 l hl (λv ⟨c,k,e,hv⟩ R hR=>?_) (Qe h));subst e;dsimp only;refine wpAny_ite_split (λ_=>Qe hR) λ_=>?_;refine Qa (TK.t_quiet hx ?_);rw[Qn (by simp)];refine Qa (TK.t_quiet hv ?_);rw[Qn (by simp)];refine Qa (on hx ?_);rw[Qn Qk];refine Qa (on hv ?_);rw[Qn Qk];exact Qe hR
end
section
variable {prog:Program} {w:World} {A:Around} {E:C9} {s:Shared} {a b:Addr} {es:Array (Int × Value)} {ep:Nat} {t:SetTable} {ks:List ay} {kx:ay} {B:Addr->Prop}
theorem uE {m:Nat} (h:Msk m):m % 2=1:=by rcases h with rfl|rfl|rfl|rfl <;> rfl
theorem wz (hu:A.units+1<cLine) (ho:s.heap.get? a=some (t6 es ep t)) (b0:Tb t (es.toList.map (·.1))) (fw:es.size<=t.mask) (el:Paired (El prog w B s.heap) es.toList ks) (hx:TK.IsT (ax prog w) s.heap kx b) {Q:SetFound->Shared->Prop} :
  ∀(n:Nat) (p:Probe) (fu:Nat) (st:Option Probe),st.getD (t.probeStart ((bq prog w).hash kx))=p->Emp t.mask (·∈t.place.toList) n p->n<fu->n<10*turns t.mask->p.dummy=none ->
   ((∃d i:Nat,d<n/\t.place.toList[i]?=some (itn (adv t.mask) d p).j/\ks[i]?=some kx)/\Q (.there none) s\/kx∉ks/\Q (.free (itn (adv t.mask) n p).j false) s) ->
   wpAny (model prog w) A (setSearchFrom a (.ref b) ((bq prog w).hash kx) true fu st) Q E s:=by
 have hf:t.fits es.size=true:=by have:=b0.fits (by rw[Qb,Qg];exact fw);rwa [Qb,Qg]at this
 have pz:t.place.toList.length=es.toList.length:=by rw[b0.len,Qb]
 have gw:t.gaveWay=false:=by have:=uE b0.msk;simp[gaveWay,this]
 intro n
 induction n using Nat.strongRecOn with
 | _ n ih =>
 intro p fu st est e hn hn2 hd q;obtain⟨fu,rfl⟩:∃f,fu=f+1:=⟨fu-1,by omega⟩;unfold setSearchFrom;refine Qa (wpAny_setState_of ho rfl hf ?_);dsimp only;rw[gw,est];rw[Qn Qk];have go:=vU (f:=λi=>(es[i]?.map (·.1)).getD 0) (h:=(bq prog w).hash kx) b0 n p (10*turns t.mask) e hn2 hd
 have at_:∀(i:Nat) (k:ay),ks[i]?=some k->∃(e:Int × Value) (c:Addr),es[i]?=some e/\e.2=.ref c/\TK.IsT (ax prog w) s.heap k c/\(es[i]?.map (·.1)).getD 0=(bq prog w).hash k:=λi k hk=>by
  have hi:i<es.toList.length:=by rw[X8 el];exact(Qf.mp hk).1
  obtain⟨k',h1,c,h2,h3,h4⟩:=fj el (Qd hi);rw[hk]at h1;cases h1;rw[Qg]at hi;exact⟨es[i],c,QI hi,h2,h3,by rw[QI hi];exact h4.1⟩
 split
 ·rename_i met hmet
  have hmet:probe.go t (λi=>(es[i]?.map (·.1)).getD 0) ((bq prog w).hash kx) (10*turns t.mask) p=some met:=hmet;rcases go with⟨g1,g2⟩|⟨d,i,g1,g2,g3,g4,g5,g6,g7⟩
  ·rw[g1]at hmet;cases hmet;rcases q with⟨⟨d,i,h1,h2,h3⟩,_⟩|⟨_,q⟩
   ·obtain⟨_,_,_,_,_,z⟩:=at_ i kx h3;exact absurd z (g2 d h1 i h2)
   exact Qe q
  rw[g4]at hmet;cases hmet;have hi:i<es.size:=by have:=(Qf.mp g2).1;rw[<-Qg];omega
  obtain⟨k,hk,c,hc,hic,hh⟩:=fj el (i:=i) (e:=es[i]) (by rw[Qv];exact QI hi)
  have all:∀v∈List.map (λx:Int × Value=>x.2) (Array.filter (λx=>x.1==(bq prog w).hash kx) es).toList,∃c k,v=.ref c/\TK.IsT (ax prog w) s.heap k c:=λv hv=>by
   obtain⟨e,he,rfl⟩:=Qr.mp hv;rw[Array.toList_filter]at he;obtain⟨j,hj⟩:=XQ (List.mem_filter.mp he).1;obtain⟨k,_,c,h1,h2,_⟩:=fj el hj;exact⟨c,k,h1,h2⟩
  have same:t.sameMemory t.moves t.mask=some true:=by simp[sameMemory]
  refine wpAny_ite_split (λ_=>Qa (wg hx all ?_)) (λ_=>?_)
  all_goals try rw[Qn Qk]
  all_goals
   rw[QI hi];have ee:es[i]=(es[i].1,.ref c):=by rw[<-hc]
   rw[ee];dsimp only;refine Qa (QT (TK.t_eq (jG prog w) hu hic hx ?_));refine Qa (wpAny_setState_of ho rfl hf ?_);dsimp only;by_cases ck:k=kx
   ·subst ck;rw[QG rfl,Qp (show (true&&true)=true from rfl)];rcases q with⟨_,q⟩|⟨q,_⟩
    ·exact Qe q
    exact absurd (QC hk) q
   rw[QE ck,Qn (by simp),same];dsimp only;rw[Qp rfl,fF b0.up g2];dsimp only;rw[QI hi,ee];dsimp only;refine Qa (wpAny_isSame_ref_self (Qa (Qe ?_)));rw[Qp rfl];dsimp only;rw[Qn Qk];refine ih (n-(d+1)) (by omega) (itn (adv t.mask) (d+1) p) fu (some (itn (adv t.mask) (d+1) p)) rfl g5 (by omega) (by omega) g6 ?_;rcases q with⟨⟨d2,i2,h1,h2,h3⟩,q⟩|⟨q1,q2⟩
   ·refine .inl ⟨⟨d2-(d+1),i2,?_,?_,h3⟩,q⟩
    all_goals
     have:d<d2:=by
      rcases Nat.lt_trichotomy d2 d with z|z|z
      ·obtain⟨_,_,_,_,_,y⟩:=at_ i2 kx h3;exact absurd y (g7 d2 z i2 h2)
      ·subst z;have hi2:i2<t.place.toList.length:=(Qf.mp h2).1;have:=(List.getElem?_inj hi2 b0.up.nodup).mp (h2.trans g2.symm);subst this;rw[hk]at h3;exact absurd (QN h3) ck
      exact z
    ·omega
    rw[<-c6,show d+1+(d2-(d+1))=d2 by omega];exact h2
   refine .inr ⟨q1,?_⟩;rw[<-c6,show d+1+(n-(d+1))=n by omega];exact q2
 rename_i hmet
 have hmet:probe.go t (λi=>(es[i]?.map (·.1)).getD 0) ((bq prog w).hash kx) (10*turns t.mask) p=none:=by
  cases c:probe.go t (λi=>(es[i]?.map (·.1)).getD 0) ((bq prog w).hash kx) (10*turns t.mask) p with
  | none=>rfl
  | some m=>exact absurd c (hmet m)
 rcases go with⟨g1,_⟩|⟨d,i,_,_,_,g4,_⟩
 ·rw[g1]at hmet;cases hmet
 rw[g4]at hmet;cases hmet
end
theorem yf {m n j:Nat} {L:Nat->Prop} {p:Probe} (r:Rch m L p j) (hj:L j) (e:Emp m L n p):∃d,d<n/\(itn (adv m) d p).j=j:=by
 induction r generalizing n with
 | here p =>
  cases n with
  | zero=>exact absurd hj e
  | succ n=>exact⟨0,by omega,rfl⟩
 | step a _ ih =>
 cases n with
 | zero=>exact absurd a e
 | succ n=>obtain⟨d,h1,h2⟩:=ih hj e.2;exact⟨d+1,by omega,h2⟩
theorem tG {m:Nat}:∀(n:Nat) (p:Probe),p.j+p.more<m+1->(itn (adv m) n p).j<m+1
 | 0,p,h=>by show p.j<_;omega
 | n+1,p,h=>by
  refine tG n (adv m p) ?_;unfold adv
  split
  ·show p.j+1+(p.more-1)<_;omega
  have l:(leap m p.i p.perturb).1<m+1:=Nat.mod_lt _ (Nat.succ_pos _);have:=mh l;show (leap m p.i p.perturb).1+(runEnd m (leap m p.i p.perturb).1-(leap m p.i p.perturb).1)<_;omega
theorem kZ {α β:Type} {R:α->β->Prop} {as as':List α} (p:as'.Perm as):∀{bs:List β},Paired R as bs->∃bs',Paired R as' bs'/\bs'.Perm bs:=by
 induction p with
 | nil=>intro bs h;exact⟨bs,h,.refl _⟩
 | cons x _ ih=>intro bs h;cases h with
  | cons q t=>obtain⟨bs',h1,h2⟩:=ih t;exact⟨_::bs',.cons q h1,h2.cons _⟩
 | swap x y l=>intro bs h;cases h with
  | cons q t=>cases t with
   | cons q2 t2=>exact⟨_::_::_,.cons q2 (.cons q t2),.swap _ _ _⟩
 | trans _ _ ih1 ih2=>intro bs h;obtain⟨b2,h1,h2⟩:=ih2 h;obtain⟨b3,h3,h4⟩:=ih1 h1;exact⟨b3,h3,h4.trans h2⟩
theorem gS {α β:Type} {R:α->β->Prop} {x:α} {y:β} (q:R x y):∀(p:Nat) {as:List α} {bs:List β},Paired R as bs->Paired R (as.take p++x::as.drop p) (bs.take p++y::bs.drop p)
 | 0,_,_,h=>by simpa using Paired.cons q h
 | p+1,_,_,.nil=>.cons q .nil
 | p+1,_,_,.cons r t=>.cons r (gS q p t)
section
variable {prog:Program} {w:World}
def lQ (prog:Program) (w:World) (B:Addr->Prop) (h:Heap) (a:Addr) (ks:List ay):Prop:=∃(es:Array (Int × Value)) (ep:Nat) (t:SetTable) (ks':List ay),h.get? a=some (t6 es ep t)/\Paired (El prog w B h) es.toList ks'/\ks'.Perm ks/\ks.Nodup/\Tb t (es.toList.map (·.1))/\es.size*5<t.mask*3/\LS.Led w t es.size
variable {A:Around} {E:C9} {s:Shared} {a b:Addr} {ks:List ay} {k:ay} {B:Addr->Prop}
theorem BJ {Q:Bool->Shared->Prop} (hu:A.units+1<cLine) (S:lQ prog w B s.heap a ks) (hk:TK.IsT (ax prog w) s.heap k b) (tx:k.all xI=false) (hB:B b) (fw:ks.length<300)
  (h:∀h' c ks2,Heap.SameBut a s.heap h'->lQ prog w B h' a ks2->ks2.length<=ks.length+1->(∀x,x∈ks2↔x∈ks\/x=k)->Q c { s with heap:=h' }):wpAny (model prog w) A (setAddHashed a (.ref b) ((bq prog w).hash k)) Q E s:=by
 obtain⟨es,ep,t,ks',ho,el,pk,nd,b0,fe,ld⟩:=S;have lk:es.size=ks.length:=by rw[<-Qg,X8 el,pk.length_eq]
 have m7:7<=t.mask:=by rcases b0.msk with e|e|e|e <;> omega
 have fl:es.size<=t.mask:=by omega
 have hf:t.fits es.size=true:=by have:=b0.fits (by rw[Qb,Qg];exact fl);rwa [Qb,Qg]at this
 have pz:t.place.toList.length=es.toList.length:=by rw[b0.len,Qb]
 obtain⟨e0,he0,ne0⟩:=oI (m:=t.mask) b0.up.nodup (by rw[pz,Qg];omega);obtain⟨n,hn,em⟩:=qm (L:=(·∈t.place.toList)) b0.msk ((bq prog w).hash k) he0 ne0;have t127:t.mask<=511:=by rcases b0.msk with e|e|e|e <;> omega
 unfold setAddHashed setAddHashedIn;refine QT (Qa (wpAny_setState_of ho rfl hf ?_));dsimp only;rw[Qn (show ¬(byScan (.ref b) es=true) by simp[byScan,Value.scannable])];unfold setSearch;refine Qa (wz hu ho b0 fl el hk n (beg t.mask (bits ((bq prog w).hash k) % (t.mask+1),bits ((bq prog w).hash k))) 100000 none rfl em (by unfold turns at hn;omega) hn rfl ?_);by_cases c:k∈ks
 ·refine .inl ⟨?_,Qe (h s.heap false ks (Heap.SameBut.refl a s.heap) ⟨es,ep,t,ks',ho,el,pk,nd,b0,fe,ld⟩ (Nat.le_succ _) λx=>⟨.inl,λz=>z.elim id λe=>e▸c⟩)⟩;obtain⟨i,hi,ei⟩:=XH (pk.mem_iff.mpr c);have ei:ks'[i]?=some k:=by rw[Qd hi,ei]
  have hi2:i<es.toList.length:=by rw[X8 el];exact hi
  have hi3:i<t.place.toList.length:=by omega
  obtain⟨k2,h1,_,_,_,h4,_⟩:=fj el (Qd hi2);rw[ei]at h1;cases h1
  have r:=b0.rch (t.place.toList[i],es.toList[i].1) (QC (i:=i) (by
   rw[XV]
   exact⟨Qd hi3,by rw[Qy,Qd hi2];rfl⟩))
  dsimp only at r;rw[h4]at r;obtain⟨d,d1,d2⟩:=yf r (XT hi3) em;exact⟨d,i,d1,by rw[qS]at d2;rw[Qd hi3];exact congrArg some d2.symm,ei⟩
 refine .inr ⟨λz=>c (pk.mem_iff.mp z),?_⟩;obtain⟨r,nl⟩:=em.rch
 have jb:(itn (adv t.mask) n (beg t.mask (bits ((bq prog w).hash k) % (t.mask+1),bits ((bq prog w).hash k)))).j<t.mask+1:=tG n _ (by
  have l:bits ((bq prog w).hash k) % (t.mask+1)<t.mask+1:=Nat.mod_lt _ (Nat.succ_pos _);have:=mh l;show bits ((bq prog w).hash k) % (t.mask+1)+(runEnd t.mask (bits ((bq prog w).hash k) % (t.mask+1))-bits ((bq prog w).hash k) % (t.mask+1))<_
  omega)
 generalize (itn (adv t.mask) n (beg t.mask (bits ((bq prog w).hash k) % (t.mask+1),bits ((bq prog w).hash k)))).j=j at *;dsimp only;refine Qa (wpAny_setState_of ho rfl hf ?_);dsimp only;obtain⟨p,ep',p1,p2,p3,p4,b1⟩:=b0.put jb nl r;rw[<-ep'];generalize (t.put j).1=t1 at *;have lp:es.size=(es.toList.map (·.1)).length:=by simp
 rw[<-lp]at p1;have il:=lG es p ((bq prog w).hash k,Value.ref b) p1;generalize insertAt es p ((bq prog w).hash k,Value.ref b)=es1 at *;have ih1:es1.toList.map (·.1)=(es.toList.map (·.1)).take p++(bq prog w).hash k::(es.toList.map (·.1)).drop p:=by rw[il,QO,Qu,List.map_take,List.map_drop]
 rw[<-ih1]at b1;have z1:es1.size=es.size+1:=by rw[<-Qg,il];simp only[Qh,Q2,QA,Q3,Qg];omega
 have el1:Paired (El prog w B s.heap) es1.toList (ks'.take p++k::ks'.drop p):=by rw[il];exact gS ⟨b,rfl,hk,rfl,hB⟩ p el
 have pk1:(ks'.take p++k::ks'.drop p).Perm (ks++[k]):=by
  refine List.perm_middle.trans ?_;rw[QX];exact(pk.cons k).trans (List.perm_append_singleton k ks).symm
 have nd1:(ks++[k]).Nodup:=Xj.mpr ⟨nd,by simp,λx hx y hy e=>c (by simp at hy;rw[<-hy,<-e];exact hx)⟩;have mm:∀x,x∈ks++[k]↔x∈ks\/x=k:=λx=>by simp
 have fin:∀t2:SetTable,t2.mask=t.mask->Tb t2 (es1.toList.map (·.1))->LS.Led w t2 es1.size ->
   wpAny (model prog w) A (storeSet a es1 t2 >>= λ_=>if (!false&&t2.tooFull)=true then setRelay a (grown (es.size+1)) >>= λ_=>pure true else pure true) Q E s:=λt2 em b2 ld2=>by
  have fill2:t2.fill=es1.size:=by unfold SetTable.fill;have:=b2.len;rw[Qg,Qb,Qg]at this;rw[this,b2.dum];rfl
  refine Qa (wpAny_storeSet_of ho rfl ?_ (by rw[sizeLine_eq];omega));have g1:(s.heap.update a (Obj.putSet es1 t2)).get? a=some (t6 es1 (ep+1) t2):=QU (Obj.putSet es1 t2) ho rfl;have sb1:=XW s.heap a (Obj.putSet es1 t2);have elA:∀{h':Heap} {l:List (Int × Value)} {ks3:List ay},Heap.SameBut a s.heap h'->Paired (El prog w B s.heap) l ks3->Paired (El prog w B h') l ks3:=λsb x=>Paired.mapT x λe k q=>q.at ho (λz=>absurd (Value.type.inj z) (by decide)) λb o hb e=>(sb.2 b hb).trans e;by_cases tf:t2.tooFull=true
  ·rw[tf,Qp (show (!false&&true)=true from rfl)];unfold tooFull at tf;rw[fill2,em]at tf;have tf:t.mask*3<=es1.size*5:=XX tf
   obtain⟨m',hm',es',fw'⟩:∃m',Msk m'/\sizeAbove (grown (es.size+1))=m'+1/\es1.size*5<m'*3:=by
    rcases b0.msk with e|e|e|e
    ·have:es.size=4:=by omega
     rw[this];exact⟨31,.inr (.inl rfl),by decide +kernel,by omega⟩
    ·have:es.size=18:=by omega
     rw[this];exact⟨127,.inr (.inr (.inl rfl)),by decide +kernel,by omega⟩
    ·have:es.size=76:=by omega
     rw[this];exact⟨511,.inr (.inr (.inr rfl)),by decide +kernel,by omega⟩
    omega
   have hf2:t2.fits es1.size=true:=by have:=b2.fits (by rw[Qb,Qg];omega);rwa [Qb,Qg]at this
   obtain⟨t3,order,l1,l2,l3,l4,l5,l6⟩:=Bp hm' es1 (by omega) t2.finger (t2.movedTo m') t2.led t2.plain
   have rl:t2.relaid (es1.map (·.1)) (grown (es.size+1))=some (t3,order):=by
    unfold relaid;rw[es',X4];exact l1
   have z3:(order.filterMap (es1[·]?)).size=es1.size:=by rw[<-Qg,l5.length_eq,Qg]
   unfold setRelay;refine Qa (Qa (wpAny_setState_of (s:={ s with heap:=s.heap.update a (Obj.putSet es1 t2) }) g1 rfl hf2 ?_));dsimp only;have m127:m'<=511:=by rcases hm' with e|e|e|e <;> omega
   rw[Qn (show ¬sizeAbove (grown (es.size+1))>sizeLine by rw[es',sizeLine_eq];omega),rl];have nz:((order.filterMap (es1[·]?)).size != es1.size)=false:=by rw[z3];simp
   generalize hS:storeSet=ST
   wp_walk
   subst hS;dsimp only;refine wpAny_storeSet_of (s:={ s with heap:=s.heap.update a (Obj.putSet es1 t2) }) g1 rfl ?_ (by rw[z3,sizeLine_eq];omega);obtain⟨ks4,e4,p4'⟩:=kZ l5 el1;have sb2:=sb1.trans (XW (s.heap.update a (Obj.putSet es1 t2)) a (Obj.putSet (order.filterMap (es1[·]?)) t3));refine Qe (h _ true (ks++[k]) sb2 ⟨_,ep+1+1,t3,ks4,QU (Obj.putSet (order.filterMap (es1[·]?)) t3) g1 rfl,elA sb2 e4,p4'.trans pk1,nd1,l6,by rw[z3,l2];exact fw',?_⟩ (by simp) mm);rw[z3];exact ld2.imp id λz=>⟨l3.trans z.1,λy=>l4.trans (z.2 y)⟩
  rw[Xu.mpr tf,Qn (by simp)];refine Qe (h _ true (ks++[k]) sb1 ⟨es1,ep+1,t2,_,g1,elA sb1 el1,pk1,nd1,b2,?_,ld2⟩ (by simp) mm);unfold tooFull at tf;rw[fill2]at tf;have:=of_decide_eq_false (Xu.mpr tf);omega
 have tb_off:Tb { t1 with plain:=false } (es1.toList.map (·.1)):=⟨b1.msk,b1.dum,b1.len,b1.up,b1.bd,b1.rch⟩;have led2:∀t2:SetTable,t2.led=t.led->t2.plain=false->LS.Led w t2 es1.size:=λt2 e1 e2=>ld.imp id λz=>⟨e1.trans z.1,λ_=>e2⟩;by_cases pl:t1.plain=true
 ·rw[Qp pl];refine Qa (byv hk ?_);rw[tx];exact fin { t1 with plain:=false } p2 tb_off (led2 _ p3 rfl)
 rw[Qn pl];refine Qa (Qe ?_);exact fin t1 p2 b1 (led2 _ p3 (Xu.mpr pl))
end
end Ht
set_option maxHeartbeats 4000000
namespace LG
open PySem PySem.Spec PyProof.Rows LS
section
variable {prog:Program} {w:World} {A:Around} {E:C9} {s:Shared}
end
end LG
set_option maxHeartbeats 400000
namespace LS
open PySem PySem.Spec PyProof.Rows
section
variable {prog:Program} {w:World} {A:Around} {E:C9} {s:Shared} {a it:Addr} {es:Array (Int × Value)} {ep:Nat} {t:SetTable} {i:Nat}
end
end LS
namespace LG
open PySem PySem.Spec PyProof.Rows PySem.Calls LS
section
variable {prog:Program} {w:World} {A:Around} {E:C9} {s:Shared} {a:Addr}
end
end LG
set_option maxHeartbeats 1000000
namespace Ht
open PySem PySem.Spec PyProof.Rows L2 LS
section
variable {B:Addr->Prop} {prog:Program} {w:World} {A:Around} {E:C9} {s:Shared}
def Tps (h0 h:Heap):Prop:=∀b o,h0.get? b=some o->o.cls=.type "tuple" -> h.get? b=some o
theorem set_loop {R:Result->Shared->Prop} {I S l:Addr} {its:Array Value} {h0:Heap} {kf:Nat->ay} (hh:A.handled=none) (hu:A.units+3<cLine) (nI:l≠I) (nS:S∉[I,l]) (new:∀b∈[S,I],h0.get? b=none)
  (hg:∀i v,its[i]?=some v->∃b,v=.ref b/\TK.IsT (ax prog w) h0 (kf i) b/\(kf i).all xI=false/\B b) (few:∀us:List ay,us.Nodup->(∀x∈us,∃j,j<its.size/\kf j=x)->us.length<300) :
  ∀(m i:Nat) (s:Shared) (ks:List ay),its.size-i=m->i<=its.size->(s.heap.IsListIter I l i/\s.heap.IsList l its)->Tps h0 s.heap->lQ prog w B s.heap S ks->(∀x,x∈ks↔∃j,j<i/\kf j=x) ->
   (∀s' ks',Moved [S,I] (λa b=>b=a) s s'->lQ prog w B s'.heap S ks'->(∀x,x∈ks'↔∃j,j<its.size/\kf j=x)->R (.ok (.ret .none)) s') ->
   codeAny (model prog w) A (.builtin "set.update.loop" ⟨[.ref S,.ref I],[]⟩) R s:=by
 have W:=(Walks.list (prog:=prog) (w:=w) (show A.in1.handled=none by simp[hh]) I l nI its).toS;have nSI:S≠I:=λz=>nS (by simp[z]);have more:∀b∈[I],b∈[S,I]:=λb z=>Qo _ z
 have setk:∀{s s':Shared} {ks:List ay},Tps h0 s.heap->Moved [I] (λa b=>b=a) s s'->s.heap.IsListIter I l 0\/True->lQ prog w B s.heap S ks->(∀o,s.heap.get? I=some o->o.cls≠.type "tuple")->lQ prog w B s'.heap S ks:=λ{s s' ks} tp mv _ q ni=>by
  obtain⟨es,ep,t,ks',h1,h2,h3⟩:=q;exact⟨es,ep,t,ks',mv.heap S _ (by simpa using nSI) h1,Paired.mapT h2 λe k ⟨b,e1,e2,e3⟩=>⟨b,e1,Tm.cD e2 λc o hc ht=>mv.heap c o (λz=>by simp at z;subst z;exact ni o hc ht) hc,e3⟩,h3⟩
 have notI:∀{s:Shared} {i:Nat},s.heap.IsListIter I l i->∀o,s.heap.get? I=some o->o.cls≠.type "tuple" := λ⟨o',h1,h2,_⟩ o e z=>by
  rw[h1]at e;cases e;rw[h2]at z;exact absurd (Value.type.inj z) (by decide)
 have tps:∀{s s':Shared},Tps h0 s.heap->Moved [S,I] (λa b=>b=a) s s'->Tps h0 s'.heap:=λtp mv b o e ht=>mv.heap b o (λz=>by rw[new b z]at e;cases e) (tp b o e ht);intro m
 induction m with
 | zero =>
  intro i s ks em hi st tp q mm fin;obtain rfl:i=its.size:=by omega
  refine XB F.entry_set_update_loop ?_;rw[Xf X6 _];show wpAny _ A.in1 (pyNext (.ref I) >>= _) _ _ s;exact Qa (W.done s _ _ st λs1 mv=>Qe (fin s1 ks (mv.mono more) (setk tp mv (.inr trivial) q (notI st.1)) mm))
 | succ m ih =>
 intro i s ks em hi st tp q mm fin;have lt:i<its.size:=by omega
 refine XB F.entry_set_update_loop ?_;rw[Xf X6 _];show wpAny _ A.in1 (pyNext (.ref I) >>= _) _ _ s;refine Qa (W.item i s _ _ lt st λv s1 hP st1 mv=>?_);obtain⟨b,rfl,hb,tx,hB⟩:=hg i v hP;have q1:=setk tp mv (.inr trivial) q (notI st.1);have tp1:=tps tp (mv.mono more);have hb1:TK.IsT (ax prog w) s1.heap (kf i) b:=Tm.cD hb tp1;show wpAny _ A.in1 (holding [Value.ref b] (setAdd S (.ref b)) >>= _) _ _ s1;refine Qa (QT ?_);unfold setAdd;refine QT (Qa ((bq prog w).pyHash (k:=kf i) (show A.units+1+1<cLine by omega) hb1 ?_));have kn:ks.Nodup:=let ⟨_,_,_,_,_,_,_,n,_⟩:=q;n;refine BJ (s:={ s1 with toks:=s1.toks+(bq prog w).draws (kf i) }) (show A.units+1+1<cLine by omega) q1 hb1 tx hB (few ks kn λx hx=>by obtain⟨j,hj,e⟩:=(mm x).mp hx;exact⟨j,by omega,e⟩) λh2 _ ks2 sb q2 _ m2=>?_
 have mv2:Moved [S,I] (λa b=>b=a) s { s1 with heap:=h2,toks:=s1.toks+(bq prog w).draws (kf i) }:=(mv.mono more).then_heap (Xg _ _) λb o z e=>by
  rw[sb.2 b (λy:b=S=>z (by rw[y];exact Xl))];exact e
 refine Qe ⟨plainId_quiet X6 _,ih (i+1) _ ks2 (by omega) lt (W.frame _ s1 _ _ st1 (Xg _ _) λb z o e=>?_) (tps tp mv2) q2 (λx=>?_) λs3 ks3 mv3 q3 m3=>fin s3 ks3 (Moved.trans W.gtrans mv2 mv3) q3 m3⟩
 ·rw[sb.2 b (λy:b=S=>nS (by rw[<-y];exact z))];exact e
 rw[m2,mm]
 constructor
 ·rintro(⟨j,hj,e⟩|e)
  ·exact⟨j,by omega,e⟩
  exact⟨i,by omega,e.symm⟩
 rintro⟨j,hj,e⟩;rcases Nat.lt_succ_iff_lt_or_eq.mp hj with z|z
 ·exact .inl ⟨j,z,e⟩
 subst z;exact .inr e.symm
theorem lQ.raw {h:Heap} {a:Addr} {ks:List ay} (x:lQ prog w B h a ks):∃es ep t ks',h.get? a=some (t6 es ep t)/\Paired (El prog w B h) es.toList ks'/\ks'.Perm ks/\ks.Nodup/\es.size=ks.length/\es.size<scanBound/\t.fits es.size=true/\Led w t es.size:=by
 obtain⟨es,ep,t,ks',h1,h2,h3,h4,h5,h6,h7⟩:=x;have t127:t.mask<=511:=by rcases h5.msk with e|e|e|e <;> omega
 refine⟨es,ep,t,ks',h1,h2,h3,h4,by rw[<-Qg,X8 h2,h3.length_eq],by unfold scanBound;omega,?_,h7⟩;have:=h5.fits (by rw[Qb,Qg];omega);rwa [Qb,Qg]at this
end
end Ht
namespace L2
open PySem PySem.Spec PyProof.Rows PySem.Calls
theorem Inv.drawn {X:Cx} {pins:D0} {O:List (Option V)} {H:Hp} {s:Shared} (I:Inv X pins O H s) (d:Drawn):Inv X pins O H { s with drawn:=d }:=⟨I.ok,I.os,I.bare,I.base,I.loc,I.cell,I.free,I.freeC,I.pin,I.hok,I.len⟩
section
variable {X:Cx} {a:Expr} {ta:TA} {p p1 pos pos1:Pos}
end
end L2
set_option maxHeartbeats 4000000
namespace L2
open PySem PySem.Spec PyProof.Rows
variable {pins:D0}
theorem Inv.turnedL {X:Cx} {O:St} {H:Hp} {s:Shared} {h':Heap} {t':Nat} {T:Addr} {o:HO} {ch:D4} (I:Inv X pins O H s) (k:∀b o,b∉ch->s.heap.get? b=some o->h'.get? b=some o)
  (f:∀b∈ch,dR X pins H b) (hT:s.heap.objs.size<=T) (new:bp X.prog X.w (upd H T o) h' T o):Inv X pins O (upd H T o) { s with heap:=h',toks:=t' }:=by
 have hn:H T=none:=I.hok.fresh hT;have nT:∀b u,s.heap.get? b=some u->b≠T:=λb u q=>QM (QS (Qm q) hT);have n:∀b u,H b=some u->b∉ch:=λb u q z=>by rw[(f b z).1]at q;cases q
 refine I.step (g':=s.gens) (d':=s.drawn) (ch:=ch) (λb hb=>?_) (λb u _ _ hc q _=>k b u hc q) (λb u _ _ hc q _=>⟨u.slots,k b u hc q⟩) (λb u _ q n=>by rw[am (nT b u q)];exact n)
  (λb u hc q=>⟨u,k b u hc q⟩) (λb xs q=>by rw[am (aB q hn)];exact q) (λb u xs q=>by rw[am (aB q hn)];exact q) (λb ps q=>⟨#[],by rw[am (aB q hn),q];simp⟩) (λm hm=>?_) (λb u q=>?_) I.bare
 ·obtain⟨_,a2,_,a4,a5,a6⟩:=f b hb;exact⟨a4,a2,a5,a6⟩
 ·obtain⟨ob,es,ep,ho,r⟩:=hm;exact⟨ob,es,ep,k _ ob (λz=>(f _ z).2.1 rfl) ho,r⟩
 by_cases hb:b=T
 ·subst hb;rw[ah]at q;cases q;exact new
 rw[am hb]at q;refine(I.hok b u q).stay (λc v hc z=>k c v ?_ z) (λc z=>by rw[am (aB z hn)];exact z) λc xs z=>by rw[am (aB z hn)];exact z
 rcases hc with z|z
 ·rw[z];exact n b u q
 exact n c _ z
theorem Inv.turnedE {X:Cx} {O:St} {H:Hp} {s:Shared} {h':Heap} {t':Nat} {ch:D4} (I:Inv X pins O H s) (k:∀b o,b∉ch->s.heap.get? b=some o->h'.get? b=some o)
  (f:∀b∈ch,dR X pins H b):Inv X pins O H { s with heap:=h',toks:=t' }:=by
 have n:∀b u,H b=some u->b∉ch:=λb u q z=>by rw[(f b z).1]at q;cases q
 refine I.step (g':=s.gens) (d':=s.drawn) (ch:=ch) (λb hb=>?_) (λb u _ _ hc q _=>k b u hc q) (λb u _ _ hc q _=>⟨u.slots,k b u hc q⟩) (λb u _ q n=>n)
  (λb u hc q=>⟨u,k b u hc q⟩) (λb xs q=>q) (λb u xs q=>q) (λb ps q=>⟨#[],by rw[q];simp⟩) (λm hm=>?_) (λb u q=>?_) I.bare
 ·obtain⟨_,a2,_,a4,a5,a6⟩:=f b hb;exact⟨a4,a2,a5,a6⟩
 ·obtain⟨ob,es,ep,ho,r⟩:=hm;exact⟨ob,es,ep,k _ ob (λz=>(f _ z).2.1 rfl) ho,r⟩
 refine(I.hok b u q).stay (λc v hc z=>k c v ?_ z) (λc z=>z) λc xs z=>z;rcases hc with z|z
 ·rw[z];exact n b u q
 exact n c _ z
noncomputable def Itz (K:PySem.W.Frag) (a:Addr) (z:Str):It :=
 ⟨λi H=>(∃xs x,SqL K H a xs/\xs[i]?=some x)/\i<z.cps.size,λi H x H'=>∃T v,H T=none/\x=.ref T/\H'=upd H T (.tup [v,dM z i])/\∀xs,SqL K H a xs->xs[i]?=some v,λi H=>∃xs,SqL K H a xs/\xs.length<=i⟩
theorem qK {P:Program} {w:World} {K:PySem.W.Frag} {elts:List Expr} {k:Nat} {pos:Pos} (a z TI TO i1 i2:Addr) (x:Str) (t:Tok) (D:LZ.Apart5 z TI TO i1 i2 a) :
  Turn P w K (.Tuple elts k pos) (Itz K a x) [z,TI,TO,i1,i2] z (λi h=>LZ.IsZ h z TI TO .none false/\IsPair h TI (.ref i1) (.ref i2)/\(∃u v,IsPair h TO u v)/\h.IsListIter i1 a i/\h.IsStrIter i2 (LZ.c9 x) x t i) where
 mem:=by simp
 obj:=λi h st b hb=>by
  obtain⟨hz,hTI,⟨u,v,hTO⟩,⟨o1,g1,_,d1⟩,⟨o2,g2,_,d2⟩⟩:=st;simp only[Qw,QY,or_false]at hb;rcases hb with rfl|rfl|rfl|rfl|rfl
  ·exact⟨_,hz,λv q=>by have q':Data.fields _=Data.cell v:=q;cases q'⟩
  ·exact⟨_,hTI,λv q=>by have q':Data.seq _ _=Data.cell v:=q;cases q'⟩
  ·exact⟨_,hTO,λv q=>by have q':Data.seq _ _=Data.cell v:=q;cases q'⟩
  ·exact⟨o1,g1,λv q=>by rw[d1]at q;cases q⟩
  exact⟨o2,g2,λv q=>by rw[d2]at q;cases q⟩
 keep:=λi h h' st kk=>by
  obtain⟨hz,hTI,⟨u,v,hTO⟩,⟨o1,g1,r1⟩,⟨o2,g2,r2⟩⟩:=st;exact⟨kk z (by simp) _ hz,kk TI (by simp) _ hTI,⟨u,v,kk TO (by simp) _ hTO⟩,⟨o1,kk i1 (by simp) _ g1,r1⟩,⟨o2,kk i2 (by simp) _ g2,r2⟩⟩
 item:=by
  intro X hP hw hK hc i pins s O H E I hf st hg;subst hP hw hK;obtain⟨⟨xs,y,hq,hx⟩,hi⟩:=hg;obtain⟨its,rv,p,hsz⟩:=I.list hq;obtain⟨u,hu,ru⟩:=rv.get hx;obtain⟨hz,hTI,⟨a0,b0,hTO⟩,h1,h2⟩:=st;have hcx:x.cps[i]?=some (x.cps.getD i 0):=by simp[Array.getD,hi]
  refine LZ.next_first (LZ.nq x) D hz hTI hTO h1 h2 p.isList (v:=u) (by simpa using hu) hcx λh' b1 b2 b3 b4 b5 b6 b7=>⟨_,rfl,?_⟩;refine wpAny_letOwnedTupleGo_zip (T:=s.heap.objs.size) b1 λh2' c1 c2=>?_
  have szT:∀c∈[z,TI,TO,i1,i2],c≠s.heap.objs.size:=λc hc=>by
   have:∃o,s.heap.get? c=some o:=by
    simp only[Qw,QY,or_false]at hc;obtain⟨o1,g1,_⟩:=h1;obtain⟨o2,g2,_⟩:=h2;rcases hc with rfl|rfl|rfl|rfl|rfl
    ·exact⟨_,hz⟩
    ·exact⟨_,hTI⟩
    ·exact⟨_,hTO⟩
    ·exact⟨_,g1⟩
    exact⟨_,g2⟩
   obtain⟨o,e⟩:=this;exact QM (Qm e)
  have zT:z≠s.heap.objs.size:=szT z (by simp)
  have keep2:∀b o,b∉[z,TI,TO,i1,i2]->s.heap.get? b=some o->h2'.get? b=some o:=λb o nb q=>by
   simp only[Qw,QY,or_false,not_or]at nb;exact c2.extBut b o nb.1 (b7 b o nb.1 nb.2.2.1 nb.2.2.2.1 nb.2.2.2.2 q)
  have kp:∀{b o},b≠z->h'.get? b=some o->h2'.get? b=some o:=λnb q=>c2.extBut _ _ nb q;have tup2:h2'.get? s.heap.objs.size=some _:=kp (Xo zT) b5
  have I2:Inv X pins O (upd H s.heap.objs.size (.tup [y,dM x i])) { s with heap:=h2',toks:=s.toks+1 } :=
   I.turnedL (ch:=[z,TI,TO,i1,i2]) keep2 hf (Qi _) ⟨(by show 2<=sizeLine;decide),[u,.str ⟨#[x.cps.getD i 0]⟩ s.toks],.cons ru (.cons ⟨_,rfl⟩ .nil),⟨_,tup2,rfl,_,rfl⟩⟩
  obtain⟨a1,b1',b2'⟩:=b2;refine⟨.ref s.heap.objs.size,_,I2,rfl,⟨s.heap.objs.size,y,I.hok.fresh (Qi _),rfl,rfl,λys hy=>by rw[I.list_inj hy hq];exact hx⟩,⟨c1,?_,⟨a1,b1',?_⟩,?_,?_⟩,λb hb=>?_⟩
  ·exact kp D.TIz (b7 TI _ D.TIz D.TITO D.TIi1 D.TIi2 hTI)
  ·exact kp D.TOz b2'
  ·obtain⟨o1,g1,r1⟩:=b3;exact⟨o1,kp D.i1z g1,r1⟩
  ·obtain⟨o2,g2,r2⟩:=b4;exact⟨o2,kp D.i2z g2,r2⟩
  rw[am (szT b hb)];exact(hf b hb).1
 done:=by
  intro X hP hw hK hc i pins s O H E I hf st hg;subst hP hw hK;obtain⟨xs,hq,hx⟩:=hg;obtain⟨its,rv,p,hsz⟩:=I.list hq;obtain⟨hz,hTI,hTO,h1,h2⟩:=st;have hlen:=rv.length;refine LZ.next_end (a:=.none) (b:=.none) (I.ok.hd hc) D hz (.inl ⟨rfl,rfl,hTO⟩) hTI h1 p.isList (by simp;exact om4 hx hlen) λh' eb=>⟨rfl,?_⟩
  exact I.turnedE (t':=s.toks) (ch:=[z,TI,TO,i1,i2]) (λb o nb q=>by
   simp only[Qw,QY,or_false,not_or]at nb
   exact eb b o nb.1 nb.2.2.2.1 q) hf
 self:=λ_ _ _ _ _ st h=>wpAny_pyIter_zip st.1 h
section
variable {X:Cx} {elts:List Expr} {k:Nat} {tpos:Pos}
def CK (K:PySem.W.Frag) (ta:TA):TI:=λO H R=>ta O H λvs H1=>∃a z,vs=[.ref a,.str z]/\(∃xs,SqL K H1 a xs)/\R (Itz K a z) H1
theorem wL {a b:Expr} {ta:TA} {p pos:Pos} (hg:Gl X "zip") (hm:X.mg "zip" = none) (ha:PA X [a,b] ta) (hs:starEach [a,b] X.env=[(false,eval a X.env),(false,eval b X.env)]:=by rfl) (hs2:starEach [b] X.env=[(false,eval b X.env)]:=by rfl):PI X (.Tuple elts k tpos) (.Call (.Name "zip" p) [a,b] [] pos) (CK X.K ta):=by
 intro pins s O H R I h;refine Call_ (cO I hg hm boot_zip (Q7 (thn (ha pos pins s O H _ I h) λus s1 ⟨vs,H1,I1,r1,q1⟩=>?_) (by rw[hs,hs2]) (by rw[hs2];rfl)));obtain⟨l,z,e,⟨xs,hq⟩,q⟩:=q1;subst e;obtain⟨u1,u2,eu,r3,r2⟩:=fY r1;subst eu;cases (show u1=Value.ref l from r3);obtain⟨t,rfl⟩:=r2;obtain⟨its,rv,pl,hz⟩:=I1.list hq;refine LZ.call_zip pl.isList λh' b1 b2 b3 b4 b5 b6 b7=>?_;refine wpAny_pyIter_zip b1 ?_;have I2:Inv X pins O H1 { s1 with heap:=h' }:=I1.kept (t':=s1.toks) b7;obtain⟨ol,gl,_⟩:=pl.isList;have ll:@LT.lt Nat _ l s1.heap.objs.size:=Qm gl;refine⟨s1.heap.objs.size+4,[s1.heap.objs.size+4,s1.heap.objs.size+2,s1.heap.objs.size+3,s1.heap.objs.size,s1.heap.objs.size+1],_,_,H1,rfl,I2,qK l (s1.heap.objs.size+4) (s1.heap.objs.size+2) (s1.heap.objs.size+3) s1.heap.objs.size (s1.heap.objs.size+1) z t ?_,⟨b1,b2,⟨_,_,b3⟩,b4,b5⟩,λb hb=>?_,q⟩
 ·constructor <;> (show @Ne Nat _ _;omega)
 have hle:s1.heap.objs.size<=b:=by
  simp only[Qw,QY,or_false]at hb;rcases hb with rfl|rfl|rfl|rfl|rfl
  ·exact Xg _ _
  ·exact Xg _ _
  ·exact Xg _ _
  ·exact Qi _
  exact Xg _ _
 exact I1.fpOk hle (I1.hok.fresh hle)
end
theorem uT {K:PySem.W.Frag} {a:Addr} {z:Str} {xs:List V} {g:TG} {tb:TS} {D:Ends} {O:St} {H:Hp} (hz:xs.length<=z.cps.size) (Pv:Nat->St->Hp->Prop) (h0:Pv 0 O H) (hl:∀i O H,i<=xs.length->Pv i O H->SqL K H a xs)
  (hs:∀i x O H T,xs[i]?=some x->Pv i O H->H T=none->g (.ref T) O (upd H T (.tup [x,dM z i])) λσ2 H2=>tb { D with nx:=Pv (i+1),ct:=Pv (i+1),bk:=D.nx } σ2 H2) (hd:∀O H,Pv xs.length O H->D.nx O H) :
  ∃W:Nat->Nat->St->Hp->Prop,(∃m,W 0 m O H)/\∀i m O H,W i m O H ->
   ((Itz K a z).stop i H/\D.nx O H)\/((Itz K a z).go i H/\∃N:St->Hp->Prop,(∀σ' H',N σ' H'->∃m',m'<m/\W (i+1) m' σ' H')/\∀x H',(Itz K a z).yld i H x H'->g x O H' λσ2 H2=>tb { D with nx:=N,ct:=N,bk:=D.nx } σ2 H2):=by
 refine⟨λi m O H=>m=xs.length-i/\i<=xs.length/\Pv i O H,⟨xs.length,by simp,Q0 _,h0⟩,?_⟩;rintro i m O H ⟨rfl,hi,p⟩;have q:=hl i O H hi p;by_cases hlt:i<xs.length
 ·refine .inr ⟨⟨⟨xs,xs[i],q,by simp[hlt]⟩,by exact rQ hz hlt⟩,Pv (i+1),λσ' H' p'=>⟨xs.length-(i+1),by exact om6 hlt,rfl,hlt,p'⟩,λx H' y=>?_⟩;obtain⟨T,v,hT,ex,eH,y⟩:=y;subst ex eH;exact hs i v O H T (y xs q) p hT
 have e:i=xs.length:=by exact om0 hi hlt
 subst e;exact .inl ⟨⟨xs,q,Qi _⟩,hd O H p⟩
section
variable {X:Cx}
def t9:V->List V->Hp->VK->Prop:=λx vs H Q=>∃(d o:Addr) (kvs more:List (Key × V)),x=.ref d/\vs=[.ref o]/\d≠o/\H d=some (.dK kvs)/\H o=some (.dK more)/\kvs.length+more.length<=sizeLine/\Q .non (upd H d (.dK (bS kvs more)))
theorem pU:MtM X "dict.update" t9:=by
 intro pins s O H x vs v us Q I rx rv h;obtain⟨d,o,kvs,more,rfl,rfl,ne,hd,ho,hz,q⟩:=h;cases rx;obtain⟨u,rfl,ru⟩:=dJ rv;cases ru;obtain⟨z1,s1,vs1,rel1,dd1⟩:=oN I.hok hd;obtain⟨z2,s2,vs2,rel2,dd2⟩:=oN I.hok ho;refine call_meetsIn PySem.F.slot_dict_update dd1.typeIs PySem.F.entry_dict_update (PySem.F.args_dict_update_2 _ _) (meets_dict_update (ax X.prog X.w) d o ne s2) ⟨vs1,vs2,dd1,dd2,by rw[<-rel1.length,<-rel2.length];exact hz,λh' dd' _ hs=>?_⟩;have he:∃q,h'.get? d=some q:=let ⟨q,_,_,hq,_⟩:=dd';⟨q,hq⟩;have lm:=c_ more kvs;exact⟨.non,_,gv (t':=s.toks) I (by rw[hd];exact True.intro) hs he (m8 (QR lm hz) s1 (KV.merge rel2 rel1) dd'),rfl,q⟩
end
end L2
namespace LZg
open PySem LZ
section
variable {prog:Program} {w:World} {A:Around} {E:C9} {s:Shared}
variable {Q:C9} {x f0 v u a:Value} {its xs ys:Array Value} {i:Nat} {c l b z i1 i2 m:Addr}
theorem mG {t:Addr} (hc:s.heap.IsTupleIter c t i) (ht:s.heap.IsTuple t its) (hx:its[i]?=some x)
  (hQ:∀h',h'.IsTupleIter c t (i+1)->Heap.SameBut c s.heap h'->Q x { s with heap:=h' }):wpAny (model prog w) A (Builtin.SmallTypes.nextOf (.ref c)) Q E s:=by
 obtain⟨o,ho,h1,h2⟩:=id hc;obtain⟨ot,hot,_,nt,hdt⟩:=ht;unfold Builtin.SmallTypes.nextOf;refine Qa (Xn (name:=Str.ofString "__next__") hc.typeIs F.slot_tuple_iterator_next (Xh F.slot_tuple_iterator_next hc.typeIs F.entry_tuple_iterator_next ?_ (F.args_tuple_iterator_next_1 _)));show wpAny _ _ (field (.ref c) 0 >>= _) _ _ s;refine Qa (QP ho h2 (x:=.ref t) rfl ?_);rw[Qn (show ¬((Value.ref t==Value.none)=true) from Qk)];show wpAny _ _ (field (.ref c) 1 >>= _) _ _ s;refine Qa (QP ho h2 (x:=.int i 0) rfl ?_);show wpAny _ _ (seqItems? _ >>= _) _ _ _;refine Qa (Xk hot hdt ?_);simp only[Q9,hx];refine Qa (wpAny_setField ho h2 (by simp) (Qe ⟨x,rfl,Qe (hQ _ ⟨_,QU _ ho (Xb (QL h2 _)),(Obj.cls_mapFields ..).trans h1,?_⟩ (XW ..))⟩));rw[QL h2];simp[rawInt]
theorem pT {t:Addr} (hh:A.handled=none) (hc:s.heap.IsTupleIter c t i) (ht:s.heap.IsTuple t its) (hx:its[i]?=none)
  (hE:∀h' e,Heap.ExtBut c s.heap h'->(∃o,h'.get? e=some o/\o.cls=.type "StopIteration")->E (.ref e) { s with heap:=h' }):wpAny (model prog w) A (Builtin.SmallTypes.nextOf (.ref c)) Q E s:=by
 obtain⟨o,ho,h1,h2⟩:=id hc;obtain⟨ot,hot,_,nt,hdt⟩:=ht;unfold Builtin.SmallTypes.nextOf;refine Qa (Xn (name:=Str.ofString "__next__") hc.typeIs F.slot_tuple_iterator_next (Xh F.slot_tuple_iterator_next hc.typeIs F.entry_tuple_iterator_next ?_ (F.args_tuple_iterator_next_1 _)));show wpAny _ _ (field (.ref c) 0 >>= _) _ _ s;refine Qa (QP ho h2 (x:=.ref t) rfl ?_);rw[Qn (show ¬((Value.ref t==Value.none)=true) from Qk)];show wpAny _ _ (field (.ref c) 1 >>= _) _ _ s;refine Qa (QP ho h2 (x:=.int i 0) rfl ?_);show wpAny _ _ (seqItems? _ >>= _) _ _ _;refine Qa (Xk hot hdt ?_);simp only[Q9,hx];refine Qa (XI (Qa (wpAny_setField ho h2 (by simp) ?_)));refine Qa (m:=PySem.newExc (.type "StopIteration") []) ?_;simp only[PySem.newExc,newTuple];refine Qa (wpAny_newObj_type ?_ (by size_fits));refine Qa (m:=firstArgMember _ _) (wpAny_of_eq (a:=Value.none) rfl ?_);refine wpAny_newObj_type ?_ (by size_fits);simp only[raiseNew];refine Qa (wpAny_handled ?_);rw[show A.in1.handled=none from hh];exact Qa (Qe (wpAny_throw (hE _ _ (((XW ..).extBut.push _).push _) ⟨_,Qs _ rfl,rfl⟩)))
def SqOb:Bool->Heap->Addr->Array Value->Prop
 | true,h,l,xs=>h.IsTuple l xs
 | false,h,l,xs=>h.IsList l xs
def SqIt:Bool->Heap->Addr->Addr->Nat->Prop
 | true,h,c,l,i=>h.IsTupleIter c l i
 | false,h,c,l,i=>h.IsListIter c l i
def sI (t:Bool):String:=if t then "tuple_iterator" else "list_iterator"
variable {h h':Heap}
theorem SqIt.of {t:Bool} (g:h.get? c=some { cls:=.type (sI t),data:=.fields #[.ref l,.int i 0] }):SqIt t h c l i:=by
 cases t <;> exact⟨_,g,rfl,rfl⟩
theorem SqIt.raw {t:Bool} (x:SqIt t h c l i):∃o,h.get? c=some o/\o.data=.fields #[.ref l,.int i 0]:=by
 cases t <;> (obtain⟨o,h1,_,h3⟩:=x;exact⟨o,h1,h3⟩)
theorem SqIt.at {t:Bool} (x:SqIt t h c l i) (k:∀o,h.get? c=some o->h'.get? c=some o):SqIt t h' c l i:=by
 cases t <;> (obtain⟨o,h1,r⟩:=x;exact⟨o,k _ h1,r⟩)
theorem SqIt.extBut {t:Bool} (x:SqIt t h c l i) (hs:Heap.ExtBut b h h') (n:c≠b):SqIt t h' c l i:=x.at λo e=>hs c o n e
theorem SqOb.extBut {t:Bool} (x:SqOb t h l xs) (hs:Heap.ExtBut b h h') (n:l≠b):SqOb t h' l xs:=by
 cases t <;> (obtain⟨o,h1,r⟩:=x;exact⟨o,hs l o n h1,r⟩)
theorem SqOb.push {t:Bool} (x:SqOb t h l xs) (o:Obj):SqOb t (h.push o) l xs:=by
 cases t <;> (obtain⟨o,h1,r⟩:=x;exact⟨o,Qc _ h1,r⟩)
theorem SqOb.lt {t:Bool} (x:SqOb t h l xs):l<h.objs.size:=by
 cases t <;> (obtain⟨o,h1,r⟩:=x;exact Qm h1)
theorem sG {t:Bool} (x:SqOb t s.heap l xs) (h:Q (.ref s.heap.objs.size) { s with heap:=s.heap.push { cls:=.type (sI t),data:=.fields #[.ref l,.int 0 0] } }):wpAny (model prog w) A (pyIter (.ref l)) Q E s:=by
 cases t with
 | true=>exact wpAny_pyIter_tuple x h
 | false=>exact wpAny_pyIter_list x h
theorem om {t:Bool} (hc:SqIt t s.heap c l i) (ht:SqOb t s.heap l its) (hx:its[i]?=some x)
  (hQ:∀h',SqIt t h' c l (i+1)->Heap.SameBut c s.heap h'->Q x { s with heap:=h' }):wpAny (model prog w) A (Builtin.SmallTypes.nextOf (.ref c)) Q E s:=by
 cases t with
 | true=>exact mG hc ht hx hQ
 | false=>exact wpAny_nextOf_list_item hc ht hx hQ
theorem mD {t:Bool} (hh:A.handled=none) (hc:SqIt t s.heap c l i) (ht:SqOb t s.heap l its) (hx:its[i]?=none)
  (hE:∀h' e,Heap.ExtBut c s.heap h'->(∃o,h'.get? e=some o/\o.cls=.type "StopIteration")->E (.ref e) { s with heap:=h' }):wpAny (model prog w) A (Builtin.SmallTypes.nextOf (.ref c)) Q E s:=by
 cases t with
 | true=>exact pT hh hc ht hx hE
 | false=>exact wpAny_nextOf_list_end hh hc ht hx hE
variable {f1 t1 t2:Bool}
theorem next_end {TI TO:Addr} {k:Nat} {a b:Value} {Q:Option Value->Shared->Prop} (hh:A.handled=none) (D:Apart5 z TI TO i1 i2 l)
  (hz:IsZ s.heap z TI TO f0 f1) (hf:(f0=.none/\f1=false/\∃a b,IsPair s.heap TO a b)\/∃(T:Addr) (oT:Obj),f0=rawInt (T:Nat)/\s.heap.get? T=some oT) (hTI:IsPair s.heap TI (.ref i1) (.ref i2)) (h1:SqIt t1 s.heap i1 l k) (hl:SqOb t1 s.heap l xs) (hv:xs[k]?=none)
  (hQ:∀h',(∀c o,c≠z->c≠i1->s.heap.get? c=some o->h'.get? c=some o)->Q none { s with heap:=h' }):wpAny (model prog w) A (pyNext (.ref z)) Q E s:=by
 have hTy:s.TypeIs (.ref z) "zip" := ⟨_,hz,rfl⟩;unfold pyNext
 refine Qa (wpAny_attempt (Xn (name:=Str.ofString "__next__") hTy X2
  (Xh X2 hTy F.entry_zip_next ?_ (F.args_zip_next_1 _))))
 show wpAny _ _ (field (.ref z) 2 >>= _) _ _ _;refine Qa (QP hz rfl (x:=.bool false) rfl ?_);show wpAny _ _ (field (.ref z) 3 >>= _) _ _ _;refine Qa (QP hz rfl (x:=.ref TI) rfl ?_);refine Qa (Xk hTI rfl ?_);show wpAny _ _ (Builtin.SmallTypes.ownedTupleIsFree (.ref z) >>= _) _ _ _;refine Qa ?_;unfold Builtin.SmallTypes.ownedTupleIsFree;refine Qa (QP hz rfl (x:=f0) rfl ?_)
 have fin:∀h' e,(∀c o,c≠z->c≠i1->s.heap.get? c=some o->h'.get? c=some o)->(∃o,h'.get? e=some o/\o.cls=.type "StopIteration") ->
   wpAny (model prog w) A (do if <-isInstance (.ref e) (.type "StopIteration") then pure none else throw (.ref e)) Q E { s with heap:=h' }:=λh' e hk ⟨o,ho,hc⟩ =>
  Qa (wpAny_isInstance (T := "StopIteration") (b:=true) ⟨o,ho,hc⟩ isSubtype_stop (Qe (hQ _ hk)))
 rcases hf with⟨e1,e2,a,b,hTO⟩|⟨T,oT,e1,hT⟩
 ·subst e1 e2;refine Qe ?_;simp only[if_true];refine Qa (XI ?_);refine Qa (QP hz rfl (x:=.ref TO) rfl ?_);refine Qa (Xc hz (by simp) λh₁ hz1 hs₁=>?_)
  replace hz1:IsZ h₁ z TI TO .ellipsis false:=hz1
  refine Qa ?_;simp only[List.zipIdx_cons,List.zipIdx_nil,XR,List.forIn_nil];refine Qa (Qa (wpAny_onRaise ?_));show wpAny _ _ (Builtin.SmallTypes.nextOf (.ref i1) >>= _) _ _ _;refine Qa (mD hh (h1.extBut hs₁.extBut D.i1z) (hl.extBut hs₁.extBut D.lz) hv λh₂ e hs₂ he=>?_);obtain⟨oe,hoe,hce⟩:=he;have hz₂:IsZ h₂ z TI TO .ellipsis false:=hs₂ _ _ D.i1z.symm hz1;have hez:e≠z:=λx=>by subst x;rw[hz₂]at hoe;cases hoe;simp at hce
  refine Xc hz₂ (by simp) λh₃ _ hs₃=>?_;exact fin h₃ e (λc o c1 c3 x=>hs₃.extBut _ _ c1 (hs₂ _ _ c3 (hs₁.extBut _ _ c1 x))) ⟨oe,hs₃.extBut _ _ hez hoe,hce⟩
 subst e1;show wpAny _ _ (loadIfAlive ((T:Int).toNat) >>= _) _ _ _;rw[Q9];refine Qa (tF hT ?_);simp only[Option.isNone_some,QB,Xp];refine Qa (QP hz rfl (x:=.bool f1) rfl ?_)
 cases f1 with
 | false =>
  simp only[show (Value.bool false != Value.bool true)=true from rfl,if_true];refine Qa (Xc hz (by simp) λh₁ hz1 hs₁=>Qe ?_)
  replace hz1:IsZ h₁ z TI TO (rawInt T) true:=hz1
  simp only[QB,Xp,List.forIn_toArray,XR,List.forIn_nil];refine Qa (Qa (Qa (QT ?_)));show wpAny _ _ (Builtin.SmallTypes.nextOf (.ref i1) >>= _) _ _ _;refine Qa (mD hh (h1.extBut hs₁.extBut D.i1z) (hl.extBut hs₁.extBut D.lz) hv λh₂ e hs₂ he=>?_);exact fin h₂ e (λc o c1 c3 x=>hs₂ _ _ c3 (hs₁.extBut _ _ c1 x)) he
 | true =>
 simp only[show (Value.bool true != Value.bool true)=false from rfl,QB,Xp];refine Qe ?_;simp only[QB,Xp,List.forIn_toArray,XR,List.forIn_nil];refine Qa (Qa (Qa (QT ?_)));show wpAny _ _ (Builtin.SmallTypes.nextOf (.ref i1) >>= _) _ _ _;refine Qa (mD hh h1 hl hv λh₂ e hs₂ he=>?_);exact fin h₂ e (λc o c1 c3 x=>hs₂ _ _ c3 x) he
theorem next_first {TI TO:Addr} {k:Nat} {b:Value} {Q:Option Value->Shared->Prop} (D:Apart5 z TI TO i1 i2 l) (mz:m≠z) (mTO:m≠TO) (mi1:m≠i1) (mi2:m≠i2)
  (hz:IsZ s.heap z TI TO .none false) (hTI:IsPair s.heap TI (.ref i1) (.ref i2)) (hTO:IsPair s.heap TO a b) (h1:SqIt t1 s.heap i1 l k) (h2:SqIt t2 s.heap i2 m k) (hl:SqOb t1 s.heap l xs) (hm:SqOb t2 s.heap m ys) (hv:xs[k]?=some v) (hc:ys[k]?=some u)
  (hQ:∀h',IsZ h' z TI TO (rawInt s.heap.objs.size) false->(∃a b,IsPair h' TO a b)->SqIt t1 h' i1 l (k+1)->SqIt t2 h' i2 m (k+1)->IsPair h' s.heap.objs.size v u->h'.objs.size=s.heap.objs.size+1 ->
   (∀c o,c≠z->c≠TO->c≠i1->c≠i2->s.heap.get? c=some o->h'.get? c=some o)->Q (some (.ref s.heap.objs.size)) { s with heap:=h' }) :
  wpAny (model prog w) A (pyNext (.ref z)) Q E s:=by
 have hT:s.TypeIs (.ref z) "zip" := ⟨_,hz,rfl⟩;unfold pyNext
 refine Qa (wpAny_attempt (Xn (name:=Str.ofString "__next__") hT X2
  (Xh X2 hT F.entry_zip_next ?_ (F.args_zip_next_1 _))))
 show wpAny _ _ (field (.ref z) 2 >>= _) _ _ _;refine Qa (QP hz rfl (x:=.bool false) rfl ?_);show wpAny _ _ (field (.ref z) 3 >>= _) _ _ _;refine Qa (QP hz rfl (x:=.ref TI) rfl ?_);refine Qa (Xk hTI rfl ?_);show wpAny _ _ (Builtin.SmallTypes.ownedTupleIsFree (.ref z) >>= _) _ _ _;refine Qa ?_;unfold Builtin.SmallTypes.ownedTupleIsFree;refine Qa (QP hz rfl (x:=.none) rfl (Qe ?_));simp only[if_true];refine Qa (XI ?_);refine Qa (QP hz rfl (x:=.ref TO) rfl ?_);refine Qa (Xc hz (by simp) λh₁ hz1 hs₁=>?_)
 replace hz1:IsZ h₁ z TI TO .ellipsis false:=hz1
 refine Qa ?_;simp only[List.zipIdx_cons,List.zipIdx_nil,XR,List.forIn_nil];refine Qa (Qa (wpAny_onRaise ?_));show wpAny _ _ (Builtin.SmallTypes.nextOf (.ref i1) >>= _) _ _ _;refine Qa (om (h1.extBut hs₁.extBut D.i1z) (hl.extBut hs₁.extBut D.lz) hv λh₂ h12 hs₂=>Qe ?_);have hTO2:IsPair h₂ TO a b:=hs₂.extBut _ _ D.TOi1 (hs₁.extBut _ _ D.TOz hTO);refine Qa (Xk hTO2 rfl ?_);refine Qa (wpAny_updateSeq_pair hTO2 λh₃ hTO3 hs₃=>?_)
 replace hTO3:IsPair h₃ TO v b:=hTO3
 refine Qa (wpAny_letGo (Qe ?_));refine Qa (Qa (wpAny_onRaise ?_));show wpAny _ _ (Builtin.SmallTypes.nextOf (.ref i2) >>= _) _ _ _;have h23:SqIt t2 h₃ i2 m k:=((h2.extBut hs₁.extBut D.i2z).extBut hs₂.extBut D.i12.symm).extBut hs₃.extBut D.TOi2.symm;refine Qa (om h23 (((hm.extBut hs₁.extBut mz).extBut hs₂.extBut mi1).extBut hs₃.extBut mTO) hc λh₄ h24 hs4=>Qe ?_);have hTO4:IsPair h₄ TO v b:=hs4.extBut _ _ D.TOi2 hTO3;refine Qa (Xk hTO4 rfl ?_);refine Qa (wpAny_updateSeq_pair hTO4 λh₅ hTO5 hs5=>?_)
 replace hTO5:IsPair h₅ TO v u:=hTO5
 refine Qa (wpAny_letGo (Qe (Qe ?_)));refine Qa (Xk hTO5 rfl ?_);refine Qa (wpAny_newTuple ?_);have hsz:h₅.objs.size=s.heap.objs.size:=by rw[hs5.1,hs4.1,hs₃.1,hs₂.1,hs₁.1]
 have hz5:IsZ h₅ z TI TO .ellipsis false:=hs5.extBut _ _ D.TOz.symm (hs4.extBut _ _ D.i2z.symm (hs₃.extBut _ _ D.TOz.symm (hs₂.extBut _ _ D.i1z.symm hz1)))
 have hk5:∀c o,c≠z->c≠TO->c≠i1->c≠i2->s.heap.get? c=some o->h₅.get? c=some o:=λc o c1 c2 c3 c4 e =>
  hs5.extBut _ _ c2 (hs4.extBut _ _ c4 (hs₃.extBut _ _ c2 (hs₂.extBut _ _ c3 (hs₁.extBut _ _ c1 e))))
 have h1₅:SqIt t1 h₅ i1 l (k+1):=((h12.extBut hs₃.extBut D.TOi1.symm).extBut hs4.extBut D.i12).extBut hs5.extBut D.TOi1.symm;have h25:SqIt t2 h₅ i2 m (k+1):=h24.extBut hs5.extBut D.TOi2.symm;have hzlt:z<h₅.objs.size:=Qm hz5;show wpAny _ _ (Builtin.SmallTypes.ownedTupleHandOut (.ref z) (.ref h₅.objs.size) >>= _) _ _ _;refine Qa ?_;unfold Builtin.SmallTypes.ownedTupleHandOut;have hz6:IsZ (h₅.push { cls:=.type "tuple", data:=.seq #[v,u] }) z TI TO .ellipsis false:=Qc _ hz5;refine Qa (Xc hz6 (by simp) λh₇ hz7 hs7=>?_)
 replace hz7:IsZ h₇ z TI TO (rawInt h₅.objs.size) false:=hz7
 refine Xc hz7 (by simp) λh₈ hz₈ hs8=>?_
 replace hz₈:IsZ h₈ z TI TO (rawInt h₅.objs.size) false:=hz₈
 have up:∀c o,c≠z->h₅.get? c=some o->h₈.get? c=some o:=λc o c1 e=>hs8.extBut _ _ c1 (hs7.extBut _ _ c1 (Qc _ e));have hT8:IsPair h₈ h₅.objs.size v u:=hs8.extBut _ _ (Nat.ne_of_gt hzlt) (hs7.extBut _ _ (Nat.ne_of_gt hzlt) (Qs _ rfl));have hz8:h₈.objs.size=h₅.objs.size+1:=by rw[hs8.1,hs7.1,Q8]
 rw[hsz]at hz₈ hT8 hz8;refine Qe ⟨_,rfl,Qe ?_⟩;show Q (some (.ref h₅.objs.size)) _;rw[hsz];exact hQ h₈ hz₈ ⟨_,_,up _ _ D.TOz hTO5⟩ (h1₅.at λo e=>up _ o D.i1z e) (h25.at λo e=>up _ o D.i2z e) hT8 hz8 λc o c1 c2 c3 c4 e=>up c o c1 (hk5 c o c1 c2 c3 c4 e)
abbrev zH1 (t1:Bool) (h:Heap) (l:Addr):Heap:=h.push { cls:=.type (sI t1),data:=.fields #[.ref l,.int 0 0] }
abbrev zH2 (t1 t2:Bool) (h:Heap) (l m:Addr):Heap:=(zH1 t1 h l).push { cls:=.type (sI t2),data:=.fields #[.ref m,.int 0 0] }
abbrev zH3 (t1 t2:Bool) (h:Heap) (l m:Addr):Heap:=(zH2 t1 t2 h l m).push { cls:=.type "tuple", data:=.seq #[.ref h.objs.size,.ref (zH1 t1 h l).objs.size] }
abbrev zH4 (t1 t2:Bool) (h:Heap) (l m:Addr):Heap:=(zH3 t1 t2 h l m).push { cls:=.type "tuple", data:=.seq #[.none,.none] }
abbrev zH5 (t1 t2:Bool) (h:Heap) (l m:Addr):Heap:=(zH4 t1 t2 h l m).push { cls:=.type "zip", data:=.fields #[.none,.bool false,.bool false,.ref (zH2 t1 t2 h l m).objs.size,.ref (zH3 t1 t2 h l m).objs.size] }
theorem meets_new (t1 t2:Bool) (l m:Addr) (xs ys:Array Value) :
  Meets (Builtin.«zip.__new__» ⟨[.type "zip", .ref l,.ref m],[]⟩) (λ_ R s=>SqOb t1 s.heap l xs/\SqOb t2 s.heap m ys/\R (.ok (.ret (.ref (zH4 t1 t2 s.heap l m).objs.size))) { s with heap:=zH5 t1 t2 s.heap l m }) :=
 .of_wp λprog w A R s h=>by
  obtain⟨hp,g,d,tk,os⟩:=s;obtain⟨hl1,hl2,h⟩:=h;have hsub:=sub_zip;have hL1:SqOb t1 (Shared.heap ⟨hp,g,d,tk,os⟩) l xs:=hl1;have hL2:SqOb t2 (Shared.heap ⟨hp.push { cls:=.type (sI t1),data:=.fields #[.ref l,.int 0 0] },g,d,tk,os⟩) m ys:=hl2.push _
  wp_walk using sG hL1,sG hL2
  exact⟨_,rfl,h⟩
theorem call_zip (hl1:SqOb t1 s.heap l xs) (hl2:SqOb t2 s.heap m ys)
  (h:∀h',IsZ h' (s.heap.objs.size+4) (s.heap.objs.size+2) (s.heap.objs.size+3) .none false->IsPair h' (s.heap.objs.size+2) (.ref s.heap.objs.size) (.ref (s.heap.objs.size+1)) ->
   IsPair h' (s.heap.objs.size+3) .none .none->SqIt t1 h' s.heap.objs.size l 0->SqIt t2 h' (s.heap.objs.size+1) m 0->h'.objs.size=s.heap.objs.size+5 ->
   (∀c o,s.heap.get? c=some o->h'.get? c=some o)->Q (.ref (s.heap.objs.size+4)) { s with heap:=h' }) :
  wpAny (model prog w) A (call (.type "zip") [.ref l,.ref m]) Q E s:=by
 refine callType_new F.called_zip (by decide) (F.typeCall_zip_2 _ _) (F.newCall_zip_2 _ _) (λobj=>F.args_object_init_3 obj _ _) F.entry_zip_new (meets_new t1 t2 l m xs ys) ⟨hl1,hl2,?_⟩;have z1:(zH1 t1 s.heap l).objs.size=s.heap.objs.size+1:=Q8 ..;have z2:(zH2 t1 t2 s.heap l m).objs.size=s.heap.objs.size+2:=by rw[Q8,z1]
 have z3:(zH3 t1 t2 s.heap l m).objs.size=s.heap.objs.size+3:=by rw[Q8,z2]
 have z4:(zH4 t1 t2 s.heap l m).objs.size=s.heap.objs.size+4:=by rw[Q8,z3]
 have z5:(zH5 t1 t2 s.heap l m).objs.size=s.heap.objs.size+5:=by rw[Q8,z4]
 have g5:(zH5 t1 t2 s.heap l m).get? (zH4 t1 t2 s.heap l m).objs.size=some _:=Qs _ rfl;have g4:(zH5 t1 t2 s.heap l m).get? (zH3 t1 t2 s.heap l m).objs.size=some _:=Qc _ (Qs _ rfl);have g3:(zH5 t1 t2 s.heap l m).get? (zH2 t1 t2 s.heap l m).objs.size=some _:=Qc _ (Qc _ (Qs _ rfl));have g2:(zH5 t1 t2 s.heap l m).get? (zH1 t1 s.heap l).objs.size=some _:=Qc _ (Qc _ (Qc _ (Qs _ rfl)));have g1:(zH5 t1 t2 s.heap l m).get? s.heap.objs.size=some _:=Qc _ (Qc _ (Qc _ (Qc _ (Qs _ rfl))));show _/\_;rw[z2,z3,z4]at g5;rw[z1,z2]at g3;rw[z3]at g4;rw[z1]at g2;rw[z4]
 exact⟨⟨_,g5,rfl⟩,h _ g5 g3 g4 (SqIt.of g1) (SqIt.of g2) z5 λc o x =>
  Qc _ (Qc _ (Qc _ (Qc _ (Qc _ x))))⟩
end
end LZg
namespace L2
open PySem PySem.Spec PyProof.Rows
def SqS:Bool->PySem.W.Frag->Hp->Addr->List V->Prop
 | true,K,H,a,xs=>SqT K H a xs
 | false,K,H,a,xs=>SqL K H a xs
variable {a D:Addr} {pins:D0}
theorem Inv.sq {X:Cx} {O:St} {H:Hp} {s:Shared} (I:Inv X pins O H s) {t:Bool} {xs:List V} (h:SqS t X.K H a xs):∃its:List Value,aJ xs its/\LZg.SqOb t s.heap a its.toArray/\xs.length<=sizeLine:=by
 cases t with
 | true=>obtain⟨its,r,p,z⟩:=I.tuple h;exact⟨its,r,p,z⟩
 | false=>obtain⟨its,r,p,z⟩:=I.list h;exact⟨its,r,p.isList,z⟩
theorem Inv.sq_inj {X:Cx} {O:St} {H:Hp} {s:Shared} (I:Inv X pins O H s) {t:Bool} {xs ys:List V} (h1:SqS t X.K H a xs) (h2:SqS t X.K H a ys):xs=ys:=by
 cases t with
 | true=>exact I.tuple_inj h1 h2
 | false=>exact I.list_inj h1 h2
noncomputable def tH (t1 t2:Bool) (K:PySem.W.Frag) (a b:Addr):It :=
 ⟨λi H=>(∃xs x,SqS t1 K H a xs/\xs[i]?=some x)/\∃ys y,SqS t2 K H b ys/\ys[i]?=some y,λi H x H'=>∃T v u,H T=none/\x=.ref T/\H'=upd H T (.tup [v,u])/\(∀xs,SqS t1 K H a xs->xs[i]?=some v)/\∀ys,SqS t2 K H b ys->ys[i]?=some u,λi H=>∃xs,SqS t1 K H a xs/\xs.length<=i⟩
theorem pb {t1 t2:Bool} {P:Program} {w:World} {K:PySem.W.Frag} {elts:List Expr} {k:Nat} {pos:Pos} (a bb z TI TO i1 i2:Addr) (D:LZ.Apart5 z TI TO i1 i2 a) (mz:bb≠z) (mTO:bb≠TO) (mi1:bb≠i1) (mi2:bb≠i2) :
  Turn P w K (.Tuple elts k pos) (tH t1 t2 K a bb) [z,TI,TO,i1,i2] z (λi h=>LZ.IsZ h z TI TO .none false/\IsPair h TI (.ref i1) (.ref i2)/\(∃u v,IsPair h TO u v)/\LZg.SqIt t1 h i1 a i/\LZg.SqIt t2 h i2 bb i) where
 mem:=by simp
 obj:=λi h st b hb=>by
  obtain⟨hz,hTI,⟨u,v,hTO⟩,h1,h2⟩:=st;obtain⟨o1,g1,d1⟩:=h1.raw;obtain⟨o2,g2,d2⟩:=h2.raw;simp only[Qw,QY,or_false]at hb;rcases hb with rfl|rfl|rfl|rfl|rfl
  ·exact⟨_,hz,λv q=>by have q':Data.fields _=Data.cell v:=q;cases q'⟩
  ·exact⟨_,hTI,λv q=>by have q':Data.seq _ _=Data.cell v:=q;cases q'⟩
  ·exact⟨_,hTO,λv q=>by have q':Data.seq _ _=Data.cell v:=q;cases q'⟩
  ·exact⟨o1,g1,λv q=>by rw[d1]at q;cases q⟩
  exact⟨o2,g2,λv q=>by rw[d2]at q;cases q⟩
 keep:=λi h h' st kk=>by
  obtain⟨hz,hTI,⟨u,v,hTO⟩,h1,h2⟩:=st;exact⟨kk z (by simp) _ hz,kk TI (by simp) _ hTI,⟨u,v,kk TO (by simp) _ hTO⟩,h1.at λo e=>kk i1 (by simp) o e,h2.at λo e=>kk i2 (by simp) o e⟩
 item:=by
  intro X hP hw hK hc i pins s O H E I hf st hg;subst hP hw hK;obtain⟨⟨xs,y,hq,hx⟩,ys,y2,hq2,hx2⟩:=hg;obtain⟨its,rv,p,hsz⟩:=I.sq hq;obtain⟨u,hu,ru⟩:=rv.get hx;obtain⟨its2,rv2,p2,hsz2⟩:=I.sq hq2;obtain⟨u2,hu2,ru2⟩:=rv2.get hx2;obtain⟨hz,hTI,⟨a0,b0,hTO⟩,h1,h2⟩:=st;refine LZg.next_first D mz mTO mi1 mi2 hz hTI hTO h1 h2 p p2 (v:=u) (u:=u2) (by simpa using hu) (by simpa using hu2) λh' b1 b2 b3 b4 b5 b6 b7=>⟨_,rfl,?_⟩;refine wpAny_letOwnedTupleGo_zip (T:=s.heap.objs.size) b1 λh2' c1 c2=>?_
  have szT:∀c∈[z,TI,TO,i1,i2],c≠s.heap.objs.size:=λc hc=>by
   have:∃o,s.heap.get? c=some o:=by
    simp only[Qw,QY,or_false]at hc;obtain⟨o1,g1,_⟩:=h1.raw;obtain⟨o2,g2,_⟩:=h2.raw;rcases hc with rfl|rfl|rfl|rfl|rfl
    ·exact⟨_,hz⟩
    ·exact⟨_,hTI⟩
    ·exact⟨_,hTO⟩
    ·exact⟨_,g1⟩
    exact⟨_,g2⟩
   obtain⟨o,e⟩:=this;exact QM (Qm e)
  have zT:z≠s.heap.objs.size:=szT z (by simp)
  have keep2:∀b o,b∉[z,TI,TO,i1,i2]->s.heap.get? b=some o->h2'.get? b=some o:=λb o nb q=>by
   simp only[Qw,QY,or_false,not_or]at nb;exact c2.extBut b o nb.1 (b7 b o nb.1 nb.2.2.1 nb.2.2.2.1 nb.2.2.2.2 q)
  have kp:∀{b o},b≠z->h'.get? b=some o->h2'.get? b=some o:=λnb q=>c2.extBut _ _ nb q;have tup2:h2'.get? s.heap.objs.size=some _:=kp (Xo zT) b5
  have I2:Inv X pins O (upd H s.heap.objs.size (.tup [y,y2])) { s with heap:=h2',toks:=s.toks } :=
   I.turnedL (ch:=[z,TI,TO,i1,i2]) keep2 hf (Qi _) ⟨(by show 2<=sizeLine;decide),[u,u2],.cons ru (.cons ru2 .nil),⟨_,tup2,rfl,_,rfl⟩⟩
  obtain⟨a1,b1',b2'⟩:=b2;refine⟨.ref s.heap.objs.size,_,I2,rfl,⟨s.heap.objs.size,y,y2,I.hok.fresh (Qi _),rfl,rfl,λys hy=>by rw[I.sq_inj hy hq];exact hx,λys hy=>by rw[I.sq_inj hy hq2];exact hx2⟩,⟨c1,?_,⟨a1,b1',?_⟩,?_,?_⟩,λb hb=>?_⟩
  ·exact kp D.TIz (b7 TI _ D.TIz D.TITO D.TIi1 D.TIi2 hTI)
  ·exact kp D.TOz b2'
  ·exact b3.at λo e=>kp D.i1z e
  ·exact b4.at λo e=>kp D.i2z e
  rw[am (szT b hb)];exact(hf b hb).1
 done:=by
  intro X hP hw hK hc i pins s O H E I hf st hg;subst hP hw hK;obtain⟨xs,hq,hx⟩:=hg;obtain⟨its,rv,p,hsz⟩:=I.sq hq;obtain⟨hz,hTI,hTO,h1,h2⟩:=st;have hlen:=rv.length;refine LZg.next_end (a:=.none) (b:=.none) (I.ok.hd hc) D hz (.inl ⟨rfl,rfl,hTO⟩) hTI h1 p (by simp;omega) λh' eb=>⟨rfl,?_⟩
  exact I.turnedE (t':=s.toks) (ch:=[z,TI,TO,i1,i2]) (λb o nb q=>by
   simp only[Qw,QY,or_false,not_or]at nb
   exact eb b o nb.1 nb.2.2.2.1 q) hf
 self:=λ_ _ _ _ _ st h=>wpAny_pyIter_zip st.1 h
section
variable {X:Cx} {elts:List Expr} {k:Nat} {tpos:Pos}
def Bv (K:PySem.W.Frag) (ta:TA):TI:=λO H R=>ta O H λvs H1=>∃a b t1 t2,vs=[.ref a,.ref b]/\(∃xs,SqS t1 K H1 a xs)/\(∃ys,SqS t2 K H1 b ys)/\R (tH t1 t2 K a b) H1
theorem n0 {a b:Expr} {ta:TA} {p pos:Pos} (hg:Gl X "zip") (hm:X.mg "zip" = none) (ha:PA X [a,b] ta) (hs:starEach [a,b] X.env=[(false,eval a X.env),(false,eval b X.env)]:=by rfl) (hs2:starEach [b] X.env=[(false,eval b X.env)]:=by rfl):PI X (.Tuple elts k tpos) (.Call (.Name "zip" p) [a,b] [] pos) (Bv X.K ta):=by
 intro pins s O H R I h;refine Call_ (cO I hg hm boot_zip (Q7 (thn (ha pos pins s O H _ I h) λus s1 ⟨vs,H1,I1,r1,q1⟩=>?_) (by rw[hs,hs2]) (by rw[hs2];rfl)));obtain⟨l,m,t1,t2,e,⟨xs,hq⟩,⟨ys,hq2⟩,q⟩:=q1;subst e;obtain⟨u1,u2,eu,r3,r2⟩:=fY r1;subst eu;cases (show u1=Value.ref l from r3);cases (show u2=Value.ref m from r2)
 have frs:∀b∈[s1.heap.objs.size+4,s1.heap.objs.size+2,s1.heap.objs.size+3,s1.heap.objs.size,s1.heap.objs.size+1],s1.heap.objs.size<=b:=λb hb=>by
  simp only[Qw,QY,or_false]at hb;rcases hb with rfl|rfl|rfl|rfl|rfl
  ·exact Xg _ _
  ·exact Xg _ _
  ·exact Xg _ _
  ·exact Qi _
  exact Xg _ _
 obtain⟨its,rv,pl,hz⟩:=I1.sq hq;obtain⟨its2,rv2,pl2,hz2⟩:=I1.sq hq2;refine LZg.call_zip pl pl2 λh' b1 b2 b3 b4 b5 b6 b7=>?_;refine wpAny_pyIter_zip b1 ?_;have I2:Inv X pins O H1 { s1 with heap:=h' }:=I1.kept (t':=s1.toks) b7;have ll:@LT.lt Nat _ l s1.heap.objs.size:=pl.lt;have lm:@LT.lt Nat _ m s1.heap.objs.size:=pl2.lt;refine⟨s1.heap.objs.size+4,[s1.heap.objs.size+4,s1.heap.objs.size+2,s1.heap.objs.size+3,s1.heap.objs.size,s1.heap.objs.size+1],_,_,H1,rfl,I2,pb l m (s1.heap.objs.size+4) (s1.heap.objs.size+2) (s1.heap.objs.size+3) s1.heap.objs.size (s1.heap.objs.size+1) ?_ (by show @Ne Nat _ _;omega) (by show @Ne Nat _ _;omega) (by show @Ne Nat _ _;omega) (by show @Ne Nat _ _;omega),⟨b1,b2,⟨_,_,b3⟩,b4,b5⟩,λb hb=>I1.fpOk (frs b hb) (I1.hok.fresh (frs b hb)),q⟩
 constructor <;> (show @Ne Nat _ _;omega)
end
theorem m9 {K:PySem.W.Frag} {H1:Hp} {σ0:St} {g:TG} {te:TE} {tt:TT} {QD:Hp->Prop} {xs:List V} (Pv:Nat->Hp->List V->Prop) (h0:Pv 0 (upd H1 D (.lst [])) []) (hD:∀i H ys,Pv i H ys->H D=some (.lst ys)/\SqL K H a xs)
  (hs:∀i x H ys,xs[i]?=some x->Pv i H ys->g x σ0 H λσ2 H2=>wk σ0 σ2/\tt σ2 H2 λb H3=>if b=true then te σ2 H3 (oX Pv xs.length D i ys) else ∃m',m'<xs.length-i/\(m'=xs.length-(i+1)/\i+1<=xs.length/\Pv (i+1) H3 ys)) (hd:∀H ys,Pv xs.length H ys->QD H) :
  ∃W:Nat->Nat->Hp->List V->Prop,(∃m,W 0 m (upd H1 D (.lst [])) [])/\∀i m H ys,W i m H ys->H D=some (.lst ys)/\(((Itl K a).stop i H/\QD H)\/((Itl K a).go i H/\∀x H',(Itl K a).yld i H x H'->g x σ0 H' λσ2 H2=>wk σ0 σ2/\tt σ2 H2 λb H3 =>
   if b=true then te σ2 H3 λv H4=>H4 D=some (.lst ys)/\ys.length<sizeLine/\∃m',m'<m/\W (i+1) m' (upd H4 D (.lst (ys++[v]))) (ys++[v]) else ∃m',m'<m/\W (i+1) m' H3 ys)):=by
 refine⟨λi m H ys=>m=xs.length-i/\i<=xs.length/\Pv i H ys,⟨xs.length,by simp,Q0 _,h0⟩,?_⟩;rintro i m H ys ⟨rfl,hi,p⟩;obtain⟨d1,d2⟩:=hD i H ys p;refine⟨d1,?_⟩;by_cases hlt:i<xs.length
 ·refine .inr ⟨⟨xs,xs[i],d2,by simp[hlt]⟩,λx H' y=>?_⟩;obtain⟨e,y⟩:=y;subst e;exact hs i x _ ys (y xs d2) p
 have e:i=xs.length:=by exact om0 hi hlt
 subst e;exact .inl ⟨⟨xs,d2,Qi _⟩,hd H ys p⟩
theorem xN (n:Nat):((List.range n).all λ_=>true)=true:=XS.mpr λ_ _=>rfl
section
variable {K:PySem.W.Frag} {H:Hp} {Q:VK}
theorem Bs {a b:Addr} {xs ys:List V} (h1:SqL K H a xs) (h2:SqL K H b ys) (hl:xs.length=ys.length) (hi:∀(j:Nat) x y,xs[j]?=some x->ys[j]?=some y->EqD K H 8 x y true) (q:Q (.bl false) H):t_ K true (.ref a) (.ref b) H Q:=by
 refine⟨a,b,xs,ys,λ_=>true,rfl,rfl,h1,h2,hi,?_⟩;rw[xN,hl,beq_self_eq_true];exact q
end
section
variable {X:Cx}
end
section
variable {X:Cx} {scope:Scope} {tgs:List Str} {cap:List (Str × Nat)}
theorem nZ {j:Nat} {x:Str} {pos' spos:Pos} {elt tg iter:Expr} {ifs:List Expr} {pos:Pos} {wi:TI} {g:TG} {tt:TT} {te:TE} (hN:X.N.Nodup) (hj:X.N[j]?=some x) (hx:Loc X.env.scope x) (hc:X.calm=true) (B:BlockOk X scope tgs cap) (hi:PI X tg iter wi)
  (hg:∀C s H fp,PG (X.block (tgs++cap.map (·.1)) scope C s H fp) tg g) (ht:∀C s H fp,u7 (X.block (tgs++cap.map (·.1)) scope C s H fp) ifs tt) (he:∀C s H fp,PE (X.block (tgs++cap.map (·.1)) scope C s H fp) elt te)
  (hs:∀x,foldedSetIterable iter X.env x=pure x:=by intro _;rfl) (hsw:swapsWith (.ListComp elt [⟨tg,iter,ifs,0⟩] scope pos) (some (.Name x pos')) spos.line X.env=pure true:=by rfl)
  (hf:X.fn x=true\/X.env.scope.names.lookup x=some .local:=by z_go):PS X (.Assign [.Name x pos'] (.ListComp elt [⟨tg,iter,ifs,0⟩] scope pos) spos) (lZ (km wi g tt te (bv tgs cap)) (dH j)):=by
 intro pins s O H D I h;rw[exec_Assign_Name_used _ _ _ _ hsw];refine Qa (wpAny_standAt (Qa ?_));show wpAny _ _ (comprehension _ _ _ _ _ _ _ _ >>= _) _ _ _;refine Qa (thn (Q:=λ_ s'=>SP X pins D .next s') ?_ λ_ s' q=>Qe (Qe q));refine wpAny_comprehension_free (use:=some (assign (.Name x pos') X.env)) rfl hs (iz (B.cellAt I.ok)) B.kind B.locs (thn (hi pins s O H _ I h) λv s1 h1=>thn h1 λitv s2 h2=>?_);obtain⟨it,fp,tn,J,H2,e,I2,T,st2,f2,q⟩:=h2;subst e;have lt2:∀b∈fp,b<s2.heap.objs.size:=λb hb=>let ⟨o,e,_⟩:=T.obj _ _ st2 b hb;Qm e;have hD:H2 s2.heap.objs.size=none:=I2.hok.fresh (Qi _);obtain⟨W,⟨m0,w0⟩,turn⟩:=q s2.heap.objs.size hD;refine wpAny_newObj_type ?_;have I3:Inv X pins O (upd H2 s2.heap.objs.size (.lst [])) { s2 with heap:=s2.heap.push { cls:=.type "list", dict:=none,data:=.seq ([]:List Value).toArray } }:=I2.lnew (t':=s2.toks) (ys:=[]) (its:=[]) .nil (Q0 _);have st3:tn 0 (s2.heap.push { cls:=.type "list", dict:=none,data:=.seq ([]:List Value).toArray }):=T.keep _ _ _ st2 λb _ o e=>Qc _ e;have nD:∀b∈fp,b≠s2.heap.objs.size:=λb hb=>QM (lt2 b hb);have f3:∀b∈fp,dR X pins (upd H2 s2.heap.objs.size (.lst [])) b:=λb hb=>⟨by rw[am (nD b hb)];exact(f2 b hb).1,(f2 b hb).2⟩;generalize hs3:({ s2 with heap:=s2.heap.push { cls:=.type "list", dict:=none,data:=.seq ([]:List Value).toArray } }:Shared)=s3 at I3 st3 ⊢;have st3':tn 0 s3.heap:=by rw[<-hs3];exact st3
 have lt3:∀b∈fp,b<s3.heap.objs.size:=λb hb=>let ⟨o,e,_⟩:=T.obj _ _ st3' b hb;Qm e;generalize hH3:upd H2 s2.heap.objs.size (.lst [])=H3 at I3 f3 w0;generalize s2.heap.objs.size=DD at *;refine wpAny_newFunctionEnv B.noc (by intro y hy;simp at hy) (λh1 hns hsb=>?_) B.kind;have old:∀b o,s3.heap.get? b=some o->h1.get? b=some o:=λb o e=>hsb.extBut b o (QM (Qm e)) (Qc _ e);have I4:=Inv.enter (tk:=s3.toks+([]:List (Str × Value)).length) (h1:=h1) B I3 f3 lt3 hns old;have st4:tn 0 h1:=T.keep _ _ _ st3' λb _ o e=>old b o e
 have fpB:∀{H':Hp},(∀b∈fp,H' b=none)->∀b∈fp,dR (X.block (tgs++cap.map (·.1)) scope s3.heap.objs.size s3 H3 fp) [] H' b:=λ{H'} hn b hb =>
  ⟨hn b hb,QM (lt3 b hb),I4.ok.exfs b hb,.inl hb,λx c e=>(I4.ok.exf b hb).2 x c e,λp hp=>absurd (show p∈([]:D0) from hp) (by simp)⟩
 have loop:codeAny (model X.prog X.w) X.A (.compLoop (.ListComp elt [⟨tg,iter,ifs,0⟩] scope pos) 0 (.ref it) (.ref DD) (compEnvC scope (cz X.env scope.names []) s3.heap.objs.size X.env))
   (compPost (model X.prog X.w) X.A X.xe (some (assign (.Name x pos') X.env)) (λ_ s'=>SP X pins D .next s') (.ref DD) s3.heap.objs.size) { s3 with heap:=h1,toks:=s3.toks+([]:List (Str × Value)).length }:=by
  refine fk (λn s'=>∃i H' ys,Inv (X.block (tgs++cap.map (·.1)) scope s3.heap.objs.size s3 H3 fp) [] (bv tgs cap O) H' s'/\tn i s'.heap/\(∀b∈fp,H' b=none)/\W i n H' ys) ?_ m0 ⟨0,H3,[],I4,st4,λb hb=>(f3 b hb).1,w0⟩;rintro n s5 ⟨i,H5,ys,I5,st5,fr5,w5⟩;obtain⟨hl,ht5⟩:=turn i n H5 ys w5;rcases ht5 with⟨stop,qd⟩|⟨go,step⟩
  ·refine thn (T.done (X.block (tgs++cap.map (·.1)) scope s3.heap.objs.size s3 H3 fp) rfl rfl rfl hc i [] s5 _ H5 _ I5 (fpB fr5) st5 stop) λr s6 ⟨hr,I6⟩=>?_;subst hr;obtain⟨m6,n6,_⟩:=I6.loc;have IO:Inv X pins O H5 s6:=Inv.leave (h2:=s6.heap) I3 f3 I6 ⟨rfl,λ_ _=>rfl⟩;have fC:dR X pins H5 s3.heap.objs.size:=⟨I6.free,(I3.fpOk (Qi _) (I3.hok.fresh (Qi _))).2⟩;obtain⟨f0,f1,f2',f3',f4,f5⟩:=fC;refine wpAny_assign_Name (iN IO hN hj hx (show aR (.ref DD) (.ref DD) from rfl) (λs7 I7 ⟨a,sb,ha⟩=>?_) hf)
   have na:s3.heap.objs.size≠a:=by
    rcases ha with z|z
    ·rw[z];exact f1
    exact λy=>f4 x a z y.symm
   obtain⟨o6,es6,ep6,ho6,r6⟩:=n6;refine⟨m6,⟨o6,es6,ep6,(sb.2 _ na).trans ho6,r6⟩,λh' hs'=>⟨_,H5,I7.turned (t':=s7.toks) (λb o hb q=>(hs'.2 b hb).trans q) f0 f1 f3' f4 f5,qd⟩⟩
  refine thn (T.item (X.block (tgs++cap.map (·.1)) scope s3.heap.objs.size s3 H3 fp) rfl rfl rfl hc i [] s5 _ H5 _ I5 (fpB fr5) st5 go) λr s6 ⟨u,hr,h6⟩=>?_;subst hr;refine thn h6 λ_ s7 ⟨x,H7,I7,r7,y7,st7,fr7⟩=>?_;have I7':=I7.pinned (fpB fr7) (T.obj _ _ st7)
  have again:∀{σ8:St} {H8:Hp} {s8:Shared} {ys8:List V},Inv (X.block (tgs++cap.map (·.1)) scope s3.heap.objs.size s3 H3 fp) ([]++fJ fp s7.heap) σ8 H8 s8->wk (bv tgs cap O) σ8->(∃m',m'<n/\W (i+1) m' H8 ys8) ->
    ∃m,m<n/\∃i H' ys,Inv (X.block (tgs++cap.map (·.1)) scope s3.heap.objs.size s3 H3 fp) [] (bv tgs cap O) H' s8/\tn i s8.heap/\(∀b∈fp,H' b=none)/\W i m H' ys:=λ{σ8 H8 s8 ys8} I8 k8 ⟨m',hm,w8⟩=>by
   refine⟨m',hm,i+1,H8,ys8,I8.unpinned.weak (jj k8) (jk k8),T.keep _ _ _ st7 λb hb o e=>(I8.pin (b,o) (QJ _ (QJ _ (cC hb e)))).1,λb hb=>?_,w8⟩;obtain⟨o,e,d⟩:=T.obj _ _ st7 b hb;exact(I8.pin (b,o) (QJ _ (QJ _ (cC hb e)))).2.1
  refine thn (hg _ _ _ _ _ s7 _ H7 x u _ I7' r7 (step x H7 y7)) λ_ s8 ⟨σ8,H8,I8,k8,q8⟩=>?_;refine thn (ht _ _ _ _ _ s8 σ8 H8 _ I8 q8) λok s9 ⟨H9,I9,q9⟩=>?_
  cases ok with
  | false =>
   rw[Qn Qk]at q9 ⊢;exact again I9 k8 q9
  | true =>
  rw[Qp rfl]at q9 ⊢;refine thn (he _ _ _ _ _ s9 σ8 H9 _ I9 q9) λy sA ⟨yv,HA,IA,rA,hA,zA,qA⟩=>?_;exact thn (bL _ sA σ8 HA (.ref DD) [yv] (.ref DD) [y] (λv H'=>v=.non/\∃m',m'<n/\W (i+1) m' H' (ys++[yv])) IA rfl (.cons rA .nil) ⟨DD,ys,yv,rfl,rfl,hA,zA,rfl,qA⟩) λ_ sB ⟨_,HB,IB,_,_,qB⟩=>again IB k8 qB
 exact codeAny_compStart_list loop (T.self _ 0 _ _ _ st4 loop)
end
end L2
namespace LS
open PySem PySem.Spec PyProof.Rows
def met (g:Nat->Str):Nat->List Str
 | 0=>[]
 | i+1=>if g i∈met g i then met g i else met g i++[g i]
theorem jI (g:Nat->Str):∀i,(met g i).length<=i
 | 0=>Qi _
 | i+1=>by
  have q:=jI g i;show (if g i∈met g i then met g i else met g i++[g i]).length<=i+1
  split
  ·omega
  simp;omega
theorem jH (g:Nat->Str) (x:Str):∀i,x∈met g i↔∃j,j<i/\g j=x
 | 0=>by simp[met]
 | i+1=>by
  have q:=jH g x i
  have e:x∈met g (i+1)↔x∈met g i\/x=g i:=by
   show x∈(if g i∈met g i then met g i else met g i++[g i])↔_;by_cases h:g i∈met g i
   ·rw[Qp h];exact⟨.inl,λz=>z.elim id λz=>z▸h⟩
   rw[Qn h];simp
  rw[e,q]
  constructor
  ·rintro(⟨j,a,b⟩|a)
   ·exact⟨j,by omega,b⟩
   exact⟨i,by omega,a.symm⟩
  rintro⟨j,a,b⟩;rcases Nat.lt_succ_iff_lt_or_eq.mp a with c|c
  ·exact .inl ⟨j,c,b⟩
  subst c;exact .inr b.symm
theorem uV {g:Nat->Str} {n:Nat} (h:n+1<scanBound):∀i,i<n->(met g i).length+1<scanBound:=λi hi=>by have:=jI g i;omega
section
variable {prog:Program} {w:World} {A:Around} {R:Result->Shared->Prop} {I S:Addr} {fp wr:D4} {G:Array GenState->Array GenState->Prop} {n:Nat} {P:Nat->Value->Prop} {St:Nat->Shared->Prop}
abbrev f9 (prog:Program) (w:World) (h:Heap) (S:Addr) (g:Nat->Str) (i:Nat):Prop:=cK prog w h S (λx=>decide (x∈met g i)) (met g i).length
theorem f9.at {h h':Heap} {g:Nat->Str} {i:Nat} (q:f9 prog w h S g i) (k:∀o,h.get? S=some o->h'.get? S=some o):f9 prog w h' S g i:=by
 obtain⟨o,es,ep,t,e,r⟩:=q;exact⟨o,es,ep,t,k _ e,r⟩
theorem set_loop (W:WalksS prog w A.in1 I fp wr G n P St) (nS:S∉fp) (g:Nat->Str) (hg:∀i v,P i v->∃t,v=.str (g i) t) (hb:∀i,i<n->(met g i).length+1<scanBound) :
  ∀(m i:Nat) (s:Shared),n-i=m->i<=n->St i s->f9 prog w s.heap S g i->(∀s',Moved (S::wr) G s s'->f9 prog w s'.heap S g n->R (.ok (.ret .none)) s') ->
   codeAny (model prog w) A (.builtin "set.update.loop" ⟨[.ref S,.ref I],[]⟩) R s:=by
 have nW:S∉wr:=λz=>nS (W.sub _ z);have more:∀b∈wr,b∈S::wr:=λb z=>Qo _ z;intro m
 induction m with
 | zero =>
  intro i s em hi st q fin;obtain rfl:i=n:=by omega
  refine XB F.entry_set_update_loop ?_;rw[Xf X6 _];show wpAny _ A.in1 (pyNext (.ref I) >>= _) _ _ s;exact Qa (W.done s _ _ st λs1 mv=>Qe (fin s1 (mv.mono more) (q.at λo e=>mv.heap S _ nW e)))
 | succ m ih =>
 intro i s em hi st q fin;have lt:i<n:=by omega
 refine XB F.entry_set_update_loop ?_;rw[Xf X6 _];show wpAny _ A.in1 (pyNext (.ref I) >>= _) _ _ s;refine Qa (W.item i s _ _ lt st λv s1 hP st1 mv=>?_);obtain⟨t,rfl⟩:=hg i v hP;have q1:=q.at λo e=>mv.heap S _ nW e;show wpAny _ A.in1 (holding [Value.str (g i) t] (setAdd S (.str (g i) t)) >>= _) _ _ s1;refine Qa (QT ?_);unfold setAdd;refine QT (Qa ((strKind prog w).pyHash (k:=g i) (strKind_is _ _ _ _) ?_));have room:=hb i lt;refine u4 (s:={ s1 with toks:=s1.toks+1 }) q1 room λh2 _ sb q2=>?_
 have q3:f9 prog w h2 S g (i+1):=by
  refine cK.congr q2 (λx=>?_) ?_
  ·show (decide (x∈met g i) || decide (x=g i))=decide (x∈(if g i∈met g i then met g i else met g i++[g i]));by_cases z:g i∈met g i
   ·rw[Qp z];by_cases y:x=g i
    ·subst y;simp[z]
    simp[y]
   rw[Qn z];simp
  show (if decide (g i∈met g i)=true then _ else _)=(if g i∈met g i then met g i else met g i++[g i]).length;by_cases z:g i∈met g i
  ·simp[z]
  simp[z]
 refine Qe ⟨plainId_quiet X6 _,ih (i+1) _ (by omega) lt (W.frame _ s1 _ _ st1 (Nat.le_succ _) λb z o e=>?_) q3 λs3 mv3 q4=>?_⟩
 ·rw[sb.2 b (λy:b=S=>nS (by rw[<-y];exact z))];exact e
 refine fin s3 (Moved.trans W.gtrans ((mv.mono more).then_heap (Nat.le_succ _) λb o z e=>?_) mv3) q4;rw[sb.2 b (λy:b=S=>z (by rw[y];exact Xl))];exact e
end
section
variable {prog:Program} {w:World} {A:Around} {E:C9} {s:Shared}
theorem jQ {l:Addr} {its:Array Value} {g:Nat->Str} {Q:C9} (hh:A.handled=none) (hl:s.heap.IsList l its) (hi:∀(i:Nat) (v:Value),its[i]?=some v->∃t,v=.str (g i) t) (hb:∀i,i<its.size->(met g i).length+1<scanBound)
  (h:∀(h1:Heap) (tk:Nat),f9 prog w h1 s.heap.objs.size g its.size->(∀b o,s.heap.get? b=some o->h1.get? b=some o)->Q (.ref s.heap.objs.size) { s with heap:=h1,toks:=tk }) :
  wpAny (model prog w) A (call (.type "set") [.ref l]) Q E s:=by
 obtain⟨cl,tl,mro⟩:=F.called_set.mro;have y1:=F.called_set.made;have y2:=F.called_set.sub;refine wpAny_call (codeAny_of_tree ?_);show wpAny _ _ (callAny (.type "set") ⟨[.ref l],[]⟩) _ _ _;refine Qe ⟨Code.quiet_builtin _ (by decide +kernel),XB F.entry_type_call ?_⟩;rw[Around.under_plain (weight_type_call_type "set" [.ref l] []) rfl];have y3:=F.called_set.notType;have y4:=F.called_set.canCreate;have y5:=F.typeCall_set_1 (.ref l)
 repeat (any_goals (first|assumption|wp_step))
 refine codeAny_mono (tm (.ref l) (E:=E) (Q₁:=λv s1=>∃led:Bool,led=!(w.params.followText "set-order")/\v=.ref s.heap.objs.size/\s1={ s with heap:=s.heap.push (bare led) }) ⟨_,rfl,rfl,rfl⟩) λr s1 hr=>?_
 cases r with
 | error e=>exact hr
 | ok fl =>
 cases fl with
 | ret obj =>
  obtain⟨led,hled,rfl,rfl⟩:=hr;have hS:(s.heap.push (bare led)).get? s.heap.objs.size=some (bare led):=Qs _ rfl;have hT:Shared.TypeIs { s with heap:=s.heap.push (bare led) } (.ref s.heap.objs.size) "set" := ⟨_,hS,rfl⟩;have y6:=F.called_set.init.lookup;have y7:=F.called_set.init.bind (.ref s.heap.objs.size)
  repeat (any_goals (first|assumption|wp_step))
  refine codeAny_mono (codeAny_call_builtin (R:=wants (λv s2=>v=.none/\∃h1 tk,s2={ s with heap:=h1,toks:=tk }/\f9 prog w h1 s.heap.objs.size g its.size/\∀b o,s.heap.get? b=some o->h1.get? b=some o) E) F.called_set.init.plain F.entry_set_init (check_set_init_1 hT ?_)) λr2 s2 hr2=>?_
  ·obtain⟨ol,hol,hcl,nl,hdl⟩:=hl;obtain⟨ocls,odict,odata,oslots⟩:=ol;simp only at hcl hdl;subst hcl;subst hdl;have hol1:(s.heap.push (bare led)).get? l=some { cls:=.type "list", dict:=odict,data:=.seq its nl,slots:=oslots }:=Qc _ hol;have y8:=F.sub_list_set;have y9:=F.sub_list_frozenset;have y0:(Value.type "list" == Value.type "dict")=false:=by decide
   have hl1:(s.heap.push (bare led)).IsList l its:=⟨_,hol1,rfl,nl,rfl⟩;unfold Builtin.«set.__init__» noKeywords Builtin.Frozenset.updateFrom;generalize hPI:pyIter=PI
   wp_walk
   subst hPI;refine wpAny_pyIter_list hl1 ?_;refine Qa (wpAny_runValue ?_);have lS:l<s.heap.objs.size:=Qm hol
   have nI:l≠(s.heap.push (bare led)).objs.size:=by
    rw[Q8];exact QM (Nat.lt_succ_of_lt lS)
   have nF:s.heap.objs.size∉[(s.heap.push (bare led)).objs.size,l]:=by
    rw[Q8];simp only[Qw,QF,QY,or_false,not_or];exact⟨QM (Nat.lt_succ_self _),Nat.ne_of_gt lS⟩
   refine set_loop ((Walks.list (show A.in1.in1.in1.handled=none by simp[hh]) _ l nI its).toS) nF g hi hb (its.size-0) 0 _ (by omega) (Q0 _) ⟨⟨_,Qs _ rfl,rfl,rfl⟩,(hl1.push _)⟩ ?_ λs3 mv q=>?_
   ·have e:((s.heap.push (bare led)).push { cls:=.type "list_iterator", data:=.fields #[.ref l,.int 0 0] }).get? s.heap.objs.size=some (bare led):=Qc _ hS;exact cK.congr (cK.bare (by rw[e,hled])) (λ_=>by simp[met]) rfl
   obtain⟨h3,g3,d3,tk3,os3⟩:=s3;obtain rfl:g3=s.gens:=mv.gens;obtain rfl:d3=s.drawn:=mv.drawn;obtain rfl:os3=s.os:=mv.os;show wpAny _ _ _ _ _ _;refine Qe ?_;show wpAny _ _ (ret Value.none) _ _ _;refine Qe ⟨rfl,h3,tk3,rfl,q,λb o e=>?_⟩;have lb:=Qm e;have z1:b≠s.heap.objs.size:=QM lb
   have z2:b≠(s.heap.push (bare led)).objs.size:=by
    rw[Q8];exact QM (Nat.lt_succ_of_lt lb)
   exact mv.heap b o (by simp only[Qw,QF,QY,or_false,not_or];exact⟨z1,z2⟩) (Qc _ (Qc _ e))
  cases r2 with
  | error e=>exact hr2
  | ok fl2 =>
  cases fl2 with
  | ret r =>
   obtain⟨rfl,h1,tk,rfl,q,k⟩:=hr2
   repeat (any_goals (first|assumption|wp_step))
   exact h _ _ q k
  | _=>exact hr2.elim
 | _=>exact hr.elim
end
end LS
namespace L2
open PySem PySem.Spec PyProof.Rows
def o_ (ts:List Str):Nat:=(LS.met (λi=>ts.getD i Str.empty) ts.length).length
section
variable {X:Cx} {a:Expr} {ta:TA} {p p1 pos pos1:Pos}
def nE (K:PySem.W.Frag) (ta:TA):TE:=λO H Q=>ta O H λvs H1=>∃l ts,vs=[.ref l]/\SqL K H1 l (ts.map V.str)/\ts.length<1000/\Q (.int (o_ ts)) H1
theorem pJ (hc:X.calm=true) (hg:Gl X "len") (hm:X.mg "len" = none) (hg1:Gl X "set") (hm1:X.mg "set" = none) (ha:PA X [a] ta) (hs:starEach [a] X.env=[(false,eval a X.env)]:=by rfl)
  (he:starEach [.Call (.Name "set" p1) [a] [] pos1] X.env=[(false,eval (.Call (.Name "set" p1) [a] [] pos1) X.env)]:=by rfl) :
  PE X (.Call (.Name "len" p) [.Call (.Name "set" p1) [a] [] pos1] [] pos) (nE X.K ta):=by
 intro pins s O H Q I h;refine wpAny_Call_Name_kw (cO I hg hm Xe ?_);refine PyProof.Rows.callWith_builtin1 ?_ he rfl;rw[he];show wpAny _ _ (spliced ((false,eval (.Call (.Name "set" p1) [a] [] pos1) X.env)::backTo pos [])) _ _ s;refine Calls.spliced_cons ?_;refine Call_ (cO I hg1 hm1 PyProof.Rows.boot_set (Q7 (thn (ha pos1 pins s O H _ I h) λus s1 z=>?_) hs rfl));obtain⟨vs,H1,I1,r1,l,ts,e,hl,hsm,q⟩:=z;subst e;obtain⟨u1,e,ru1⟩:=dJ r1;subst e;cases ru1;obtain⟨its,rv,pl,_⟩:=I1.list hl;have hlen:its.length=ts.length:=by rw[<-rv.length,Qb]
 refine LS.jQ (its:=its.toArray) (g:=λi=>ts.getD i Str.empty) (I1.ok.hd hc) pl.isList (λi v hv=>?_) (LS.uV (by rw[Ql,hlen];unfold scanBound;omega)) λh3 tk q3 kept=>?_
 ·have hv':its[i]?=some v:=by simpa using hv
  have hi:i<ts.length:=by
   have:=(Qf.mp hv').1;omega
  have e1:(ts.map V.str)[i]?=some (.str (ts.getD i Str.empty)):=by
   rw[Qy,Qd hi,QQ,Qd hi];rfl
  obtain⟨u,hu,ru⟩:=rv.get e1;rw[hv']at hu;cases hu;obtain⟨t,e2⟩:=ru;exact⟨t,e2⟩
 refine Calls.spliced_nil ?_;have hz:its.toArray.size=ts.length:=by rw[Ql];exact hlen
 rw[hz]at q3;obtain⟨o,es,ep,t,ho,hex,hd,_,_,_,hf,hn,_⟩:=q3;have hle:=LS.jI (λi=>ts.getD i Str.empty) ts.length;refine PySem.call_len_set ho hex hd hf (by rw[hn];omega) ?_;exact⟨.int (o_ ts),H1,I1.kept (t':=tk+1+1) kept,⟨tk+1,by rw[hn];rfl⟩,q⟩
end
end L2
namespace LS
open PySem
theorem lx (g:Nat->Str):∀n,(met g n).length=n↔∀i j,i<n->j<n->g i=g j->i=j
 | 0=>⟨λ_ i j h=>absurd h (Nat.not_lt_zero _),λ_=>rfl⟩
 | n+1=>by
  have ih:=lx g n;have le:=jI g n
  have e:(met g (n+1)).length=if g n∈met g n then (met g n).length else (met g n).length+1:=by
   show (if g n∈met g n then met g n else met g n++[g n]).length=_
   split <;> simp
  constructor
  ·intro h;rw[e]at h;have ni:g n∉met g n:=λz=>by rw[Qp z]at h;omega
   rw[Qn ni]at h;have old:=ih.mp (by omega);have no:∀j,j<n->g j≠g n:=λj hj z=>ni ((jH g _ n).mpr ⟨j,hj,z⟩);intro i j hi hj hg;rcases Nat.lt_succ_iff_lt_or_eq.mp hi with a|a <;> rcases Nat.lt_succ_iff_lt_or_eq.mp hj with b|b
   ·exact old i j a b hg
   ·subst b;exact absurd hg (no i a)
   ·subst a;exact absurd hg.symm (no j b)
   omega
  intro h;have old:=ih.mpr λi j a b=>h i j (by omega) (by omega)
  have ni:g n∉met g n:=λz=>by
   obtain⟨j,hj,q⟩:=(jH g _ n).mp z;have:=h j n (by omega) (by omega) q;omega
  rw[e,Qn ni];omega
end LS
namespace L2
open PySem
theorem kh {ts:List Str}:o_ ts=ts.length↔ts.Nodup:=by
 unfold o_ List.Nodup;rw[LS.lx,XU];have at_:∀(i:Nat) (hi:i<ts.length),ts.getD i Str.empty=ts[i]:=λi hi=>by rw[QQ,Qd hi];rfl
 constructor
 ·intro h i j hi hj hij hq;have:=h i j hi hj (by rw[at_ i hi,at_ j hj,hq]);omega
 intro h i j hi hj hg;rw[at_ i hi,at_ j hj]at hg;by_cases a:i<j
 ·exact absurd hg (h i j hi hj a)
 by_cases b:j<i
 ·exact absurd hg.symm (h j i hj hi b)
 omega
end L2
namespace L2
open PySem PySem.Spec PyProof.Rows
section
variable {X:Cx} {o e:Expr} {apos cpos:Pos} {ty:TE} {T:Addr}
end
section
variable {K:PySem.W.Frag} {g:TG} {te:TE} {σ0:St} {QD:Hp->Prop} {H1:Hp} {D:Addr}
end
section
variable {X:Cx}
def BT (K:PySem.W.Frag) (te:TE):TE:=λO H Q=>te O H λx H1=>∃a xs,x=.ref a/\SqL K H1 a xs/\∀p,H1 p=none->Q (.ref p) (upd H1 p (.lst xs.reverse))
theorem rq {e st:Expr} {te ts:TE} {p2 pos:Pos} (he:PE X e te) (hst:PE X st ts) (h1:∀O H (Q:VK),Q (.int (-1)) H->ts O H Q):PE X (.Subscript e (.Slice none none (some st) p2) pos) (BT X.K te):=by
 intro pins s O H Q I h;refine Subscript_ (thn (he pins s O H _ I h) λv s1 ⟨x,H1,I1,r1,q1⟩=>?_);refine wpAny_Slice ?_;rw[evalPart_none];refine Qe ?_;refine Qe ?_;rw[evalPart_some];refine thn (hst pins s1 O H1 (λy H2=>y=.int (-1)/\H2=H1) I1 (h1 _ _ _ ⟨rfl,rfl⟩)) λvk s3 ⟨y,H3,I3,r3,e1,e2⟩=>?_;subst e1 e2;obtain⟨t,rfl⟩:=r3;obtain⟨a,xs,rfl,hx,q⟩:=q1;cases r1;have I4:Inv X pins O H3 { s3 with heap:=s3.heap.push { cls:=.type "slice", data:=.fields #[.none,.none,.int (-1) t] } }:=I3.kept (t':=s3.toks) λb ob q=>Qc _ q;obtain⟨its,r,ht,hz⟩:=I4.list hx;have hlen:=r.length;refine tail_any (ops:=[.ref a,.ref s3.heap.objs.size]) ht.isList.typeIs slot_list_getitem.lookup ?_ (by with_unfolding_all rfl);refine wpAny_getItem_list_slice ht.isList (Heap.IsSliceOf.new ..) .none .none (.int _ _) (by decide) ?_ (by rw[Ql] <;> exact om4 hz hlen);rw[PySem.W.krv_pick];refine⟨.ref (s3.heap.push { cls:=.type "slice", data:=.fields #[.none,.none,.int (-1) t] }).objs.size,_,I4.laid (t':=s3.toks) (o:=.lst xs.reverse) (λb ob q=>Qc _ q) (Qi _) ?_,rfl,q _ (I4.hok.fresh (Qi _))⟩;exact⟨by rw[List.length_reverse];exact hz,_,0,r.reverse,Qs _ rfl⟩
end
section
variable {K:PySem.W.Frag} {g:TG} {te:TE} {tt:TT} {σ0:St} {QD:Hp->Prop} {H1:Hp} {D:Addr}
end
end L2
namespace L2
open PySem PySem.Spec PyProof.Rows
open AutoSeq1 (wpAny_loadPart')
section
variable {A:Around} {s:Shared} {l:Addr}
end
section
variable {X:Cx}
end
end L2
namespace L2
open PySem PySem.Spec PyProof.Rows
section
variable {X:Cx}
end
end L2
namespace L2
open PySem PySem.StrLaws PySem.Builtin.Str
def JJ (Y:List Nat):List Nat->List (List Nat)->List Nat
 | p,[]=>p
 | p,q::r=>p++(Y++JJ Y q r)
end L2
namespace XE
open PySem
open Sem (wp)
structure XN (fs:D4) (e T:Addr) (oe:Obj) (h h':Heap):Prop where
 keep:∀b o,b≠e->b∉fs->h.get? b=some o->h'.get? b=some o
 slot:∀b o,b≠e->h.get? b=some o->∃sl,h'.get? b=some { o with slots:=sl }
 at_:h'.get? e=some (oe.mapFields (·.setIfInBounds 1 (.ref T)))
 new:h.get? T=none
abbrev tbO (head:Value) (L:Addr) (pc:List Value):Obj:={ cls:=.type "traceback", dict:=none,data:=.fields ([head,.ref L,.none,rawInt L,.none]++(if pc.isEmpty then List.replicate 6 Value.none else pc)).toArray }
section
variable {M:Model} {A:Around} {E:C9} {s:Shared}
variable {Q:Unit->Shared->Prop} {vs ts:Array Value} {oe o:Obj} {L e T:Addr} {outer:List Env} {env:Env}
theorem ji {base:Heap} {head:Value} {hadNext:Bool}
  (fr:A.frames=some (env::outer)) (ff:s.heap.FunFrames base (env::outer)) (fL:env.frame=some L)
  (ee:s.heap.get? e=some oe) (ed:oe.data=.fields vs) (sz:1<vs.size)
  (h:∀h' T oT ts,XN ((env::outer).filterMap (·.frame)) e T oe s.heap h'->h'.get? T=some oT->oT.data=.fields ts->ts[3]?=some (rawInt L)->T≠e->Q () { s with heap:=h' }) :
  wpAny M A (do let a <-frameOf env;let pc <-entryPlaceOf L hadNext;let b <-EntryCells.newEntry head a .none (rawInt L) .none pc;setField (.ref e) 1 b) Q E s:=by
 have nef:e∉(env::outer).filterMap (·.frame):=λmm=>by
  obtain⟨_,o,eo,nf⟩:=ff.mem mm;rw[ee]at eo;injection eo with eo;subst eo;exact nf vs ed
 refine Qa (wpAny_frameOf_fun fr ff fL λg1 so=>?_);refine Qa (wpAny_entryPlaceOf λpc pk=>?_);unfold EntryCells.newEntry newFields;refine Qa (wpAny_newObj_type ?_ (pk.sizeOk5 _ _ _ _ _));have x1:g1.get? e=some oe:=(so.2.1 e nef).trans ee;have x2:=Qc (h:=g1) (tbO head L pc) x1;refine wpAny_setField x2 ed sz ?_;have nTe:g1.objs.size≠e:=Nat.ne_of_gt (Qm x1);have x3:=QL ed (·.setIfInBounds 1 (Value.ref g1.objs.size));have x4:=QU (Obj.mapFields (·.setIfInBounds 1 (Value.ref g1.objs.size))) x2 (Xb x3)
 have x5:=(Qq (g1.push (tbO head L pc))
  (Obj.mapFields (·.setIfInBounds 1 (Value.ref g1.objs.size))) (Xo nTe)).trans (Qs g1 rfl)
 have keep:∀b o,b≠e->g1.get? b=some o ->
   ((g1.push (tbO head L pc)).update e (Obj.mapFields (·.setIfInBounds 1 (Value.ref g1.objs.size)))).get? b=some o :=
  λb o nbe eb=>by
   rw[Qq _ _ (Xo nbe)];exact Qc _ eb
 refine h _ g1.objs.size _ _ ⟨λb o nbe nbf eb=>keep b o nbe ((so.2.1 b nbf).trans eb),λb o nbe eb=>?_,x4,?_⟩ x5 rfl ?_ nTe
 ·obtain⟨sl,ez⟩:=so.2.2 b o eb;exact⟨sl,keep b _ nbe ez⟩
 ·exact XM (by first|exact Nat.le_of_eq so.1.symm|exact Nat.le_of_eq so.1|(rw[so.1];exact Qi _))
 first|(simp;done)|(rcases pk with rfl|⟨_,_,_,_,_,_,_,rfl⟩ <;> simp)
theorem eU {oT:Obj} {f:Option Addr} (ee:s.heap.get? e=some oe) (ed:oe.data=.fields vs) (v1:vs[1]?=some (.ref T))
  (eT:s.heap.get? T=some oT) (dT:oT.data=.fields ts) (v3:3<ts.size)
  (h:Q () { s with heap:=s.heap.update T (Obj.mapFields (·.setIfInBounds 3 (f.elim Value.none λf=>rawInt f))) }):wpAny M A (setFlight (.ref e) f) Q E s:=by
 unfold setFlight;refine Qa (QP ee ed v1 ?_);rw[Qp (show (Value.ref T != Value.none)=true from by simp)];exact wpAny_setField eT dT v3 h
structure Tr (e T:Addr) (h:Heap):Prop where
 ex:∃oe vs oT ts,h.get? e=some oe/\oe.data=.fields vs/\vs[1]?=some (.ref T)/\h.get? T=some oT/\oT.data=.fields ts/\ts[3]?=some .none
 ne:T≠e
structure XL (fs:D4) (e:Addr) (Ts:D4) (h h':Heap):Prop where
 keep:∀b o,b≠e->b∉Ts->b∉fs->h.get? b=some o->h'.get? b=some o
 slot:∀b o,b≠e->b∉Ts->h.get? b=some o->∃sl,h'.get? b=some { o with slots:=sl }
 at_:∀oe,h.get? e=some oe->∃oe',h'.get? e=some oe'/\oe'.cls=oe.cls/\oe'.dict=oe.dict
theorem b8 {f:Array Value->Array Value}:(o.mapFields f).cls=o.cls/\(o.mapFields f).dict=o.dict:=by
 obtain⟨c,d,dt,sl⟩:=o;cases dt <;> exact⟨rfl,rfl⟩
theorem wa {base:Heap}
  (fr:A.frames=some (env::outer)) (ff:s.heap.FunFrames base (env::outer)) (fL:env.frame=some L)
  (ee:s.heap.get? e=some oe) (ed:oe.data=.fields vs) (v1:vs[1]?=some .none)
  (h:∀h' T,XL ((env::outer).filterMap (·.frame)) e [] s.heap h'->Tr e T h'->s.heap.get? T=none->Q () { s with heap:=h' }):wpAny M A (leaving env (.ref e)) Q E s:=by
 unfold leaving noteFrame;simp only[fL];refine Qa (Qa (QP ee ed v1 ?_));rw[Qn (by decide)];have sz:=(Qx.mp v1).1;refine ji fr ff fL ee ed sz λh' T oT ts x eT dT v3 hne=>?_;have x3:=QL ed (·.setIfInBounds 1 (Value.ref T));have v3':=(Qx.mp v3).1;refine eU (s:={ s with heap:=h' }) x.at_ x3 (by simp[sz]) eT dT v3' ?_;have ne:∀b o,s.heap.get? b=some o->T≠b:=λb o q z=>by rw[<-z,x.new]at q;cases q
 refine h _ T ⟨λb o eb _ fL q=>?_,λb o eb _ q=>?_,λoe' q=>?_⟩ ⟨⟨_,_,_,_,?_,x3,by simp[sz],QU _ eT (Xb (QL dT _)),QL dT _,by simp[v3']⟩,hne⟩ x.new
 ·exact(Qq _ _ (ne b o q)).trans (x.keep b o eb fL q)
 ·obtain⟨sl,z⟩:=x.slot b o eb q;exact⟨sl,(Qq _ _ (ne b o q)).trans z⟩
 ·rw[ee]at q;cases q;exact⟨_,(Qq _ _ hne).trans x.at_,b8.1,b8.2⟩
 exact(Qq _ _ hne).trans x.at_
theorem u8 {base:Heap}
  (fr:A.frames=some (env::outer)) (ff:s.heap.FunFrames base (env::outer)) (fL:env.frame=some L) (t:Tr e T s.heap)
  (h:∀h' T',XL ((env::outer).filterMap (·.frame)) e [T] s.heap h'->Tr e T' h'->s.heap.get? T'=none->Q () { s with heap:=h' }) :
  wpAny M A (noteFrame (.ref e) env) (λ_ s₂=>wpAny M A (setFlight (.ref e) none) Q E s₂) E s:=by
 obtain⟨⟨oe,vs,oT,ts,ee,ed,v1,eT,dT,v3⟩,nTe⟩:=t;unfold noteFrame;simp only[fL];refine Qa (QP ee ed v1 ?_);rw[Qp (show (Value.ref T != Value.none)=true from by simp)];refine Qa (QP eT dT v3 ?_);rw[Qn (show ¬((Value.none==rawInt L)=true) from by simp[rawInt])];refine Qa (wpAny_setField eT dT (Qx.mp v3).1 ?_);have sz:=(Qx.mp v1).1;have els:∀b,b≠T->(s.heap.update T (Obj.mapFields (·.setIfInBounds 3 Value.none))).get? b=s.heap.get? b:=λb eb=>Qq _ _ (Xo eb)
 have norec:∀b o,s.heap.get? b=some o->(∀vs,o.data≠.fields vs)->b≠T:=λb o eb nf q=>by
  rw[q,eT]at eb;injection eb with eb;subst eb;exact nf ts dT
 refine ji (ff:=ff.of_keeps λb o eb nf=>⟨o,(els b (norec b o eb nf)).trans eb,rfl⟩) fr (fL:=fL) (ee:=(els e (Xo nTe)).trans ee) ed sz λh' T' oT' ts' x eT' dT' v3' hne=>?_;have x3:=QL ed (·.setIfInBounds 1 (Value.ref T'));have v3'':=(Qx.mp v3').1
 have nT:T≠T':=λz=>by
  have q:=x.new;rw[<-z,QU _ eT (Xb (QL dT _))]at q;cases q
 have new:s.heap.get? T'=none:=by
  have q:=x.new
  change (s.heap.update T (Obj.mapFields (·.setIfInBounds 3 Value.none))).get? T'=none at q
  rwa [els T' (Xo nT)]at q
 refine eU (s:={ s with heap:=h' }) x.at_ x3 (by simp[sz]) eT' dT' v3'' ?_;have ne:∀b o,s.heap.get? b=some o->T'≠b:=λb o q z=>by rw[<-z,new]at q;cases q
 refine h _ T' ⟨λb o eb ht fL q=>?_,λb o eb ht q=>?_,λoe' q=>?_⟩ ⟨⟨_,_,_,_,?_,x3,by simp[sz],QU _ eT' (Xb (QL dT' _)),QL dT' _,by simp[v3'']⟩,hne⟩ new
 ·exact(Qq _ _ (ne b o q)).trans (x.keep b o eb fL ((els b (λz=>ht (by simp[z]))).trans q))
 ·obtain⟨sl,z⟩:=x.slot b o eb ((els b (λz=>ht (by simp[z]))).trans q);exact⟨sl,(Qq _ _ (ne b o q)).trans z⟩
 ·rw[ee]at q;cases q;exact⟨_,(Qq _ _ hne).trans x.at_,b8.1,b8.2⟩
 exact(Qq _ _ hne).trans x.at_
theorem oY {base:Heap}
  (fr:A.frames=some (env::outer)) (ff:s.heap.FunFrames base (env::outer)) (fL:env.frame=some L) (t:Tr e T s.heap)
  (h:∀h' T',XL ((env::outer).filterMap (·.frame)) e [T] s.heap h'->Tr e T' h'->s.heap.get? T'=none->Q () { s with heap:=h' }):wpAny M A (leaving env (.ref e)) Q E s:=by
 unfold leaving;exact Qa (u8 fr ff fL t h)
theorem we {fs:D4} (t:Tr e T s.heap) (h:∀h',XL fs e [T] s.heap h'->Tr e T h'->Q () { s with heap:=h' }):wpAny M A (setFlight (.ref e) none) Q E s:=by
 obtain⟨⟨oe,vs,oT,ts,ee,ed,v1,eT,dT,v3⟩,nTe⟩:=t;have v3':=(Qx.mp v3).1;have els:∀b,b≠T->(s.heap.update T (Obj.mapFields (·.setIfInBounds 3 ((none:Option Addr).elim Value.none λf=>rawInt f)))).get? b=s.heap.get? b:=λb eb=>Qq _ _ (Xo eb);refine eU ee ed v1 eT dT v3' (h _ ⟨λb o _ ht _ q=>(els b (λz=>ht (by simp[z]))).trans q,λb o _ ht q=>⟨o.slots,(els b (λz=>ht (by simp[z]))).trans q⟩,λoe' q=>⟨oe',(els e (Xo nTe)).trans q,rfl,rfl⟩⟩ ⟨⟨oe,vs,_,_,(els e (Xo nTe)).trans ee,ed,v1,QU _ eT (Xb (QL dT _)),QL dT _,by simp[v3']⟩,nTe⟩)
end
end XE
namespace XE
open PySem
abbrev Lk {α:Type} (M:Model) (g:Heap) (t:Sem α) (r:α):Prop:=∀(A:Around) (Q:α->Shared->Prop) (E:C9) (s:Shared),(∀b o,g.get? b=some o->s.heap.get? b=some o)->Q r s->wpAny M A t Q E s
abbrev mH (us:List Value):Obj:={ cls:=.type "tuple", data:=.seq us.toArray }
abbrev newExc (C p:Addr):Obj:={ cls:=.ref C,data:=.fields #[.ref p,.none,.none,.none,.bool false,.none] }
structure XC (g:Heap) (C:Addr) (B new:String) (up top:List Value):Prop where
 obj:∃nm q N bs hd sn sub ab col dd a0 a1 a2 a3 a5,g.get? C=some (excClassObj nm q C N bs up hd sn sub ab col dd a0 a1 a2 a3 a5 new)
 tail:OwnTail g top up
theorem XC.keeps {g g':Heap} {C:Addr} {B new:String} {up top:List Value} (x:XC g C B new up top) (k:∀b o,g.get? b=some o->g'.get? b=some o):XC g' C B new up top:=by
 obtain⟨a1,a2,a3,a4,a5,a6,a7,a8,a9,a10,a11,a12,a13,a14,a15,e⟩:=x.obj;exact⟨⟨a1,a2,a3,a4,a5,a6,a7,a8,a9,a10,a11,a12,a13,a14,a15,k _ _ e⟩,x.tail.keeps k⟩
section
variable {P:Program} {w:World} {A:Around} {E:C9} {g:Heap} {gs:Array GenState} {dr:Drawn} {tk:Nat} {os:OsState} {C:Addr} {B new init:String} {up top:List Value}
abbrev made (g:Heap) (C:Addr) (us:List Value):Heap:=(g.push (mH us)).push (newExc C g.objs.size)
theorem fg {b:Addr} {o:Obj} {us:List Value} (e:g.get? b=some o):(made g C us).get? b=some o:=Qc _ (Qc _ e)
theorem se {us:List Value}:(made g C us).get? (g.objs.size+1)=some (newExc C g.objs.size):=by
 have e:=Qs (g.push (mH us)) (o:=newExc C g.objs.size) rfl;rwa [Q8]at e
theorem xV (F:ExcBaseFacts B new init top) (x:XC g C B new up top) {e p:Addr} {ob:Obj} {us:List Value} {Q:C9} (e1:g.get? e=some ob) (e2:ob.cls=.ref C)
  (e3:ob.data=.fields #[.ref p,.none,.none,.none,.bool false,.none]) (few:us.length<=sizeLine)
  (k:∀g',(∀b o,b≠e->g.get? b=some o->g'.get? b=some o)->g'.get? e=some { ob with data:=.fields #[.ref g.objs.size,.none,.none,.none,.bool false,.none] }->Q .none ⟨g',gs,dr,tk,os⟩) :
  wpAny (model P w) A (call (.builtin init) (.ref e::us)) Q E ⟨g,gs,dr,tk,os⟩:=by
 obtain⟨⟨nm,q,N,bs,hd,sn,sub,ab,col,dd,a0,a1,a2,a3,a5,eC⟩,T⟩:=x;refine wpAny_call (codeAny_call_builtin F.init.plain F.initEntry (wpAny_check_init_subT F T eC e1 e2 ?_));have e4:=Qc (mH us) e1;obtain⟨oc,od,odt,osl⟩:=ob;dsimp only at e2 e3;subst e2 e3
 wp_walk
 refine k _ (λb o ne z=>(Qq _ _ (Xo ne)).trans (Qc _ z)) ?_;rw[QU _ e4 rfl];rfl
theorem v5 {M:Model} {env:Env} {s:Shared} {t:Sem Value} {Q:Flow->Shared->Prop} (hb:top.contains (.type "BaseException")=true) (hh:A.handled=none)
  (k:wpAny M A t (λv s1=>∃e ob p,v=.ref e/\XC s1.heap C B new up top/\s1.heap.get? e=some ob/\ob.cls=.ref C/\ob.data=.fields #[.ref p,.none,.none,.none,.bool false,.none]/\E (.ref e) s1) E s) :
  wpAny M A (raiseStmt env (some t) none) Q E s:=by
 unfold raiseStmt;refine Qa (Xm k (λv s1 z=>?_) λ_ _ z=>z);obtain⟨e,ob,p,e0,⟨⟨nm,q,N,bs,hd,sn,sub,ab,col,dd,a0,a1,a2,a3,a5,eC⟩,T⟩,e1,e2,e3,z⟩:=z;subst e0;have base:(Value.ref C::up).contains (.type "BaseException")=true:=by rw[List.contains_cons,T.hasType hb];rfl
 obtain⟨h1,g1,d1,t1,o1⟩:=s1;obtain⟨oc,od,odt,osl⟩:=ob;dsimp only at e2 e3;subst e2 e3
 repeat (first|with_reducible refine wpAny_loadPart_at e1 ?_|(with_reducible refine wpAny_isSubtype_exc eC ?_;rw[base])|wp_step)
 exact wpAny_raiseNew_none hh z
end
end XE
set_option maxHeartbeats 1000000
namespace XE
open PySem PySem.W PySem.Calls PyProof.Rows Builtin Builtin.ObjectAttr
abbrev iC:List Value:=[.type "ValueError", .type "Exception", .type "BaseException", .type "object"]
structure XKl (K:Frag) (C NE:Addr):Prop where
 mr:((clsIn K C).any λcd=>cd.mro==.ref C::.ref NE::iC)=true
 ga:findIn K (.ref C) "__getattribute__" = some (some (.builtin "BaseException.__getattribute__"))
 gh:findIn K (.ref C) "__getattr__" = some none
 sb:subIn K (.ref C) (.type "BaseException")=some true
 hd:hasDictIn K C=true
 cl:findIn K (.ref C) "__class__" = some (some (.builtin "object.__class__"))
 cg:specialIn K (.builtin "object.__class__") "__get__" = some (some (.builtin "getset_descriptor.__get__"))
 ct:takesIn K (.builtin "object.__class__")=some true
 ob:mroIn K C (.type "object")=some true
 sa:findIn K (.ref C) "__setattr__" = some (some (.builtin "object.__setattr__"))
theorem bga:Slot "ValueError" "__getattribute__" "BaseException.__getattribute__" :=
 .of (owner := "BaseException") (n := "__getattribute__") (by rw[typeLookup_type,builtinLookup_eq_fast];kernel_rfl) (by decide +kernel) (by decide +kernel) (by decide +kernel) (by first|exact .inl (by decide +kernel)|exact .inr (by decide +kernel)) (by rw[isSubtype_type];kernel_rfl)
theorem BH:builtinKind "BaseException.__getattribute__" = some .slot:=by decide +kernel
theorem BF:splitId "BaseException.__getattribute__" = some ("BaseException", "__getattribute__"):=by decide +kernel
theorem BG:(Value.builtin "BaseException.__getattribute__" == Value.builtin "object.__getattribute__")=false:=by decide +kernel
section
variable {P:Program} {w:World} {A:Around} {E:C9} {R:Result->Shared->Prop} {s:Shared} {K:Frag} {x C NE:Addr} {ox:Obj} {od:Option Obj} {name:Str}
theorem xby {tk:Tok} {fill expr:Bool} {Q:C9} (X:K.In s.heap) (I:InstAt s.heap x ox C od) (k:XKl K C NE)
  (h:wpAny (model P w) A.in1 (Builtin.«object.__getattribute__» ⟨[.ref x,.str name tk],[]⟩) (λfin s'=>match fin with|.done (.ret v)=>wpAny (model P w) A (handedOut v) Q E s'|_=>False) (λ_ _=>False) s) :
  wpAny (model P w) A (getAttrBy (.ref x) (.str name tk) fill expr) Q E s:=by
 have hx:(expr&&onTheHeap (Value.builtin "BaseException.__getattribute__"))=false:=by cases expr <;> rfl
 unfold getAttrBy;refine QT (Qa (I.type.here (Qa ((looks_findIn X k.ga).here ?_))));dsimp only;rw[BG,Bool.and_false,Qn (by decide)];unfold getAttrByItsOwn;refine Qa ((looks_hook (mc:=.ref C) X (r:=none) (by rw[Qp (show onTheHeap (Value.ref C)=true from rfl)];exact k.gh)).here (Qa (wpAny_attempt (QT ?_))));unfold callGetattribute;rw[hx,Qn (by decide)];unfold boundAndCalled;rw[bga.bind];refine Qa (Qe ?_);show wpAny _ _ (call (.builtin "BaseException.__getattribute__") [.ref x,.str name tk]) _ _ _;refine wpAny_call ?_;refine codeAny_call_builtin bga.plain F.entry_bexc_ga ?_;refine @check_slot (model P w) _ _ s "BaseException.__getattribute__" "BaseException" "__getattribute__" (.ref x) [.str name tk] [] _ BH BF (I.type.andThen (looks_subIn X k.sb)) (F.args_bexc_ga (.ref x) (.str name tk)) ?_;refine Xm h (λfin s' z=>?_) λ_ _ z=>z.elim;rcases fin with(_|_|_|_)|_ <;> first|exact z|exact z.elim
end
end XE
namespace L2
open PySem PySem.Spec PyProof.Rows PySem.Calls
def XOk (e C:Addr) (d:Option Addr) (fresh:Bool) (h:Heap):Prop:=∃o vs,h.get? e=some o/\o.cls=.ref C/\o.dict=d/\o.data=.fields vs/\(fresh=true->∃t,vs=#[.ref t,.none,.none,.none,.bool false,.none])
abbrev XO (e C:Addr) (d:Option Addr) (fresh:Bool):HO:=.ext (XOk e C d fresh)
section
variable {P:Program} {w:World} {H H1 H2:Hp} {h h1 h2:Heap} {a e C L:Addr} {d:Option Addr} {b:Bool} {o u:HO} {fs Ts:D4}
theorem gx (x:XOk e C d b h):bp P w H h e (XO e C d b):=by
 obtain⟨o,vs,h1,r⟩:=id x;exact⟨x,⟨o,h1⟩,λg1 g2 ⟨o,vs,q,r⟩ k=>⟨o,vs,k o q,r⟩⟩
theorem bp.there (x:bp P w H h a o):∃u,h.get? a=some u:=by
 induction o with
 | lst xs=>obtain⟨_,_,_,_,e⟩:=x;exact⟨_,e⟩
 | tup xs=>obtain⟨_,_,_,_,e,_⟩:=x;exact⟨_,e⟩
 | dK kvs=>obtain⟨_,_,_,_,o,_,_,e,_⟩:=x;exact⟨_,e⟩
 | dT kvs=>obtain⟨_,_,_,_,o,_,_,e,_⟩:=x;exact⟨_,e⟩
 | set S n=>obtain⟨o,_,_,_,e,_⟩:=x;exact⟨_,e⟩
 | ins C dx fs=>obtain⟨_,_,_,e,_⟩:=x;exact⟨_,e⟩
 | own y=>obtain⟨_,e⟩:=x;exact⟨_,e⟩
 | xd fs=>obtain⟨_,⟨_,_,_,e,_⟩,_⟩:=x;exact⟨_,e⟩
 | rng lo hi=>obtain⟨_,_,_,e⟩:=x;exact⟨_,e⟩
 | frz ob u ih=>obtain⟨e,_⟩:=x;exact⟨_,e⟩
 | tbl ps=>exact⟨_,(show h.get? a=some _ from x)⟩
 | met f y=>exact⟨_,(show h.get? a=some _ from x)⟩
 | ext φ=>obtain⟨_,e,_⟩:=x;exact e
theorem HOk.nothere (x:HOk P w H h) (n:h.get? a=none):H a=none:=by
 cases q:H a with
 | none=>rfl
 | some u=>obtain⟨v,z⟩:=(x a u q).there;rw[n]at z;cases z
variable {ψ φ:Heap->Prop}
theorem Un.exc (x:Un fs [] H H1 h h1) (he:H1 e=some (.ext φ)) (he2:H2 e=some (.ext ψ)) (els:∀b,b≠e->H2 b=H1 b) (y:XE.XL (L::fs) e Ts h1 h2) (hL:h.get? L=none) (hT:∀T∈Ts,h.get? T=none):Un fs [] H H2 h h2:=by
 have ne:∀b ob,h.get? b=some ob->H b=none->b≠e:=λb ob q n z=>by
  have:=x.free b ob q n (by simp);rw[z,he]at this;cases this
 have nT:∀b ob,h.get? b=some ob->b∉Ts:=λb ob q z=>by rw[hT b z]at q;cases q
 have nL:∀b ob,h.get? b=some ob->b≠L:=λb ob q z=>by rw[z,hL]at q;cases q
 refine⟨λb ob q n hb _=>?_,λb ob q n hb _=>?_,λb ob q n _=>?_,λb ob q _=>?_,λb xs q=>?_,λb ob u q=>?_,λb ps q=>?_⟩
 ·exact y.keep b ob (ne b ob q n) (nT b ob q) (λz=>(Qw.mp z).elim (nL b ob q) hb) (x.keep b ob q n hb (by simp))
 ·obtain⟨sl,z⟩:=x.slot b ob q n hb (by simp);obtain⟨sl2,z2⟩:=y.slot b _ (ne b ob q n) (nT b ob q) z;exact⟨sl2,z2⟩
 ·rw[els b (ne b ob q n)];exact x.free b ob q n (by simp)
 ·obtain⟨o',z⟩:=x.there b ob q (by simp);by_cases hb:b=e
  ·subst hb;obtain⟨oe,z2,_⟩:=y.at_ o' z;exact⟨oe,z2⟩
  obtain⟨sl,z2⟩:=y.slot b o' hb (nT b ob q) z;exact⟨_,z2⟩
 ·have z:=x.tups b xs q;rw[els b (hU z he (by intro k;cases k))];exact z
 ·have z:=x.frzs b ob u q;rw[els b (hU z he (by intro k;cases k))];exact z
 obtain⟨m,z⟩:=x.tbls b ps q;exact⟨m,by rw[els b (hU z he (by intro k;cases k))];exact z⟩
theorem HOk.exc (x:HOk P w H1 h1) (he:H1 e=some (.ext φ)) (he2:H2 e=some (.ext ψ)) (new:bp P w H2 h2 e (.ext ψ)) (els:∀b,b≠e->H2 b=H1 b) (y:XE.XL fs e Ts h1 h2) (hf:∀b∈fs,H1 b=none) (hT:∀T∈Ts,H1 T=none):HOk P w H2 h2:=λb u q=>by
 by_cases hb:b=e
 ·subst hb;rw[he2]at q;cases q;exact new
 rw[els b hb]at q
 have trk:∀c v ob,c≠e->H1 c=some v->h1.get? c=some ob->h2.get? c=some ob:=λc v ob hc z k =>
  y.keep c ob hc (λi=>by rw[hT c i]at z;cases z) (λi=>by rw[hf c i]at z;cases z) k
 refine(x b u q).stay (λc ob hc k=>?_) (λc z=>?_) λc xs z=>?_
 ·rcases hc with z|z
  ·subst z;exact trk c u ob hb q k
  exact trk c _ ob (hU z he (by intro k;cases k)) z k
 ·rw[els c (hU z he (by intro k;cases k))];exact z
 rw[els c (hU z he (by intro k;cases k))];exact z
theorem jh (x:XOk e C d b h1) (y:XE.XL fs e Ts h1 h2) (t:∃T,XE.Tr e T h2):XOk e C d false h2:=by
 obtain⟨o,vs,h1,c1,c2,_⟩:=x;obtain⟨oe,z,e1,e2⟩:=y.at_ o h1;obtain⟨T,⟨oe',vs',_,_,z',dd,_⟩,_⟩:=t;rw[z]at z';cases z';exact⟨oe,vs',z,e1.trans c1,e2.trans c2,dd,λk=>by cases k⟩
end
noncomputable def CX1 (P:Program) (w:World):CXT:=λouter H s E ev s'=>∃(e C T:Addr) (d:Option Addr) (H':Hp),ev=.ref e/\s'.os=s.os/\AllBare s'.gens/\Un (frs outer) [] H H' s.heap s'.heap/\HOk P w H' s'.heap /\
 H' e=some (XO e C d false)/\s.heap.get? T=none/\H' T=none/\XE.Tr e T s'.heap/\E (.ref C) (some e) H'
theorem sT {base h h':Heap}:∀{l:List Env},h.FunFrames base l->(∀b∈frs l,∀o,h.get? b=some o->∃sl,h'.get? b=some { o with slots:=sl })->h'.FunFrames base l
 | [],_,_=>trivial
 | env::r,⟨hk,⟨L,o,hf,hn,ho,hd⟩,hr⟩,k=>by
  have hL:L∈frs (env::r):=by unfold frs;rw[List.filterMap_cons,hf];exact Xl
  obtain⟨sl,e⟩:=k L hL o ho;exact⟨hk,⟨L,_,hf,hn,e,hd⟩,sT hr λb hb=>k b (by unfold frs;rw[List.filterMap_cons,hf];exact Qo _ hb)⟩
section
variable {P:Program} {w:World} {K:PySem.W.Frag} {mg:D3} {base:Heap} {N:List Str} {qual:Str} {scope:Scope} {f:Addr} {cd:Value} {A:Around} {outer:List Env} {s s1:Shared} {H H1:Hp} {E:XK} {pins:D0} {O:St} {e C:Addr} {d:Option Addr}
theorem fD (I:Inv (cxOf (CX1 P w) P w K mg base N qual scope f cd A outer s H E) pins O H1 s1) (he:H1 e=some (XO e C d true)) (hE:E (.ref C) (some e) (upd H1 e (XO e C d false))) :
  (cxOf (CX1 P w) P w K mg base N qual scope f cd A outer s H E).xe (.ref e) s1:=by
 have xo:XOk e C d true s1.heap:=(I.hok e _ he).1;obtain⟨o,vs,g1,g2,g3,g4,g5⟩:=id xo;obtain⟨t,rfl⟩:=g5 rfl;refine XE.wa (base:=base) I.ok.frames I.stack rfl g1 g4 rfl λh' T xl tr new=>?_;have hT1:H1 T=none:=I.hok.nothere new;have nTe:T≠e:=tr.ne;have hL:s.heap.get? s.heap.objs.size=none:=XM (Qi _);have els:∀b,b≠e->upd H1 e (XO e C d false) b=H1 b:=λb hb=>am hb;refine⟨e,C,T,d,upd H1 e (XO e C d false),rfl,I.os,I.bare,Un.exc (L:=s.heap.objs.size) (Ts:=[]) I.base he ah els xl hL (by simp),?_,ah,?_,by rw[am nTe];exact hT1,tr,hE⟩
 ·exact HOk.exc (Ts:=[]) I.hok he ah (gx (jh xo xl ⟨T,tr⟩)) els xl (λb hb=>I.stkFree b hb) (by simp)
 cases q:s.heap.get? T with
 | none=>rfl
 | some ob =>
 obtain⟨o',z⟩:=I.base.there T ob q (λz=>absurd (show T∈([]:D4) from z) (by simp));rw[new]at z;cases z
end
section
variable {X:Cx} {pins:D0} {O:St} {H:Hp} {s:Shared}
abbrev Cx.marked (X:Cx) (e:Addr):Cx:={ X with A:=X.A.mark (some (.ref e)),calm:=false,xe:=λ_ _=>False }
theorem Inv.mark (I:Inv X pins O H s) (e:Addr):Inv (X.marked e) pins O H s :=
 ⟨⟨I.ok.mod,I.ok.kind,I.ok.glob,I.ok.blt,I.ok.above,I.ok.inj,I.ok.has,I.ok.cab,(λz=>by cases z),I.ok.frames,I.ok.stk,I.ok.exf,I.ok.bs,I.ok.bsz,I.ok.noex,I.ok.exfs,I.ok.funs,I.ok.frf⟩,I.os,I.bare,I.base,I.loc,I.cell,I.free,I.freeC,I.pin,I.hok,I.len⟩
theorem Inv.unmark {e:Addr} (I:Inv (X.marked e) pins O H s) (hd:X.calm=true->X.A.handled=none):Inv X pins O H s :=
 ⟨⟨I.ok.mod,I.ok.kind,I.ok.glob,I.ok.blt,I.ok.above,I.ok.inj,I.ok.has,I.ok.cab,hd,I.ok.frames,I.ok.stk,I.ok.exf,I.ok.bs,I.ok.bsz,I.ok.noex,I.ok.exfs,I.ok.funs,I.ok.frf⟩,I.os,I.bare,I.base,I.loc,I.cell,I.free,I.freeC,I.pin,I.hok,I.len⟩
theorem uS {M:Model} {A:Around} {E:C9} {i:Nat} {x:Str} {pos:Pos} {Q:Unit->Shared->Prop} (I:Inv X pins O H s) (hN:X.N.Nodup) (hi:X.N[i]?=some x) (hk:X.env.kindOf x=some .local)
  (h:∀s',Inv X pins (O.set i none) H s'->Q () s'):wpAny M A (do bindName X.env x .none;unbindBehindTheSuite X.env x pos) Q E s:=by
 obtain⟨m,hn,hl⟩:=id I.loc;have hcls:(X.env.scope.kind==.class || (X.env.scope.kind==.module&&X.env.locals != X.env.globals))=false:=by rw[I.ok.kind];rfl
 have hiσ:i<O.length:=by rw[I.len];exact(Qf.mp hi).1
 refine wpAny_nameGoes_keeps hk hn hcls λh' v hn' hs=>?_;obtain⟨oL,_,_,hoL,_⟩:=id hn;have neL:∀b o,X.s₀.heap.get? b=some o->b≠X.env.locals:=λb o e=>QM (QS (Qm e) I.ok.above);refine h { s with heap:=h',toks:=s.toks+1 } ⟨I.ok,I.os,I.bare,⟨λb o e n hb hx=>(hs.2 b (neL b o e)).trans (I.base.keep b o e n hb hx),λb o e n hb hx=>?_,I.base.free,λb o e hx=>?_,I.base.tups,I.base.frzs,I.base.tbls⟩,⟨_,hn',λj y v' e1 e2 e3=>?_⟩,λy c e=>?_,I.free,I.freeC,λp hp=>?_,λb ob e=>?_,by simpa using I.len⟩
 ·obtain⟨sl,e1⟩:=I.base.slot b o e n hb hx;exact⟨sl,(hs.2 b (neL b o e)).trans e1⟩
 ·obtain⟨o',e1⟩:=I.base.there b o e hx;exact⟨o',(hs.2 b (neL b o e)).trans e1⟩
 ·have hj:j≠i:=λz=>by
   subst z;rw[List.getElem?_set_self hiσ]at e2;cases e2
  rw[List.getElem?_set_ne (Xo hj)]at e2;obtain⟨u',r',q⟩:=hl j y v' e1 e2 e3;refine⟨u',r',?_⟩;rcases q with⟨k,z⟩|⟨k,c,z,z2⟩
  ·have ny:y≠x:=λz=>hj (g_ hN e1 (z▸hi));exact .inl ⟨k,by show (if y=x then v else m y)=some u';rw[Qn ny];exact z⟩
  exact .inr ⟨k,c,z,z2.sameBut hs (I.cne y c z)⟩
 ·obtain⟨w',z⟩:=I.cell y c e;exact⟨w',z.sameBut hs (I.cne y c e)⟩
 ·obtain⟨e,n,ne,nf,dd⟩:=I.pin p hp;exact⟨(hs.2 p.1 ne).trans e,n,ne,nf,dd⟩
 refine(I.hok b ob e).stay (λc w' hc q=>(hs.2 c ?_).trans q) (λ_ q=>q) λ_ _ q=>q;intro z;subst z;rcases hc with z|z
 ·rw[<-z,I.free]at e;cases e
 rw[I.free]at z;cases z
end
def wq (C:Addr) (te:TE) (R:Addr->Option Addr->Hp->Prop):TS:=λ_ O H=>te O H λv H1=>∃e d,v=.ref e/\H1 e=some (XO e C d true)/\R e d H1
section
variable {X:Cx}
structure XMk (K:PySem.W.Frag) (C NE:Addr):Prop where
 xc:∀h:Heap,K.In h->XE.XC h C "ValueError" "ValueError.__new__" (.ref NE::XE.iC) XE.iC
 kp:PySem.W.keepIn K (.ref C)=true
 kl:XE.XKl K C NE
theorem kN {ex:Expr} {te:TE} {R:Addr->Option Addr->Hp->Prop} {pos:Pos} {C NE:Addr} (M:XMk X.K C NE) (hc:X.calm=true) (he:PE X ex te)
  (hx:∀pins O H s e d,Inv X pins O H s->H e=some (XO e C d true)->R e d H->X.xe (.ref e) s) :
  PS X (.Raise (some ex) none pos) (wq C te R):=by
 intro pins s O H D I h;rw[arm_exec_Raise];refine Qa (wpAny_standAt (XE.v5 (C:=C) (B := "ValueError") (new := "ValueError.__new__") (up:=.ref NE::XE.iC) (top:=XE.iC) (by decide +kernel) (I.ok.hd hc) ?_));refine Qa (thn (he pins s O H _ I h) λv s1 z=>Qa (wpAny_standAt (Qe ?_)));obtain⟨x,H1,I1,rx,e,d,ex,eo,r⟩:=z;subst ex;cases (show v=Value.ref e from rx);have xo:XOk e C d true s1.heap:=(I1.hok e _ eo).1;obtain⟨o,vs,g1,g2,g3,g4,g5⟩:=xo;obtain⟨t,rfl⟩:=g5 rfl;exact⟨e,o,t,rfl,M.xc _ I1.kIn,g1,g2,g4,hx pins O H1 s1 e d I1 eo r⟩
end
section
variable {X:Cx}
variable {pins:D0}
theorem sU {O:St} {H H1:Hp} {s s1:Shared} {e C T T2:Addr} {d:Option Addr} {h2:Heap} {Ts:D4} (I:Inv X pins O H s) (hst:X.stack=X.env::X.outer) (hos:s1.os=s.os) (hb:AllBare s1.gens) (un:Un (frs X.stack) [] H H1 s.heap s1.heap) (hok:HOk X.prog X.w H1 s1.heap)
  (eo:H1 e=some (XO e C d false)) (hT:∀T∈Ts,s.heap.get? T=none) (hT1:∀T∈Ts,H1 T=none) (xl:XE.XL (frs X.stack) e Ts s1.heap h2) (tr:XE.Tr e T2 h2) (fr:∀b∈frs X.stack,H1 b=none) :
  Un (frs X.stack) [] H H1 s.heap h2/\HOk X.prog X.w H1 h2:=by
 have xo:XOk e C d false s1.heap:=(hok e _ eo).1;have xl':XE.XL (s.heap.objs.size::frs X.stack) e Ts s1.heap h2:=⟨λb o n t f q=>xl.keep b o n t (λz=>f (Qo _ z)) q,xl.slot,xl.at_⟩;exact⟨Un.exc (L:=s.heap.objs.size) un eo eo (λ_ _=>rfl) xl' (XM (Qi _)) hT,HOk.exc hok eo eo (gx (jh xo xl ⟨T2,tr⟩)) (λ_ _=>rfl) xl fr hT1⟩
theorem tL {O:St} {H:Hp} {s:Shared} {e C dx:Addr} {fr:Bool} {fs:List (Str × V)} (I:Inv X pins O H s) (eo:H e=some (XO e C (some dx) fr)) (ed:H dx=some (.xd fs)) :
  ∃(ox od:Obj) (mA:D3),PySem.W.InstAt s.heap e ox C (some od)/\(∀n,PySem.W.lookIn n od=some (mA n))/\∀f,eQ (fs.lookup f) (mA f):=by
 have xo:XOk e C (some dx) fr s.heap:=(I.hok e _ eo).1;obtain⟨ob,vs,g1,g2,g3,g4,g5⟩:=xo;obtain⟨mA,ns,r⟩:=(I.hok dx _ ed:bp X.prog X.w H s.heap dx (.xd fs));obtain⟨od,ho,hl⟩:=pW ns;refine⟨ob,od,mA,⟨g1,g2,?_,by rw[g3];exact ho⟩,hl,r⟩;obtain⟨_,_,dt,_⟩:=ob;dsimp only at g4;subst g4;rfl
def xH:V->Value
 | .ref a=>.ref a
 | .ty n=>.type n
 | _=>.none
end
end L2
namespace XE
open PySem PySem.W PySem.Calls PyProof.Rows
section
variable {P:Program} {w:World} {A:Around} {E:C9} {g:Heap} {gs:Array GenState} {dr:Drawn} {tk:Nat} {os:OsState} {C:Addr} {B new init:String} {up top:List Value}
theorem v_ (F:ExcBaseFacts B new init top) (x:XC g C B new up top) {us:List Value} {Q:C9}
  (hi:Lk (model P w) g (typeLookup (.ref C) "__init__") (some (.builtin init))) (few:us.length<=sizeLine)
  (k:∀g' p,(∀b o,g.get? b=some o->g'.get? b=some o)->g'.get? (g.objs.size+1)=some (newExc C p)->Q (.ref (g.objs.size+1)) ⟨g',gs,dr,tk,os⟩) :
  wpAny (model P w) A (call (.ref C) us) Q E ⟨g,gs,dr,tk,os⟩:=by
 have xx:=x;obtain⟨⟨nm,q,N,bs,hd,sn,sub,ab,col,dd,a0,a1,a2,a3,a5,eC⟩,T⟩:=x;have l1:=tc_lookup;have l2:=tc_bind (.ref C);have ty:(⟨g,gs,dr,tk,os⟩:Shared).TypeIs (.ref C) "type" := ⟨_,eC,rfl⟩;refine wpAny_call (codeAny_of_tree (?_:wpAny _ _ (callAny (.ref C) ⟨us,[]⟩) _ _ _))
 repeat (any_goals (first|assumption|wp_step))
 refine⟨rfl,codeAny_call_builtin_at (Code.quiet_builtin _ (by decide +kernel)) entry_typeCall (wpAny_check_type_call_sub eC ?_)⟩
 repeat (first|with_reducible refine wpAny_madeBy_exc eC ?_|wp_step)
 refine codeAny_call_builtin_code (Code.quiet_builtin _ F.quiet) (wpAny_check_new_subT F T eC (codeAny_exc_new_subT F T eC (?_:wpAny _ _ _ _ _ _) few));have eC':=fg (C:=C) (us:=us) eC;have eN:(made g C us).get? (g.objs.size+1)=some (newExc C g.objs.size):=se;have own:(Value.ref C::up).contains (.ref C)=true:=by simp
 unfold isInstance
 repeat (first|with_reducible refine wpAny_loadPart_at eN ?_|wp_step)
 refine wpAny_isSubtype_exc eC' ?_;rw[own]
 repeat (first|with_reducible refine wpAny_loadPart_at eN ?_|wp_step)
 refine(?_:wpAny _ _ (typeLookup (.ref C) "__init__") _ _ _);refine hi _ _ _ _ (λb o e=>fg e) (QT (Qa (wpAny_of_eq (F.init.bind _) ?_)));refine Qa (xV F (xx.keeps λb o e=>fg e) eN rfl rfl few λg' kp ne=>?_)
 wp_walk
 exact k g' _ (λb o e=>kp b o (QM (Nat.lt_succ_of_lt (Qm e))) (fg e)) ne
end
section
variable {P:Program} {w:World} {A:Around} {E:C9} {s:Shared} {K:Frag} {x C NE:Addr} {ox:Obj} {od:Option Obj}
theorem iG {a g:Value} {name:Str} (hc:(clsIn K C).isSome=true) (ha:findIn K (.ref C) name=some (some a)) (hg:specialIn K a "__get__" = some (some g)) (ht:takesIn K a=some true):findObj K C od name=some (.bind g a):=by
 obtain⟨cd,hc⟩:=Option.isSome_iff_exists.mp hc;unfold findObj;rw[hc,Option.bind_some,ha,Option.bind_some];simp[hg,ht]
theorem xT {Q:Option Value->Shared->Prop} (X:K.In s.heap) (I:InstAt s.heap x ox C od) (k:XKl K C NE) (h:Q (some (.ref C)) { s with toks:=s.toks+1 }):wpAny (model P w) A (getAttr? (.ref x) "__class__") Q E s:=by
 have hf:findObj K C od "__class__" = some (.bind (.builtin "getset_descriptor.__get__") (.builtin "object.__class__")):=iG (by obtain⟨cd,hc,_⟩:=any_some k.hd;rw[hc];rfl) k.cl k.cg k.ct;unfold getAttr? getAttrBy?;refine Qa (wpAny_mkText (Qa (wpAny_attempt (xby (s:={ s with toks:=s.toks+1 }) X I k ?_))));have L0:=I.type (M:=model P w);have L1:=looks_find (M:=model P w) X I hf;refine Qa (Qe (Qa (Qe (Qa (Looks.here (s:={ s with toks:=s.toks+1 }) L0 (Qa (Looks.here (s:={ s with toks:=s.toks+1 }) L1 ?_)))))));refine(?_:wpAny _ _ (holding [Value.builtin "object.__class__"] (call (.builtin "getset_descriptor.__get__") [.builtin "object.__class__", .ref x,.ref C]) >>= ret) _ _ _);refine Qa (QT (wpAny_call (class_get (s:={ s with toks:=s.toks+1 }) (ox:=ox) (od:=od) X I k.ob (Qe ?_))));exact handed_on rfl (Qe h)
theorem u9 (k:XKl K C NE):KitX K (.ref x) (.ref C) (λg=>InstAt g x ox C od) where
 ty:=λ_ _ _ I=>I.type
 it:=λ_ _ X _=>by
  obtain⟨cd,hc,_⟩:=any_some k.hd;unfold clsIn at hc
  split at hc
  ·rename_i ho
   intro A' Q' E' s' kk q;unfold isType loadHead;exact Qa (wpAny_loadPart (kk _ _ (X _ _ ho)) (Qe q))
  cases hc
 ne:=λg tp dd its n sl X htp=>by
  obtain⟨cd,hc,_⟩:=any_some k.hd;refine Xu.mpr λq=>?_;cases Value.ref.inj (beq_iff_eq.mp q);unfold clsIn at hc
  split at hc
  ·rename_i ho
   cases (X _ _ ho).symm.trans htp
  cases hc
 ca:=λX I q=>xT X I k q
end
end XE
namespace L2
open PySem PySem.Spec PyProof.Rows PySem.Calls
section
variable {X:Cx}
def nB (C:Addr) (t:TA):TE:=λO H Q=>t O H λvs H1=>vs.length<=sizeLine/\∀x,H1 x=none->Q (.ref x) (upd H1 x (XO x C none true))
theorem iS {x:Str} {p pos:Pos} {e:Expr} {es:List Expr} {t:TA} {C NE:Addr} (M:XMk X.K C NE) (hin:PySem.W.findIn X.K (.ref C) "__init__" = some (some (.builtin "ValueError.__init__")))
  (hg:Gl X x) (hm:X.mg x=some (.ref C)) (ha:PA X (e::es) t)
  (hdb:(x==("__debug__" : Str))=false:=by decide) (he:starEach (e::es) X.env=(false,eval e X.env)::starEach es X.env:=by rfl) (hpl:(backTo pos (starEach es X.env)).any (·.1)=false:=by rfl) :
  PE X (.Call (.Name x p) (e::es) [] pos) (nB C t):=by
 intro pins s O H Q I h;refine wpAny_Call_Name_kw (fh I hg hm ?_ hdb);refine PySem.W.callWith_K (h₀:=X.base) I.ok.mod.kin M.kp (thn (ha pos pins s O H _ I h) λus s1 ⟨vs,H1,I1,r,few,q⟩=>⟨I1.kIn,?_⟩) he hpl;have few':us.length<=sizeLine:=by rw[<-r.length];exact few
 have hq:=q (s1.heap.objs.size+1) (I1.hok.fresh (Nat.le_succ _));obtain⟨hh,g,dd,tk,os⟩:=s1;refine XE.v_ PySem.F.excBase_ValueError (M.xc _ I1.kIn) (PySem.W.looks_findIn I1.kIn hin) few' λg' p kp ne=>?_;exact⟨.ref (hh.objs.size+1),_,I1.laid (t':=tk) kp (Nat.le_succ _) (gx ⟨_,_,ne,rfl,rfl,rfl,λ_=>⟨_,rfl⟩⟩),rfl,hq⟩
theorem j8 {pins:D0} {O:St} {H:Hp} {s:Shared} {e C:Addr} {d:Option Addr} {fr:Bool} (I:Inv X pins O H s) (eo:H e=some (XO e C d fr)) (ed:∀dx,d=some dx->∃fs,H dx=some (.xd fs)) :
  ∃(ox:Obj) (od:Option Obj),PySem.W.InstAt s.heap e ox C od:=by
 cases d with
 | some dx =>
  obtain⟨fs,q⟩:=ed dx rfl;obtain⟨ox,od,_,J,_⟩:=tL I eo q;exact⟨ox,some od,J⟩
 | none =>
 have xo:XOk e C none fr s.heap:=(I.hok e _ eo).1;obtain⟨ob,vs,g1,g2,g3,g4,g5⟩:=xo;refine⟨ob,none,g1,g2,?_,by rw[g3];trivial⟩;obtain⟨_,_,dt,_⟩:=ob;dsimp only at g4;subst g4;rfl
def vv (K:PySem.W.Frag):List V->Hp->VK->Prop:=λxs H Q=>∃e C NE d fr c b,xs=[.ref e,c]/\((∃a,c=.ref a)\/∃n,c=.ty n)/\H e=some (XO e C d fr)/\(∀dx,d=some dx->∃fs,H dx=some (.xd fs))/\XE.XKl K C NE/\PySem.W.kitOne K (.ref C) (xH c)=some b/\Q (.bl b) H
theorem eB:dI X (.builtin "isinstance") (vv X.K):=by
 intro pins s O H xs us Q I r h;obtain⟨e,C,NE,d,fr,c,b,ex,hc,eo,ed,k,kt,q⟩:=h;subst ex;obtain⟨u1,u2,eu,r1,r2⟩:=fY r;subst eu;cases (show u1=Value.ref e from r1)
 have e2:u2=xH c:=by
  rcases hc with⟨a,rfl⟩|⟨n,rfl⟩ <;> exact r2
 subst e2;obtain⟨ox,od,J⟩:=j8 I eo ed;exact PySem.W.kia_one (XE.u9 k) I.kIn J kt (λz=>nomatch z) λtk=>⟨.bl b,H,I.tok tk,rfl,q⟩
end
section
variable {P:Program} {w:World} {K:PySem.W.Frag} {mg:D3} {base:Heap} {N:List Str} {qual:Str} {scope:Scope} {f:Addr} {cd:Value} {A:Around} {outer:List Env} {s:Shared} {H:Hp} {E:XK}
theorem n9:eR (CX1 P w) (cxOf (CX1 P w) P w K mg base N qual scope f cd A outer s H E) E:=by
 intro pins O H1 s1 ev s2 I z;obtain⟨e,C,T,d,H2,rfl,os2,bare2,un2,hok2,eo,nT,nT2,tr,q⟩:=z;have I2:Inv (cxOf (CX1 P w) P w K mg base N qual scope f cd A outer s H E) pins O H2 s2:=I.call' (ch:=[]) os2 un2 hok2 bare2 (λb z=>absurd z (by simp));have xo:XOk e C d false s2.heap:=(hok2 e _ eo).1;have hL:s.heap.get? s.heap.objs.size=none:=XM (Qi _)
 have down:∀T',s2.heap.get? T'=none->s.heap.get? T'=none:=λT' n=>by
  cases q:s.heap.get? T' with
  | none=>rfl
  | some ob =>
  obtain⟨o',z⟩:=I2.base.there T' ob q (λz=>absurd (show T'∈([]:D4) from z) (by simp));rw[n]at z;cases z
 have nTs:s.heap.get? T=none:=by
  cases q:s.heap.get? T with
  | none=>rfl
  | some ob =>
  obtain⟨o',z⟩:=I.base.there T ob q (λz=>absurd (show T∈([]:D4) from z) (by simp));rw[nT]at z;cases z
 refine XE.oY (base:=base) I2.ok.frames I2.stack rfl tr λh' T' xl tr' new=>?_;refine⟨e,C,T',d,H2,rfl,I2.os,I2.bare,Un.exc (L:=s.heap.objs.size) (Ts:=[T]) I2.base eo eo (λ_ _=>rfl) xl hL (by simpa using nTs),?_,eo,down T' new,hok2.nothere new,tr',q⟩;exact HOk.exc (Ts:=[T]) hok2 eo eo (gx (jh xo xl ⟨T',tr'⟩)) (λ_ _=>rfl) xl (λb hb=>I2.stkFree b hb) (by simpa using nT2)
end
section
variable {X:Cx}
def XP (X:Cx) (pins:D0) (O:St) (E:XK) (ev:Value) (s':Shared):Prop:=∃H1 s1,Inv X pins O H1 s1/\CX1 X.prog X.w X.stack H1 s1 E ev s'
def PX (X:Cx) (st:List Stmt) (t:XK->TS):Prop :=
 ∀(pins:D0) (s:Shared) (O:St) (H:Hp) (D:Ends) (E:XK),Inv X pins O H s->t E D O H->wpAny (model X.prog X.w) X.A (execs st X.env) (SP X pins D) (XP X pins O E) s
def qE (sp:Sp) (t:TA):XK->TS:=λE D O H=>t O H λvs H1=>sp vs H1 (λ_ H2=>D.nx O H2) E
theorem ua {fn:Str} {a1:Expr} {args:List Expr} {np cpos epos:Pos} {f:Addr} {fd:FuncData} {ps:List Str} {k:Nat} {sp:Sp} {t:TA}
  (F:FnOk X.prog X.w X.K X.mg X.base (CX1 X.prog X.w) k f fd ps sp) (hr:Room k X.A) (hg:Gl X fn) (hm:X.mg fn=some (.ref f)) (hk:PySem.W.keepIn X.K (.ref f)=true) (hb:dS X.K fd ps []) (ha:PA X.nox (a1::args) t)
  (hdb:(fn==("__debug__" : Str))=false:=by decide) (he:starEach (a1::args) X.env=(false,eval a1 X.env)::starEach args X.env:=by rfl) (hpl:(backTo cpos (starEach args X.env)).any (·.1)=false:=by rfl)
  (hs:swapsWith (.Call (.Name fn np) (a1::args) [] cpos) none epos.line X.env=pure false:=by rfl) :
  PX X [.Expr (.Call (.Name fn np) (a1::args) [] cpos) epos] (qE sp t):=by
 intro pins s O H D E I h;refine wpAny_execs_cons (wpAny_Expr_any ?_ I.quiet hs);refine wpAny_Call_Name_kw (fh I hg hm ?_ hdb);refine PySem.W.callWith_K (h₀:=X.base) I.ok.mod.kin hk (Xm (ha cpos pins s O H _ (I.wish _) h) (λus s1 z=>?_) λ_ _ z=>z.elim) he hpl;obtain⟨vs,H1,I1',r,q⟩:=z;have I1:Inv X pins O H1 s1:=I1'.unwish;refine⟨I1.kIn,?_⟩;have hlen:(us++[]).length=ps.length:=by rw[X0,<-r.length];exact F.len _ _ _ _ q
 have hbb:=hb s1 us I1.kIn hlen;rw[X0]at hbb;refine wpAny_call (codeAny_mono (F.run X.A X.stack s1 H1 ⟨us,[]⟩ us vs _ _ hr I1.env0 hbb r q) λrr s2 z=>?_)
 cases rr with
 | ok fl =>
  cases fl with
  | ret u =>
   obtain⟨v,H2,I2,rv,q2⟩:=I1.after z;exact wpAny_execs_nil ⟨O,H2,I2,q2⟩
  | next=>exact False.elim z
  | brk=>exact False.elim z
  | cont=>exact False.elim z
 | error ev=>exact⟨H1,s1,I1,z⟩
def xIf (tc:TT) (t u:XK->TS):XK->TS:=λE D O H=>tc O H λb H1=>if b=true then t E D O H1 else u E D O H1
variable {a b suite body:List Stmt}
theorem yi {c:Expr} {tc:TT} {pos:Pos} {t u:XK->TS} (hc:PT X.nox c tc) (ha:PX X a t) (hb:PX X b u):PX X [.If c a b pos] (xIf tc t u):=by
 intro pins s O H D E I h;refine wpAny_execs_cons (wpAny_If (Xm (hc pins s O H _ (I.wish _) h) (λd s1 z=>?_) λ_ _ z=>z.elim));obtain⟨H1,I1',q1⟩:=z;have I1:Inv X pins O H1 s1:=I1'.unwish
 have fin:∀fl s2,SP X pins D fl s2->(match fl with|.next=>wpAny (model X.prog X.w) X.A (execs [] X.env) (SP X pins D) (XP X pins O E) s2|fl=>SP X pins D fl s2):=λfl s2 z=>by
  cases fl with
  | next=>exact wpAny_execs_nil z
  | ret u=>exact z
  | brk=>exact z
  | cont=>exact z
 cases d with
 | true=>exact thn (ha pins s1 O H1 D E I1 q1) λfl s2 z=>by first|exact fin fl s2 z|(cases fl <;> first|exact wpAny_execs_nil z|exact z)
 | false=>exact thn (hb pins s1 O H1 D E I1 q1) λfl s2 z=>by first|exact fin fl s2 z|(cases fl <;> first|exact wpAny_execs_nil z|exact z)
def vb (K:PySem.W.Frag) (NE:Addr) (i:Nat) (tb:XK->TS) (tsu:TS):TS:=λD O H =>
 tb (λcls ea H2=>∃e,ea=some e/\PySem.W.exmOne K cls (.ref NE)=some true/\tsu { nx:=λσ' H'=>D.nx (σ'.set i none) H',rt:=λ_ _=>False } (O.set i (some (.ref e))) H2)
  { nx:=D.nx,rt:=λ_ _=>False } O H
theorem ub {cn n:Str} {st:Stmt} {cp hpos pos:Pos} {NE:Addr} {i:Nat} {tb:XK->TS} {tsu:TS} (hb:PX X body tb)
  (hgc:Gl X cn) (hmc:X.mg cn=some (.ref NE)) (hN:X.N.Nodup) (hi:X.N[i]?=some n) (hl:X.env.kindOf n=some .local) (hsu:∀e,PSs (X.marked e) (st::suite) tsu) (hc:X.calm=true)
  (hst:X.stack=X.env::X.outer:=by rfl) (hfr:X.env.frame=some X.env.locals:=by rfl) (hf:X.fn n=true\/X.env.scope.names.lookup n=some .local:=by z_go)
  (hdc:(cn==("__debug__" : Str))=false:=by decide) :
  PS X (.Try body [.ExceptHandler (some (.Name cn cp)) (some n) (st::suite) hpos] [] [] pos) (vb X.K NE i tb tsu):=by
 intro pins s O H D I h;refine wpAny_Try_except (Xm (hb pins s O H _ _ I h) (λfl s2 z=>?_) λev s2 z=>?_)
 ·cases fl with
  | next=>exact wpAny_execs_nil z
  | ret u=>obtain⟨_,_,_,_,_,q6⟩:=z;exact False.elim q6
  | brk=>obtain⟨_,_,_,q6⟩:=z;exact False.elim q6
  | cont=>obtain⟨_,_,_,q6⟩:=z;exact False.elim q6
 obtain⟨H1,s1,I1,e,C,T,d,H2,rfl,os2,bare2,un2,hok2,eo,nT,nT2,tr,e',ee,hx,q3⟩:=z;cases ee;have fr1:∀b∈frs X.stack,H1 b=none:=I1.stkFree
 have fr2:∀b∈frs X.stack,H2 b=none:=λb hb=>by
  obtain⟨_,o,ho,_⟩:=I1.stack.mem hb;exact un2.free b o ho (fr1 b hb) (by simp)
 have ff:s2.heap.FunFrames X.base (X.env::X.outer):=by
  rw[<-hst];exact sT I1.stack λb hb o ho=>un2.slot b o ho (fr1 b hb) hb (by simp)
 refine XE.u8 (s:=s2) (base:=X.base) (by rw[I1.ok.frames,hst]) ff hfr tr λh3 T3 xl3 tr3 new3=>?_;have xl3':XE.XL (frs X.stack) e [T] s2.heap h3:=by rw[hst];exact xl3
 obtain⟨un3,hok3⟩:=sU (T:=T) I1 hst os2 bare2 un2 hok2 eo (by simpa using nT) (by simpa using nT2) xl3' tr3 fr2;have I3:Inv X pins O H2 { s2 with heap:=h3 }:=I1.call' (ch:=[]) os2 un3 hok3 bare2 (λb z=>absurd z (by simp))
 have nT3:s1.heap.get? T3=none:=by
  cases qq:s1.heap.get? T3 with
  | none=>rfl
  | some ob =>
  obtain⟨o',z⟩:=un2.there T3 ob qq (by simp);rw[new3]at z;cases z
 have nT3':H2 T3=none:=hok2.nothere new3
 have hce:∃oe,h3.get? e=some oe/\oe.cls=.ref C:=by
  obtain⟨o,vs',g1,g2,_⟩:=((hok3 e _ eo).1:XOk e C d false h3);exact⟨o,g1,g2⟩
 have LT:PySem.W.Looks (model X.prog X.w) h3 (typeOf (.ref e)) (.ref C):=by
  obtain⟨oe,g1,g2⟩:=hce;rw[<-g2];exact(PySem.W.Looks.ld g1).andThen .now
 refine wpAny_handleBy_cons (codeAny_handlers_test (fh (X:=X.marked e) (I3.mark e) hgc hmc ?_ hdc)) (by intro z;cases z);refine PySem.W.Looks.here (s:={ s2 with heap:=h3 }) (PySem.W.exm_one I3.kIn LT hx) (codeAny_handlers_suite_as ?_);refine XE.we (s:={ s2 with heap:=h3 }) (fs:=frs X.stack) tr3 λh4 xl4 tr4=>?_;obtain⟨un4,hok4⟩:=sU (s1:={ s2 with heap:=h3 }) (T:=T3) I1 hst os2 bare2 un3 hok3 eo (by simpa using nT3) (by simpa using nT3') xl4 tr4 fr2;have I4:Inv X pins O H2 { s2 with heap:=h4 }:=I1.call' (ch:=[]) os2 un4 hok4 bare2 (λb z=>absurd z (by simp));refine gB (X:=X.marked e) (v:=.ref e) (I4.mark e) hN hi (.inl hl) rfl (λs5 I5=>?_) hf;refine Xm (hsu e pins s5 _ H2 _ I5 q3) (λfl s6 z=>?_) λ_ _ z=>z.elim
 cases fl with
 | next =>
  obtain⟨σ6,H6,I6,q6⟩:=z;exact uS (I6.unmark I.ok.hd) hN hi hl λs7 I7=>⟨_,H6,I7,q6⟩
 | ret u=>obtain⟨_,_,_,_,_,q6⟩:=z;exact False.elim q6
 | brk=>obtain⟨_,_,_,q6⟩:=z;exact False.elim q6
 | cont=>obtain⟨_,_,_,q6⟩:=z;exact False.elim q6
end
end L2
set_option maxHeartbeats 4000000
namespace L2
open PySem PySem.Spec PyProof.Rows
section
variable {X:Cx}
def vt (K:PySem.W.Frag):List V->Hp->VK->Prop:=λxs H Q=>∃(e C NE:Addr) (d:Option Addr) (fr:Bool) (t:Addr) (cs:D4) (b:Bool),xs=[.ref e,.ref t]/\H t=some (.tup (cs.map V.ref))/\H e=some (XO e C d fr)/\(∀dx,d=some dx->∃fs,H dx=some (.xd fs))/\XE.XKl K C NE/\PySem.W.kitAny K (.ref C) (cs.map Value.ref)=some b/\Q (.bl b) H
theorem iJ:∀{cs:D4} {us:List Value},aJ (cs.map V.ref) us->us=cs.map Value.ref
 | [],_,r=>by
  rw[List.map_nil]at r;cases r;rfl
 | c::cs,_,r=>by
  rw[Qu]at r
  cases r with
  | cons r1 r2=>rw[iJ r2,Qu];cases (show _=Value.ref c from r1);rfl
theorem iI:dI X (.builtin "isinstance") (vt X.K):=by
 intro pins s O H xs us Q I r h;obtain⟨e,C,NE,d,fr,t,cs,b,ex,ht,eo,ed,k,kt,q⟩:=h;subst ex;obtain⟨u1,u2,eu,r1,r2⟩:=fY r;subst eu;cases (show u1=Value.ref e from r1);cases (show u2=Value.ref t from r2);obtain⟨ox,od,J⟩:=j8 I eo ed;obtain⟨its,rv,it,_⟩:=I.tuple (SqT.of ht);obtain⟨⟨_,_,_,_⟩,g,g2,n,g3⟩:=it;dsimp only at g2 g3;subst g2 g3;rw[iJ rv]at g;exact PySem.W.kia_tup (XE.u9 k) I.kIn J g kt (λz=>nomatch z) λtk=>⟨.bl b,H,I.tok tk,rfl,q⟩
end
end L2
set_option maxHeartbeats 1000000
namespace L2
open PySem PySem.Spec PyProof.Rows PySem.Calls
section
variable {X:Cx}
end
def vO (sl:Array (Option Value)):Bool:=sl.toList.length==6&&sl.toList[4]?==some (some (.builtin "ValueError.__new__"))
theorem Bj {A:Type}:∀{us:List A},us.length=6->∃a0 a1 a2 a3 a4 a5,us=[a0,a1,a2,a3,a4,a5]
 | [],h=>nomatch h
 | a0::us,h=>by
  have h:us.length+1=6:=h
  cases us with
  | nil=>cases h
  | cons a1 us =>
  cases us with
  | nil=>cases h
  | cons a2 us =>
  cases us with
  | nil=>cases h
  | cons a3 us =>
  cases us with
  | nil=>cases h
  | cons a4 us =>
  cases us with
  | nil=>cases h
  | cons a5 us =>
  cases us with
  | nil=>exact⟨_,_,_,_,_,_,rfl⟩
  | cons a6 us=>cases h
def wc (K:PySem.W.Frag) (C NE:Addr):Bool:=match K.lookup C with
 | some ⟨.type "type", _,.cls cd,sl⟩=>vO sl&&cd.mro==.ref C::.ref NE::XE.iC&&!cd.hasDel
 | _=>false
def yd:Value->Bool
 | .str _ _=>true
 | _=>false
noncomputable def jo (K:PySem.W.Frag) (NE:Addr):Bool:=match K.lookup NE with
 | some ⟨_,_,.cls cd,_⟩=>(match K.lookup cd.ns with
  | some ⟨_,_,.dict es _,_⟩=>es.toList.all (λe=>yd e.key)&&(es.toList.find? λe=>e.key.isStr "__init__").isNone
  | _=>false)
 | _=>false
variable {NE C:Addr}
theorem tS {K:PySem.W.Frag} {h:Heap} (X:K.In h) (q:jo K NE=true):OwnTail h XE.iC (.ref NE::XE.iC):=by
 unfold jo at q
 split at q
 ·rename_i c0 d0 cd sl ho
  split at q
  ·rename_i c1 d1 es ep s1 hn
   rw[Xq]at q;obtain⟨q1,q2⟩:=q;refine .own (X _ _ ho) ⟨_,es,ep,X _ _ hn,rfl,λe he=>?_,λ_=>rfl⟩ ?_ .base
   ·have z:=XS.mp q1 e (Array.mem_toList_iff.mpr he)
    cases hk:e.key with
    | str a b=>exact⟨a,b,rfl⟩
    | _=>rw[hk]at z;cases z
   unfold nsFind findBy;rw[<-Array.find?_toList,Option.isNone_iff_eq_none.mp q2];rfl
  cases q
 cases q
theorem xU {K:PySem.W.Frag} {h:Heap} (X:K.In h) (q:wc K C NE=true) (q2:jo K NE=true):XE.XC h C "ValueError" "ValueError.__new__" (.ref NE::XE.iC) XE.iC:=by
 refine⟨?_,tS X q2⟩;unfold wc at q
 split at q
 ·rename_i dd cd sl ho
  simp only[Xq,beq_iff_eq,Bool.not_eq_true']at q;obtain⟨⟨hs,hm⟩,hdel⟩:=q;obtain⟨nm,bs,mro,ns,qn,hd,sn,sub,ab,col,del⟩:=cd;dsimp only at hm hdel;subst hm hdel;unfold vO at hs;rw[Xq,beq_iff_eq,beq_iff_eq]at hs;obtain⟨hs1,hs2⟩:=hs;obtain⟨l⟩:=sl;obtain⟨k0,k1,k2,k3,k4,k5,rfl⟩:=Bj hs1;obtain rfl:k4=some (.builtin "ValueError.__new__"):=QN hs2;exact⟨nm,qn,ns,bs,hd,sn,sub,ab,col,dd,k0,k1,k2,k3,k5,X _ _ ho⟩
 cases q
theorem v9 {K:PySem.W.Frag} (q:wc K C NE=true) (q2:jo K NE=true) (kp:PySem.W.keepIn K (.ref C)=true) (kl:XE.XKl K C NE):XMk K C NE:=⟨λ_ X=>xU X q q2,kp,kl⟩
end L2
set_option maxHeartbeats 4000000
namespace L2
open PySem PySem.Spec PyProof.Rows
structure FnMk (P:Program) (w:World) (K:PySem.W.Frag) (mg:D3) (base:Heap) (k:Nat) (f:Addr) (fd:FuncData) (ps:List Str) (sp:Sp):Prop where
 len:∀vs H Q E,sp vs H Q E->vs.length=ps.length
 run:∀(A:Around) (e:Addr) (outer:List Env) (s:Shared) (H:Hp) (args:Args) (us:List Value) (vs:List V) (Q:VK),Room k A->Env0 P w K mg base (A.mark (some (.ref e))) outer s H->BindsTo s fd args (ps.zip us)->aJ vs us->sp vs H Q E0 ->
  codeAny (model P w) (A.mark (some (.ref e))) (.call (.ref f) args) (CR CX0 outer P w H s Q E0) s
structure FnM (P:Program) (w:World) (K:PySem.W.Frag) (mg:D3) (base:Heap) (x:Str) (ps:List Str) (k:Nat) (sp:Sp):Prop where
 ex:∃f fd,FnMk P w K mg base k f fd ps sp/\mg x=some (.ref f)/\PySem.W.keepIn K (.ref f)=true/\dS K fd ps []
end L2
namespace K2
open PySem L2
abbrev IvF:=Nat->St->Hp->Prop
abbrev IvC:=Nat->Hp->List V->Prop
abbrev IvJ:=St->Hp->Prop
structure ExcB (K:PySem.W.Frag) (mg:D3) (n:Str) (C NE:Addr):Prop where
 xm:XMk K C NE
 init:PySem.W.findIn K (.ref C) "__init__" = some (some (.builtin "ValueError.__init__"))
 m:mg n=some (.ref C)
def cH (C:Addr) (H H':Hp) (e:Addr):Prop:=av H H'/\H' e=some (XO e C none false)
variable {e C NE:Addr} {H H1 H2 H':Hp}
theorem cH.pre (S:av H H1) (r:cH C H1 H2 e):cH C H H2 e:=⟨S.trans r.1,r.2⟩
theorem eG {x:Addr} (S:av H H') (hx:H' x=none):cH C H (upd (upd H' x (XO x C none true)) x (XO x C none false)) x:=⟨λb o e=>by
 have nbx:b≠x:=λz=>by rw[z]at e;rw[S _ _ e]at hx;cases hx
 rw[am nbx,am nbx]
 exact S _ _ e,ah⟩
variable {O:St}
theorem ii {t:TA} {Q:VK} (q:t O H λvs H1=>vs.length<=sizeLine/\∀x,H1 x=none->Q (.ref x) (upd H1 x (XO x C none true))):nB C t O H Q:=q
structure Fn1 (P:Program) (w:World) (K:PySem.W.Frag) (mg:D3) (base:Heap) (x:Str) (ps:List Str) (k:Nat) (sp:Sp):Prop where
 ex:∃f fd,FnOk P w K mg base (CX1 P w) k f fd ps sp/\mg x=some (.ref f)/\PySem.W.keepIn K (.ref f)=true/\dS K fd ps []
theorem rF {X:Cx} {x:Str} {ps:List Str} {k:Nat} {sp:Sp} {e:Expr} {es:List Expr} {t:TA} {E:XK} {p pos:Pos} (F:Fn1 X.prog X.w X.K X.mg X.base x ps k sp) (hr:Room k X.A) (hg:Gl X x) (hx:eR (CX1 X.prog X.w) X E) (ha:PA X (e::es) t)
  (hdb:(x==("__debug__" : Str))=false:=by decide) (he:starEach (e::es) X.env=(false,eval e X.env)::starEach es X.env:=by rfl) (hpl:(backTo pos (starEach es X.env)).any (·.1)=false:=by rfl) :
  PE X (.Call (.Name x p) (e::es) [] pos) (iM sp [] E t):=by
 obtain⟨f,fd,G,hm,hk,hb⟩:=F.ex;exact n8 G hr hg hm hk hb .nil hx ha hdb he hpl
theorem rh {X:Cx} {x:Str} {ps:List Str} {k:Nat} {sp:Sp} {e:Expr} {es:List Expr} {t:TA} {p cpos epos:Pos} (F:Fn1 X.prog X.w X.K X.mg X.base x ps k sp) (hr:Room k X.A) (hg:Gl X x) (ha:PA X.nox (e::es) t)
  (hdb:(x==("__debug__" : Str))=false:=by decide) (he:starEach (e::es) X.env=(false,eval e X.env)::starEach es X.env:=by rfl) (hpl:(backTo cpos (starEach es X.env)).any (·.1)=false:=by rfl)
  (hs:swapsWith (.Call (.Name x p) (e::es) [] cpos) none epos.line X.env=pure false:=by rfl) :
  PX X [.Expr (.Call (.Name x p) (e::es) [] cpos) epos] (qE sp t):=by
 obtain⟨f,fd,G,hm,hk,hb⟩:=F.ex;exact ua G hr hg hm hk hb ha hdb he hpl hs
theorem xv {K:PySem.W.Frag} {i:Nat} {tb:XK->TS} {tsu:TS} {D:Ends} (q:tb (λcls ea H2=>∃e,ea=some e/\PySem.W.exmOne K cls (.ref NE)=some true/\tsu { nx:=λσ' H'=>D.nx (σ'.set i none) H',rt:=λ_ _=>False } (O.set i (some (.ref e))) H2)
  { nx:=D.nx,rt:=λ_ _=>False } O H):vb K NE i tb tsu D O H:=q
theorem Br {tc:TT} {t u:XK->TS} {E:XK} {D:Ends} (q:tc O H λb H1=>if b=true then t E D O H1 else u E D O H1):xIf tc t u E D O H:=q
theorem oF {sp:Sp} {t:TA} {E:XK} {D:Ends} (q:t O H λvs H1=>sp vs H1 (λ_ H2=>D.nx O H2) E):qE sp t E D O H:=q
structure Held6 (C:Addr) (H:Hp) (e:Addr):Prop where
 ex:∃d fr,H e=some (XO e C d fr)/\∀dx,d=some dx->∃fs,H dx=some (.xd fs)
theorem Held6.same {H':Hp} (h:Held6 C H e) (S:av H H'):Held6 C H' e:=let ⟨d,fr,a,b⟩:=h.ex;⟨d,fr,S _ _ a,λdx q=>let ⟨fs,z⟩:=b dx q;⟨fs,S _ _ z⟩⟩
theorem cH.held (r:cH C H H' e):Held6 C H' e:=⟨none,false,r.2,λdx q=>nomatch q⟩
theorem sM {K:PySem.W.Frag} {c:V} {Q:VK} {b:Bool} (h:Held6 C H e) (kl:XE.XKl K C NE) (hc:(∃a,c=.ref a)\/∃n,c=.ty n) (k:PySem.W.kitOne K (.ref C) (xH c)=some b) (q:Q (.bl b) H):vv K [V.ref e,c] H Q:=by
 obtain⟨d,fr,h1,h2⟩:=h.ex;exact⟨e,C,NE,d,fr,c,b,rfl,hc,h1,h2,kl,k,q⟩
theorem xy {K:PySem.W.Frag} {t:Addr} {cs:D4} {Q:VK} {b:Bool} (h:Held6 C H e) (kl:XE.XKl K C NE) (ht:H t=some (.tup (cs.map V.ref))) (k:PySem.W.kitAny K (.ref C) (cs.map Value.ref)=some b) (q:Q (.bl b) H):vt K [V.ref e,V.ref t] H Q:=by
 obtain⟨d,fr,h1,h2⟩:=h.ex;exact⟨e,C,NE,d,fr,t,cs,b,rfl,ht,h1,h2,kl,k,q⟩
structure KindsM (mg:D3) (c0 c2 c3 c4 c5:Addr):Prop where
 m0:mg "NoStanding" = some (.ref c0)
 m2:mg "NoFit" = some (.ref c2)
 m3:mg "NoText" = some (.ref c3)
 m4:mg "NoName" = some (.ref c4)
 m5:mg "NoRow" = some (.ref c5)
 mV:mg "ValueError" = none
structure NmE (mg:D3) (CS NE:Addr):Prop where
 mS:mg "NoStep" = some (.ref CS)
 mE:mg "NetError" = some (.ref NE)
structure KinB (K:PySem.W.Frag) (C NE c0 c1 c2 c3 c4 c5:Addr):Prop where
 k0:PySem.W.kitOne K (.ref C) (.ref c0)=some (decide (C=c0))
 k1:PySem.W.kitOne K (.ref C) (.ref c1)=some (decide (C=c1))
 k2:PySem.W.kitOne K (.ref C) (.ref c2)=some (decide (C=c2))
 k3:PySem.W.kitOne K (.ref C) (.ref c3)=some (decide (C=c3))
 k4:PySem.W.kitOne K (.ref C) (.ref c4)=some (decide (C=c4))
 k5:PySem.W.kitOne K (.ref C) (.ref c5)=some (decide (C=c5))
 kV:PySem.W.kitOne K (.ref C) (.type "ValueError")=some true
 ex:PySem.W.exmOne K (.ref C) (.ref NE)=some true
 kl:XE.XKl K C NE
end K2
namespace XE
open PySem
open Sem (wp)
structure Fly (L e T:Addr) (h:Heap):Prop where
 ex:∃oe vs oT ts,h.get? e=some oe/\oe.data=.fields vs/\vs[1]?=some (.ref T)/\h.get? T=some oT/\oT.data=.fields ts/\ts[3]?=some (rawInt L)
 ne:T≠e
section
variable {M:Model} {A:Around} {E:C9} {s:Shared} {P:C9}
theorem uG (T:Addr):¬((Value.ref T==Value.none)=true):=by simp
variable {e T L:Addr} {env:Env}
theorem qD {oe oT:Obj} {vs ts:Array Value} (fL:env.frame=some L) (ee:s.heap.get? e=some oe) (ed:oe.data=.fields vs) (v1:vs[1]?=some (.ref T))
  (eT:s.heap.get? T=some oT) (dT:oT.data=.fields ts) (v3:3<ts.size)
  (h:P (.ref e) { s with heap:=s.heap.update T (Obj.mapFields (·.setIfInBounds 3 (rawInt L))) }):cameBackBy M A env P (.ref e) s:=by
 unfold cameBackBy;refine Qa (QP ee ed v1 ?_);rw[Qn (uG T)];rw[fL];refine eU ee ed v1 eT dT v3 ?_;exact h
theorem v8 {base:Heap} {outer:List Env} {oe:Obj} {vs:Array Value}
  (fr:A.frames=some (env::outer)) (ff:s.heap.FunFrames base (env::outer)) (fL:env.frame=some L)
  (ee:s.heap.get? e=some oe) (ed:oe.data=.fields vs) (v1:vs[1]?=some .none)
  (h:∀h' T,XL ((env::outer).filterMap (·.frame)) e [] s.heap h'->Fly L e T h'->s.heap.get? T=none->P (.ref e) { s with heap:=h' }):notedBy M A env (cameBackBy M A env P) (.ref e) s:=by
 unfold notedBy noteFrame;simp only[fL];refine Qa (QP ee ed v1 ?_);rw[Qn (by decide)];have sz:=(Qx.mp v1).1;refine ji fr ff fL ee ed sz λh' T oT ts x eT dT v3 hne=>?_;have x3:=QL ed (·.setIfInBounds 1 (Value.ref T));have v3':=(Qx.mp v3).1;refine qD (s:={ s with heap:=h' }) fL x.at_ x3 (by simp[sz]) eT dT v3' ?_;have ne:∀b o,s.heap.get? b=some o->T≠b:=λb o q z=>by rw[<-z,x.new]at q;cases q
 refine h _ T ⟨λb o eb _ fL q=>?_,λb o eb _ q=>?_,λoe' q=>?_⟩ ⟨⟨_,_,_,_,?_,x3,by simp[sz],QU _ eT (Xb (QL dT _)),QL dT _,by simp[v3']⟩,hne⟩ x.new
 ·exact(Qq _ _ (ne b o q)).trans (x.keep b o eb fL q)
 ·obtain⟨sl,z⟩:=x.slot b o eb q;exact⟨sl,(Qq _ _ (ne b o q)).trans z⟩
 ·rw[ee]at q;cases q;exact⟨_,(Qq _ _ hne).trans x.at_,b8.1,b8.2⟩
 exact(Qq _ _ hne).trans x.at_
theorem v7 {fs:D4} (fL:env.frame=some L) (t:Fly L e T s.heap)
  (h:∀h',XL fs e [T] s.heap h'->Fly L e T h'->P (.ref e) { s with heap:=h' }):notedBy M A env (cameBackBy M A env P) (.ref e) s:=by
 obtain⟨⟨oe,vs,oT,ts,ee,ed,v1,eT,dT,v3⟩,nTe⟩:=t;unfold notedBy noteFrame;simp only[fL];refine Qa (QP ee ed v1 ?_);rw[Qp (show (Value.ref T != Value.none)=true from by simp)];refine Qa (QP eT dT v3 ?_);rw[Qp (show (rawInt L==rawInt L)=true from by simp)];refine Qe ?_;have v3':=(Qx.mp v3).1;have els:∀b,b≠T->(s.heap.update T (Obj.mapFields (·.setIfInBounds 3 (rawInt L)))).get? b=s.heap.get? b:=λb eb=>Qq _ _ (Xo eb);refine qD fL ee ed v1 eT dT v3' (h _ ⟨λb o _ ht _ q=>(els b (λz=>ht (by simp[z]))).trans q,λb o _ ht q=>⟨o.slots,(els b (λz=>ht (by simp[z]))).trans q⟩,λoe' q=>⟨oe',(els e (Xo nTe)).trans q,rfl,rfl⟩⟩ ⟨⟨oe,vs,_,_,(els e (Xo nTe)).trans ee,ed,v1,QU _ eT (Xb (QL dT _)),QL dT _,by simp[v3']⟩,nTe⟩)
theorem v6 {base:Heap} {outer:List Env}
  (fr:A.frames=some (env::outer)) (ff:s.heap.FunFrames base (env::outer)) (fL:env.frame=some L) (t:Tr e T s.heap)
  (h:∀h' T',XL ((env::outer).filterMap (·.frame)) e [T] s.heap h'->Fly L e T' h'->s.heap.get? T'=none->P (.ref e) { s with heap:=h' }):notedBy M A env (cameBackBy M A env P) (.ref e) s:=by
 obtain⟨⟨oe,vs,oT,ts,ee,ed,v1,eT,dT,v3⟩,nTe⟩:=t;unfold notedBy noteFrame;simp only[fL];refine Qa (QP ee ed v1 ?_);rw[Qp (show (Value.ref T != Value.none)=true from by simp)];refine Qa (QP eT dT v3 ?_);rw[Qn (show ¬((Value.none==rawInt L)=true) from by simp[rawInt])];refine Qa (wpAny_setField eT dT (Qx.mp v3).1 ?_);have sz:=(Qx.mp v1).1;have els:∀b,b≠T->(s.heap.update T (Obj.mapFields (·.setIfInBounds 3 Value.none))).get? b=s.heap.get? b:=λb eb=>Qq _ _ (Xo eb)
 have norec:∀b o,s.heap.get? b=some o->(∀vs,o.data≠.fields vs)->b≠T:=λb o eb nf q=>by
  rw[q,eT]at eb;injection eb with eb;subst eb;exact nf ts dT
 refine ji (ff:=ff.of_keeps λb o eb nf=>⟨o,(els b (norec b o eb nf)).trans eb,rfl⟩) fr (fL:=fL) (ee:=(els e (Xo nTe)).trans ee) ed sz λh' T' oT' ts' x eT' dT' v3' hne=>?_;have x3:=QL ed (·.setIfInBounds 1 (Value.ref T'));have v3'':=(Qx.mp v3').1
 have nT:T≠T':=λz=>by
  have q:=x.new;rw[<-z,QU _ eT (Xb (QL dT _))]at q;cases q
 have new:s.heap.get? T'=none:=by
  have q:=x.new
  change (s.heap.update T (Obj.mapFields (·.setIfInBounds 3 Value.none))).get? T'=none at q
  rwa [els T' (Xo nT)]at q
 refine qD (s:={ s with heap:=h' }) fL x.at_ x3 (by simp[sz]) eT' dT' v3'' ?_;have ne:∀b o,s.heap.get? b=some o->T'≠b:=λb o q z=>by rw[<-z,new]at q;cases q
 refine h _ T' ⟨λb o eb ht fL q=>?_,λb o eb ht q=>?_,λoe' q=>?_⟩ ⟨⟨_,_,_,_,?_,x3,by simp[sz],QU _ eT' (Xb (QL dT' _)),QL dT' _,by simp[v3'']⟩,hne⟩ new
 ·exact(Qq _ _ (ne b o q)).trans (x.keep b o eb fL ((els b (λz=>ht (by simp[z]))).trans q))
 ·obtain⟨sl,z⟩:=x.slot b o eb ((els b (λz=>ht (by simp[z]))).trans q);exact⟨sl,(Qq _ _ (ne b o q)).trans z⟩
 ·rw[ee]at q;cases q;exact⟨_,(Qq _ _ hne).trans x.at_,b8.1,b8.2⟩
 exact(Qq _ _ hne).trans x.at_
theorem lT {fs:D4} {Q:Unit->Shared->Prop} (fL:env.frame=some L) (t:Fly L e T s.heap)
  (h:∀h',XL fs e [T] s.heap h'->Tr e T h'->Q () { s with heap:=h' }):wpAny M A (leaving env (.ref e)) Q E s:=by
 obtain⟨⟨oe,vs,oT,ts,ee,ed,v1,eT,dT,v3⟩,nTe⟩:=t;unfold leaving noteFrame;simp only[fL];refine Qa (Qa (QP ee ed v1 ?_));rw[Qp (show (Value.ref T != Value.none)=true from by simp)];refine Qa (QP eT dT v3 ?_);rw[Qp (show (rawInt L==rawInt L)=true from by simp)];refine Qe ?_;have v3':=(Qx.mp v3).1;have els:∀b,b≠T->(s.heap.update T (Obj.mapFields (·.setIfInBounds 3 ((none:Option Addr).elim Value.none λf=>rawInt f)))).get? b=s.heap.get? b:=λb eb=>Qq _ _ (Xo eb);refine eU ee ed v1 eT dT v3' (h _ ⟨λb o _ ht _ q=>(els b (λz=>ht (by simp[z]))).trans q,λb o _ ht q=>⟨o.slots,(els b (λz=>ht (by simp[z]))).trans q⟩,λoe' q=>⟨oe',(els e (Xo nTe)).trans q,rfl,rfl⟩⟩ ⟨⟨oe,vs,_,_,(els e (Xo nTe)).trans ee,ed,v1,QU _ eT (Xb (QL dT _)),QL dT _,by simp[v3']⟩,nTe⟩)
end
end XE
namespace L2
open PySem PySem.Spec PyProof.Rows PySem.Calls
theorem qC {fs Ts:D4} {L e C T:Addr} {d:Option Addr} {b:Bool} {h1 h2:Heap} (x:XOk e C d b h1) (y:XE.XL fs e Ts h1 h2) (t:XE.Fly L e T h2):XOk e C d false h2:=by
 obtain⟨o,vs,h1,c1,c2,_⟩:=x;obtain⟨oe,z,e1,e2⟩:=y.at_ o h1;obtain⟨oe',vs',_,_,z',dd,_⟩:=t.ex;rw[z]at z';cases z';exact⟨oe,vs',z,e1.trans c1,e2.trans c2,dd,λk=>by cases k⟩
def XF (X:Cx) (E:XK):Value->Shared->Prop:=λev s' =>
 (∃pins O H1 e C d,ev=.ref e/\Inv X pins O H1 s'/\H1 e=some (XO e C d true)/\E (.ref C) (some e) (upd H1 e (XO e C d false)))
 \/ (∃pins O H1 s1 e C T d H2,ev=.ref e/\Inv X pins O H1 s1/\s'.os=s1.os/\AllBare s'.gens/\Un (frs X.stack) [] H1 H2 s1.heap s'.heap/\HOk X.prog X.w H2 s'.heap/\H2 e=some (XO e C d false)/\s1.heap.get? T=none/\H2 T=none/\XE.Fly X.env.locals e T s'.heap/\E (.ref C) (some e) H2)
 \/ ∃pins O H1 s1,Inv X pins O H1 s1/\CX1 X.prog X.w X.stack H1 s1 E ev s'
section
variable {X:Cx} {E:XK}
variable {s s1 s2:Shared} {pins:D0}
theorem sS {O:St} {H H1:Hp} {e C T:Addr} {d:Option Addr} {h2:Heap} {Ts:D4} (I:Inv X pins O H s) (un:Un (frs X.stack) [] H H1 s.heap s1.heap) (hok:HOk X.prog X.w H1 s1.heap)
  (eo:H1 e=some (XO e C d false)) (hT:∀T∈Ts,s.heap.get? T=none) (hT1:∀T∈Ts,H1 T=none) (xl:XE.XL (frs X.stack) e Ts s1.heap h2) (tr:XE.Fly X.env.locals e T h2) (fr:∀b∈frs X.stack,H1 b=none) :
  Un (frs X.stack) [] H H1 s.heap h2/\HOk X.prog X.w H1 h2:=by
 have xo:XOk e C d false s1.heap:=(hok e _ eo).1;have xl':XE.XL (s.heap.objs.size::frs X.stack) e Ts s1.heap h2:=⟨λb o n t f q=>xl.keep b o n t (λz=>f (Qo _ z)) q,xl.slot,xl.at_⟩;exact⟨Un.exc (L:=s.heap.objs.size) un eo eo (λ_ _=>rfl) xl' (XM (Qi _)) hT,HOk.exc hok eo eo (gx (qC xo xl tr)) (λ_ _=>rfl) xl fr hT1⟩
theorem ko {O:St} {H1 H2:Hp} (I1:Inv X pins O H1 s1) (un2:Un (frs X.stack) [] H1 H2 s1.heap s2.heap):∀b∈frs X.stack,H2 b=none:=λb hb=>by
 obtain⟨_,o,ho,_⟩:=I1.stack.mem hb;exact un2.free b o ho (I1.stkFree b hb) (by simp)
theorem ff2 {O:St} {H1 H2:Hp} (hst:X.stack=X.env::X.outer) (I1:Inv X pins O H1 s1) (un2:Un (frs X.stack) [] H1 H2 s1.heap s2.heap):s2.heap.FunFrames X.base (X.env::X.outer):=by
 rw[<-hst];exact sT I1.stack λb hb o ho=>un2.slot b o ho (I1.stkFree b hb) hb (by simp)
theorem wb (hst:X.stack=X.env::X.outer) (hfr:X.env.frame=some X.env.locals):PassesOwn (model X.prog X.w) X.A X.env (XF X E):=by
 rintro ev s2 (⟨pins,O,H1,e,C,d,rfl,I,he,hE⟩|⟨pins,O,H1,s1,e,C,T,d,H2,rfl,I1,os2,bare2,un2,hok2,eo,nT,nT2,fl,hE⟩|⟨pins,O,H1,s1,I1,e,C,T,d,H2,rfl,os2,bare2,un2,hok2,eo,nT,nT2,tr,hE⟩)
 ·have xo:XOk e C d true s2.heap:=(I.hok e _ he).1;obtain⟨o,vs,g1,g2,g3,g4,g5⟩:=id xo;obtain⟨t,rfl⟩:=g5 rfl;refine XE.v8 (base:=X.base) (by rw[I.ok.frames,hst]) (by rw[<-hst];exact I.stack) hfr g1 g4 rfl λh' T xl fl new=>?_;have xl:XE.XL (frs X.stack) e [] s2.heap h':=by rw[hst];exact xl
  have nTe:T≠e:=fl.ne;have els:∀b,b≠e->upd H1 e (XO e C d false) b=H1 b:=λb hb=>am hb;have xl':XE.XL (s2.heap.objs.size::frs X.stack) e [] s2.heap h':=⟨λb o n t f q=>xl.keep b o n t (λz=>f (Qo _ z)) q,xl.slot,xl.at_⟩;refine .inr (.inl ⟨pins,O,H1,s2,e,C,T,d,upd H1 e (XO e C d false),rfl,I,rfl,I.bare,Un.exc (L:=s2.heap.objs.size) (Ts:=[]) Un.refl he ah els xl' (XM (Qi _)) (by simp),?_,ah,new,by rw[am nTe];exact I.hok.nothere new,fl,hE⟩);exact HOk.exc (Ts:=[]) I.hok he ah (gx (qC xo xl fl)) els xl (λb hb=>I.stkFree b hb) (by simp)
 ·refine XE.v7 (fs:=frs X.stack) hfr fl λh' xl fl'=>?_;obtain⟨un3,hok3⟩:=sS (T:=T) (Ts:=[T]) I1 un2 hok2 eo (by simpa using nT) (by simpa using nT2) xl fl' (ko I1 un2);exact .inr (.inl ⟨pins,O,H1,s1,e,C,T,d,H2,rfl,I1,os2,bare2,un3,hok3,eo,nT,nT2,fl',hE⟩)
 refine XE.v6 (base:=X.base) (by rw[I1.ok.frames,hst]) (ff2 hst I1 un2) hfr tr λh' T' xl fl new=>?_;have xl:XE.XL (frs X.stack) e [T] s2.heap h':=by rw[hst];exact xl
 obtain⟨un3,hok3⟩:=sS (T:=T') (Ts:=[T]) I1 un2 hok2 eo (by simpa using nT) (by simpa using nT2) xl fl (ko I1 un2)
 have nT3:s1.heap.get? T'=none:=by
  cases q:s1.heap.get? T' with
  | none=>rfl
  | some ob =>
  obtain⟨o',z⟩:=un2.there T' ob q (by simp);rw[new]at z;cases z
 exact .inr (.inl ⟨pins,O,H1,s1,e,C,T',d,H2,rfl,I1,os2,bare2,un3,hok3,eo,nT3,hok2.nothere new,fl,hE⟩)
theorem uc {st:Stmt} {t:TS} (h:PS (X.wish (XF X E)) st t) (hx:∀ev s',XF X E ev s'->X.xe ev s'):PS X st t:=λpins s O H D I q =>
 Xm (h pins s O H D (I.wish _) q) (λ_ _ z=>z.unwish) hx
theorem ud {tg iter:Expr} {body:List Stmt} {wi:TI} {g:TG} {tb:TS} {pos:Pos} (hst:X.stack=X.env::X.outer) (hfr:X.env.frame=some X.env.locals) (hx:∀ev s',XF X E ev s'->X.xe ev s') (hc:X.calm=true) (hi:PI (X.wish (XF X E)) tg iter wi) (hg:PG (X.wish (XF X E)) tg g) (hb:PSs (X.wish (XF X E)) body tb) (hs:∀x,foldedSetIterable iter X.env x=pure x:=by intro _;rfl):PS X (.For tg iter body [] pos) (wv wi g tb):=uc (ps_for (wb hst hfr) hc hi hg hb hs) hx
theorem tM:eR (CX1 X.prog X.w) (X.wish (XF X E)) E:=λpins O H s _ _ I z=>.inr (.inr ⟨pins,O,H,s,I.unwish,z⟩)
end
section
variable {P:Program} {w:World} {K:PySem.W.Frag} {mg:D3} {base:Heap} {N:List Str} {qual:Str} {scope:Scope} {f:Addr} {cd:Value} {A:Around} {outer:List Env} {s:Shared} {H:Hp} {E:XK}
theorem xS:∀ev s',XF (cxOf (CX1 P w) P w K mg base N qual scope f cd A outer s H E) E ev s'->(cxOf (CX1 P w) P w K mg base N qual scope f cd A outer s H E).xe ev s':=by
 rintro ev s2 (⟨pins,O,H1,e,C,d,rfl,I,he,hE⟩|⟨pins,O,H1,s1,e,C,T,d,H2,rfl,I,os2,bare2,un2,hok2,eo,nT,nT2,fl,hE⟩|⟨pins,O,H1,s1,I,z⟩)
 ·exact fD I he hE
 ·have I2:Inv (cxOf (CX1 P w) P w K mg base N qual scope f cd A outer s H E) pins O H2 s2:=I.call' (ch:=[]) os2 un2 hok2 bare2 (λb z=>absurd z (by simp));have xo:XOk e C d false s2.heap:=(hok2 e _ eo).1;have hL:s.heap.get? s.heap.objs.size=none:=XM (Qi _)
  have nTs:s.heap.get? T=none:=by
   cases q:s.heap.get? T with
   | none=>rfl
   | some ob =>
   obtain⟨o',z⟩:=I.base.there T ob q (λz=>absurd (show T∈([]:D4) from z) (by simp));rw[nT]at z;cases z
  refine XE.lT (fs:=s.heap.objs.size::frs outer) rfl fl λh' xl tr'=>?_;refine⟨e,C,T,d,H2,rfl,I2.os,I2.bare,Un.exc (L:=s.heap.objs.size) (Ts:=[T]) I2.base eo eo (λ_ _=>rfl) xl hL (by simpa using nTs),?_,eo,nTs,nT2,tr',hE⟩;refine HOk.exc (Ts:=[T]) hok2 eo eo (gx (jh xo xl ⟨T,tr'⟩)) (λ_ _=>rfl) xl (λb hb=>I2.stkFree b hb) (by simpa using nT2)
 exact n9 pins O H1 s1 ev s2 I z
end
end L2
namespace L2
open PySem PySem.Spec PyProof.Rows PySem.SeqAt PySem.MeetsSeq
open PySem.AutoSeq1 (wpAny_loadPart')
def BK (l:Addr) (us:Array Value) (n:Nat) (x:Value) (e:Value->Bool) (A:Around) (s:Shared):Prop :=
 s.heap.get? l=some { cls:=.type "list", dict:=none,data:=.seq us n,slots:=#[] }/\∀y,y∈us->EqAt A.in1 s y x (e y)
theorem nU {l:Addr} {us:Array Value} {n:Nat} {x:Value} {e:Value->Bool} {j:Nat} (hj:j<us.size) (hit:e us[j]=true) (few:us.size<=sizeLine):∀(d i:Nat),i+d=j->(∀m (hm:m<us.size),i<=m->m<j->e us[m]=false) ->
  Meets (Builtin.«list.remove.loop» ⟨[.ref l,x,rawInt i],[]⟩) λA R s=>BK l us n x e A s/\R (.ok (.ret .none)) { s with heap:=s.heap.update l (Obj.mapSeq λxs=>xs.eraseIdxIfInBounds j) }
 | 0,i,ei,_=>by
  obtain rfl:i=j:=ei;rintro prog w A R ⟨hp,g,dd,tk,os⟩ ⟨⟨hl,he⟩,q⟩
  wp_walk using wpAny_loadPart' hl
  rw[show us[((i:Nat):Int).toNat]?=some us[i] by simp[hj]];refine Qa (he _ (Array.getElem_mem hj) prog w _ _ ?_);rw[hit];have b2:(us.eraseIdxIfInBounds i).size<=sizeLine+1:=Nat.le_succ_of_le (QR (size_erased us i) few)
  wp_walk using(wpAny_updateSeq hl rfl (hz:=few) (_hz':=b2)),wpAny_loadPart' hl
  simpa using q
 | d+1,i,ei,no=>by
  rintro prog w A R ⟨hp,g,dd,tk,os⟩ ⟨⟨hl,he⟩,q⟩;have il:i<us.size:=by omega
  wp_walk using wpAny_loadPart' hl
  rw[show us[((i:Nat):Int).toNat]?=some us[i] by simp[il]];refine Qa (he _ (Array.getElem_mem il) prog w _ _ ?_);rw[no i il (Qi _) (by omega)]
  wp_walk
  rw[show ((i:Int)+1)=((i+1:Nat):Int) from rfl];refine⟨plainId_quiet plain_remove_loop _,XB entry_remove_loop ?_⟩;rw[Xf plain_remove_loop _];exact nU hj hit few d (i+1) (by omega) (λm hm h1 h2=>no m hm (by omega) h2) prog w A R _ ⟨⟨hl,he⟩,q⟩
theorem wF {l:Addr} {us:Array Value} {n:Nat} {x:Value} {e:Value->Bool} {j:Nat} (hj:j<us.size) (hit:e us[j]=true) (few:us.size<=sizeLine) (no:∀m (hm:m<us.size),m<j->e us[m]=false) :
  Meets (Builtin.«list.remove» ⟨[.ref l,x],[]⟩) λA R s=>BK l us n x e A s/\R (.ok (.ret .none)) { s with heap:=s.heap.update l (Obj.mapSeq λxs=>xs.eraseIdxIfInBounds j) }:=by
 rintro prog w A R ⟨hp,g,dd,tk,os⟩ ⟨⟨hl,he⟩,q⟩
 wp_walk using wpAny_loadPart' hl
 refine⟨plainId_quiet plain_remove_loop _,XB entry_remove_loop ?_⟩;rw[Xf plain_remove_loop _];exact nU hj hit few j 0 (by omega) (λm hm _ h2=>no m hm h2) prog w A R _ ⟨⟨hl,he⟩,q⟩
section
variable {X:Cx}
def re (K:PySem.W.Frag):V->List V->Hp->VK->Prop:=λx vs H Q=>∃(l:Addr) (ys:List V) (y:V) (e:V->Bool) (j:Nat) (z:V),x=.ref l/\vs=[y]/\H l=some (.lst ys)/\(∀v∈ys,EqD K H 8 v y (e v))/\ys[j]?=some z/\e z=true/\(∀m v,m<j->ys[m]?=some v->e v=false)/\Q .non (upd H l (.lst (ys.eraseIdx j)))
theorem mI (hu:X.A.units+64<cLine):MtM X "list.remove" (re X.K):=by
 intro pins s O H x vs v us Q I rx rv h;obtain⟨l,ys,y,e,j,z,rfl,rfl,hH,f,hj,ez,no,q⟩:=h;cases rx;obtain⟨u,rfl,ru⟩:=dJ rv;obtain⟨zl,its,n,r,hl,ho⟩:=I.lstM hH;have hu':X.A.in1.units+8<cLine:=show X.A.units+1+8<cLine by omega
 obtain⟨w1,hw1,rw1⟩:=r.get hj;have hjl:=(Qf.mp hw1).1
 have at_:∀m (hm:m<its.toArray.size),∃v,ys[m]?=some v/\vOf its.toArray[m]=v:=λm hm=>by
  have hm:m<its.length:=by simpa using hm
  have hm2:m<ys.length:=by rw[r.length];exact hm
  obtain⟨w,hw,rw'⟩:=r.get (Qd hm2);rw[Qd hm]at hw;cases hw;exact⟨_,Qd hm2,qI rw'⟩
 have few:its.toArray.size<=sizeLine:=by rw[Ql];omega
 refine call_meets F.slot_list_remove ⟨_,ho,rfl⟩ F.entry_list_remove (F.args_list_remove_2 _ _) (wF (l:=l) (us:=its.toArray) (n:=n) (x:=u) (e:=λu=>e (vOf u)) (j:=j) (by simpa using hjl) ?_ few (λm hm hmj=>?_)) ⟨⟨ho,?_⟩,?_⟩
 ·obtain⟨v,hv,ev⟩:=at_ j (by simpa using hjl);rw[hj]at hv;cases hv;rw[ev];exact ez
 ·obtain⟨v,hv,ev⟩:=at_ m hm;rw[ev];exact no m v hmj hv
 ·exact λw hw=>EqD.mems I hu' ru r f w (by simpa using hw)
 refine⟨.non,_,I.lset (its':=its.eraseIdx j) hH ho ?_ (r.eraseIdx j) ?_,rfl,q⟩
 ·show its.toArray.eraseIdxIfInBounds j=(its.eraseIdx j).toArray;rw[List.eraseIdxIfInBounds_toArray]
 have:=fP ys j;omega
end
end L2
namespace L2
open PySem PySem.Spec PyProof.Rows
section
variable {X:Cx}
def rf:V->List V->Hp->VK->Prop:=λx vs H Q=>∃l xs y,∃i:Nat,x=.ref l/\vs=[.int i,y]/\i<=xs.length/\i<1000/\H l=some (.lst xs)/\xs.length<sizeLine/\Q .non (upd H l (.lst (xs.take i++y::xs.drop i)))
theorem kc {y:V} {u:Value} (ru:aR y u):∀{xs:List V} {its:List Value} (i:Nat),aJ xs its->aJ (xs.take i++y::xs.drop i) (its.take i++u::its.drop i)
 | _,_,0,r=>.cons ru r
 | _,_,i+1,.nil=>.cons ru .nil
 | _,_,i+1,.cons r1 r2=>.cons r1 (kc ru i r2)
theorem mJ:MtM X "list.insert" rf:=by
 intro pins s O H x vs v us Q I rx rv h;obtain⟨l,xs,y,i,rfl,rfl,hi,hi2,hH,hz,q⟩:=h;cases rx;obtain⟨u1,u,rfl,ru1,ru⟩:=fY rv;obtain⟨t,rfl⟩:=ru1;obtain⟨z,its,n,r,hl,e⟩:=I.lstM hH
 have fi:¬(!Builtin.List.listFitsIndex (i:Int))=true:=by
  have this:Builtin.List.listFitsIndex (i:Int)=true:=by
   show (decide (-(2 ^ 63:Int)<=(i:Int))&&decide ((i:Int)<2 ^ 63))=true;rw[QG (by omega),QG (by omega)];rfl
  rw[this];exact λh=>nomatch h
 have hlen:=r.length;have hzz:its.toArray.size<=sizeLine:=by rw[Ql];omega
 generalize hk:(i:Int)=k at fi ⊢;refine call_meets F.slot_list_insert ⟨_,e,rfl⟩ F.entry_list_insert (F.args_list_insert_3 _ _ _) (PySem.AutoListH.list_insert_list_int_val_1 l its.toArray n k t u fi hzz) ⟨e,?_⟩;refine⟨.non,_,I.lset (its':=its.take i++u::its.drop i) hH e ?_ (kc ru i r) ?_,rfl,q⟩
 ·dsimp only
  have e1:(if k<0 then (k+((its.toArray.size:Nat):Int)).toNat else min k.toNat its.toArray.size)=i:=by
   rw[Qn (by omega),Ql];omega
  rw[e1];rw[<-Array.toList_inj];have e2:its.take its.length=its:=List.take_length;simp[List.extract_eq_drop_take,Q1]
 rw[Qh,Q2,QA,Q3];omega
end
end L2
namespace K2
open PySem L2
theorem cZ {X:Cx} {K:PySem.W.Frag} (h:X.K=K):IxR X (wI K):=by subst h;exact aM
variable {H H' H1 H2:Hp}
theorem cV {td ty tv:TE} {D:Ends} {O:St} (q:tv O H λv H1=>td O H1 λx H2=>ty O H2 λy H3=>∃a H4,x=.ref a/\eS H3 a y v H4/\D.nx O H4):nQ td ty tv D O H:=q
theorem sN {td ty:TE} {O:St} {Q:VK} (q:ty O H λy H1=>td O H1 λx H2=>∃a o,x=.ref a/\cL H2 a y o/\Q (.bl (!o.isSome)) H2):nG ty td O H Q:=q
variable {env:Env} {es a:List Expr} {p pos:Pos}
theorem se_tup {n:Nat}:starEach (.Tuple a n p::es) env=(false,eval (.Tuple a n p) env)::starEach es env:=by rfl
theorem be {f:Expr} {k:List Keyword}:starEach (.Call f a k p::es) env=(false,eval (.Call f a k p) env)::starEach es env:=by rfl
theorem aD {c:Const} {n:Nat}:starEach (.Constant c n p::es) env=(false,eval (.Constant c n p) env)::starEach es env:=by rfl
theorem ak {x:Str}:starEach (.Name x p::es) env=(false,eval (.Name x p) env)::starEach es env:=by rfl
theorem se_bin {a b:Expr} {o:Operator}:starEach (.BinOp a o b p::es) env=(false,eval (.BinOp a o b p) env)::starEach es env:=by rfl
theorem se_lc {a:Expr} {g:List Comprehension} {sc:Scope}:starEach (.ListComp a g sc p::es) env=(false,eval (.ListComp a g sc p) env)::starEach es env:=by rfl
theorem se_sub {a b:Expr}:starEach (.Subscript a b p::es) env=(false,eval (.Subscript a b p) env)::starEach es env:=by rfl
structure Txt (K:PySem.W.Frag) (mg:D3) (TT:Addr):Prop where
 n_len:mg "len" = none
 n_range:mg "range" = none
 n_max:mg "max" = none
 n_min:mg "min" = none
 n_int:mg "int" = none
 n_list:mg "list" = none
 n_str:mg "str" = none
 n_isinstance:mg "isinstance" = none
 n_all:mg "all" = none
 n_set:mg "set" = none
 n_dict:mg "dict" = none
 n_enumerate:mg "enumerate" = none
 n_sorted:mg "sorted" = none
 n_tuple:mg "tuple" = none
 n_bool:mg "bool" = none
 n_zip:mg "zip" = none
 n_reversed:mg "reversed" = none
 mNODES:∃t,mg "MOST_NODES" = some (.int 40 t)
 mWIRES:∃t,mg "MOST_WIRES" = some (.int 5 t)
 sA:∃a,mg "SIGNS_AHEAD" = some (.ref a)/\nA K a [("+", .flat (.str "0")),("-", .flat (.str "1"))]
 tURNED:mg "TURNED" = some (.ref TT)
 tab:nA K TT [("0", .flat (.str "1")),("1", .flat (.str "0"))]
structure Dk where
 d:Addr
def Dk.own (D:Dk) (b:Addr):Prop:=b=D.d
def Dk.At (D:Dk) (H:Hp):Prop:=∃xs:List Int,H D.d=some (.lst (xs.map V.int))
structure Kp (D:Dk) (H H':Hp):Prop where
 old:∀b o,H b=some o->¬D.own b->H' b=some o
 dk:D.At H'
def eE:Sp:=λvs H Q _=>∃(D:Dk) (m:Int),vs=[.ref D.d,.int m]/\D.At H/\1<=m/\m<=100000/\∀(r:Int) H',0<=r->r<m->Kp D H H'->Q (.int r) H'
def bI (H H':Hp):Prop:=∀b xs,H b=some (.tup xs)->H' b=some (.tup xs)
theorem av.tups (S:av H H'):bI H H':=λb xs e=>S b _ e
variable {D:Dk}
theorem Dk.At.same {H':Hp} (S:av H H') (h:D.At H):D.At H':=let ⟨xs,e⟩:=h;⟨xs,S _ _ e⟩
theorem Kp.of (h:D.At H) (S:av H H'):Kp D H H':=⟨λb o e _=>S b o e,h.same S⟩
theorem Kp.trans (a:Kp D H H1) (b:Kp D H1 H2):Kp D H H2:=⟨λc o e n=>b.old c o (a.old c o e n) n,b.dk⟩
theorem Kp.tups (DA:D.At H) (k:Kp D H H'):bI H H':=λb xs e=>k.old b _ e λz=>by
 obtain⟨ys,q⟩:=DA;cases z;rw[q]at e;cases e
variable {o:HO}
theorem Kp.fresh {L:Addr} (DA:D.At H) (hL:H L=none) (k:Kp D H H'):Kp D H (upd H' L o):=by
 obtain⟨a0,e0⟩:=DA;obtain⟨a,e⟩:=k.dk;exact⟨λb u e nb=>by rw[am (aB e hL)];exact k.old b u e nb,⟨a,by rw[am (aB e0 hL)];exact e⟩⟩
theorem Kp.new {p:Addr} {o:HO} (k:Kp D H H') (hp:H' p=none):Kp D H (upd H' p o):=k.trans (Kp.of k.dk (aN hp))
theorem Kp.free {l:Addr} (k:Kp D H H') (h:H' l=none):H l=none:=by
 cases e:H l with
 | none=>rfl
 | some o =>
 exfalso;by_cases c:D.own l
 ·obtain⟨a,q⟩:=k.dk;cases c;rw[q]at h;cases h
 rw[k.old l o e c]at h;cases h
theorem aw {p:Addr} (DA:D.At H) (hp:H p=none):¬D.own p:=λz=>by
 obtain⟨a,e⟩:=DA;cases z;rw[e]at hp;cases hp
structure StOk (n:Nat) (z:Str):Prop where
 len:z.cps.size=n
 signs:∀c∈z.cps.toList,c=48\/c=49
theorem gY {X:Cx} {K:PySem.W.Frag} (h:X.K=K):OpR X (compareOp .In) (rIn K false):=by subst h;exact d7
theorem gq {X:Cx} {K:PySem.W.Frag} {k:Nat} {t:TGs} {n:Nat} (hK:X.K=K) (hc:X.calm=true) (h:PGs X es t)
  (hn:(assignEach es X.env).length=n:=by rfl) (hst:(assignEach es X.env).findIdx? (·.1)=none:=by rfl):PG X (.Tuple es k pos) (Bz K n t):=by subst hK;exact eJ hc h hn hst
theorem cU {A B:TS} {D:Ends} {O:St} (J:St->Hp->Prop) (h:∀(R:St->Hp->Prop),(∀O H,J O H->R O H)->A { D with nx:=R } O H) (hJ:∀O H,J O H->B D O H):lY A B D O H:=h (B D) hJ
theorem d_ {α β:Type} (f:α->β):∀(xs:List α) (k:Nat),(xs.map f).eraseIdx k=(xs.eraseIdx k).map f
 | [],_=>rfl
 | _::_,0=>rfl
 | x::xs,k+1=>by
  rw[Qu,List.eraseIdx_cons_succ,List.eraseIdx_cons_succ,Qu,d_ f xs k]
theorem aI {a b:Addr} (h1:H a=some o) (h2:H b=none):b≠a:=λz=>by rw[z,h1]at h2;cases h2
theorem bV {α β:Type} {F:α->β->Prop}:∀{xs:List α} {ys:List β} {x:α} {y:β},Paired F xs ys->F x y->Paired F (xs++[x]) (ys++[y])
 | _,_,_,_,.nil,h=>.cons h .nil
 | _,_,_,_,.cons h t,g=>.cons h (bV t g)
theorem au {α β:Type} {F G:α->β->Prop} (h:∀a b,F a b->G a b):∀{xs:List α} {ys:List β},Paired F xs ys->Paired G xs ys
 | _,_,.nil=>.nil
 | _,_,.cons a t=>.cons (h _ _ a) (au h t)
theorem paired_get {α β:Type} {F:α->β->Prop}:∀{xs:List α} {ys:List β} {i:Nat} {x:α},Paired F xs ys->xs[i]?=some x->∃y,ys[i]?=some y/\F x y
 | _,_,_,_,.nil,e=>by simp at e
 | _,_,0,_,.cons r _,e=>by simp at e;subst e;exact⟨_,rfl,r⟩
 | _,_,i+1,x,.cons _ t,e=>by
  obtain⟨u,h1,h2⟩:=paired_get (i:=i) (x:=x) t (by simpa using e);exact⟨u,by simpa using h1,h2⟩
theorem bW {α β:Type} {F:α->β->Prop}:∀{xs:List α} {ys:List β} {i:Nat} {y:β},Paired F xs ys->ys[i]?=some y->∃x,xs[i]?=some x/\F x y
 | _,_,_,_,.nil,e=>by simp at e
 | _,_,0,_,.cons r _,e=>by simp at e;subst e;exact⟨_,rfl,r⟩
 | _,_,i+1,y,.cons _ t,e=>by
  obtain⟨u,h1,h2⟩:=bW (i:=i) (y:=y) t (by simpa using e);exact⟨u,by simpa using h1,h2⟩
theorem ifT {c:Bool} {A B:Prop} (hc:c=true) (h:A):if c=true then A else B:=by rw[Qp hc];exact h
theorem ifF {c:Bool} {A B:Prop} (hc:c=false) (h:B):if c=true then A else B:=by subst hc;exact iteF h
theorem bO {D:Addr} (S:av H H') (hD:H D=none):av H (upd H' D o):=λb u e=>by rw[am (aB e hD)];exact S b u e
theorem aq {p:Addr} (h:H p=none) (e:upd H p o=H'):av H H'/\H' p=some o:=by
 subst e;exact⟨aN h,ah⟩
theorem a_ {α β:Type} {F:α->β->Prop}:∀{xs:List α} {ys:List β},Paired F xs ys->xs.length=ys.length
 | _,_,.nil=>rfl
 | _,_,.cons h t=>by simp[a_ t]
end K2
namespace K2
open PySem L2
abbrev SqLofQ:=@SqL.of
abbrev i_nilQ:=@bC
abbrev i_varQ:=@ba
abbrev pa_consQ:=@aa
abbrev pa_nilQ:=@ad
abbrev pe_intQ:=@ae
abbrev pe_strQ:=@aG
abbrev s_nameQ:=@aC
abbrev se_callQ:=@be
abbrev se_conQ:=@aD
abbrev se_nameQ:=@ak
local macro_rules | `(tactic| walk_at "vc") => `(tactic| first
 | ((refine' (?zz : (?zA → ?zG) → ?zA → ?zG) ?zr ?_); (case zr => with_reducible exact s_seqT); (case zz => exact fun _ q => q); intro D') | ((refine' (?zz : (?zA → ?zG) → ?zA → ?zG) ?zr ?_); (case zr => with_reducible first | exact s_asg | exact s_drop | exact s_ret | exact s_if | exact s_sub | exact s_next | exact i_c | exact i_op | exact i_test | exact i_tB | exact i_and | exact i_or | exact i_not | exact i_andV | exact i_orV | exact i_notV | exact i_ifE | exact i_nilQ | exact i_cons | exact i_cb | exact i_tup | exact i_lst | exact i_bm | exact i_sl | exact i_nopart | exact i_part | exact s_for | exact s_rng1 | exact s_list | exact s_str | exact i_dget | exact i_yes | exact i_un); (case zz => exact fun _ q => q))   | (with_reducible refine s_nameQ ?_)
 | ((with_reducible refine' i_varQ ?hv ?_); (case hv => exact rfl))   | (with_reducible first | refine i_rI0 ?_ | refine i_call ?_ | refine s_strI ?_ | refine iteF ?_ | refine iteT ?_ | refine i_rU ?_)
 | ((with_reducible show ∃ i, V.int _ = V.int i ∧ _); (refine ⟨_, rfl, ?_⟩)) | ((with_reducible show ∃ k, V.bl _ = V.bl k ∧ _); (refine ⟨_, rfl, ?_⟩)) | ((with_reducible show (∃ i, [V.bl _] = [V.int i] ∧ _) ∨ _); (refine Or.inr ⟨_, rfl, ?_⟩))
 | ((with_reducible refine' i_ixL ?ha ?hb ?_); (case ha => exact SqLofQ (by assumption)); (case hb => exact rfl)) | ((with_reducible refine' i_ixT ?ha ?hb ?_); (case ha => assumption); (case hb => exact rfl))
 | ((with_reducible show ∃ p _, [V.ref _] = [V.ref p] ∧ (SqL _ _ _ _ ∨ SqT _ _ _ _) ∧ _); (refine' ⟨_, _, rfl, Or.inl (SqLofQ ?ha), ?_⟩); (case ha => assumption)) | ((with_reducible refine' s_setL ?ha ?hb ?_); (case ha => assumption); (case hb => exact rfl))
 | ((with_reducible refine' i_eq ?ha ?_); (case ha => exact rfl)) | ((with_reducible refine' i_ne ?ha ?_); (case ha => exact rfl))
 | ((with_reducible show ∃ z, V.str _ = V.str z ∧ _); (refine ⟨_, rfl, ?_⟩))
 | ((with_reducible refine' i_rI ?hv ?_); (case hv => first | decide | (dsimp only; omega) | exact .inl ⟨by omega, by omega⟩ | exact .inr ⟨by omega, by omega⟩ | exact ⟨by decide, by decide⟩ | exact ⟨by decide, by decide, by decide⟩ | exact ⟨by omega, by omega⟩))
 | ((with_reducible show ∃ i, [V.int _] = [V.int i] ∧ _); (refine ⟨_, rfl, ?_⟩))
 | ((with_reducible show tyV _ "list" _ _ ∧ _); (refine' ⟨i_tyL ?ha, ?_⟩); (case ha => assumption)))
local macro_rules | `(tactic| walk_at "p") => `(tactic| repeat' (with_reducible first | (refine' pss_one ?_; rotate_left 1) | (refine' pss_cons ?_ ?_; rotate_left 2) | exact pss_nil | (refine' ps_if ?_ ?_ ?_; rotate_left 3)))
local macro_rules | `(tactic| walk_at "b") => `(tactic| (refine' pss_cons ?_ ?_; rotate_left 2; walk_at "p"))
local macro_rules | `(tactic| walk_at "f") => `(tactic| (refine' ps_for PassesOwn.never rfl ?_ ?_ ?_ (fun _ => rfl); rotate_left 3))
local macro_rules | `(tactic| walk_at "q") => `(tactic| repeat' (with_reducible first | exact pe_strQ | exact pe_intQ | exact pa_nilQ | (refine' pe_tup ?_; rotate_left 1) | (refine' pe_lst ?_; rotate_left 1) | (refine' pa_consQ ?_ ?_ se_conQ; rotate_left 2) | (refine' pa_consQ ?_ ?_ se_tup; rotate_left 2) | (refine' pa_consQ ?_ ?_ se_nameQ; rotate_left 2) | (refine' pa_consQ ?_ ?_ se_sub; rotate_left 2) | (refine' pa_consQ ?_ ?_ se_bin; rotate_left 2) | (refine' pa_consQ ?_ ?_ se_lst; rotate_left 2) | (refine' pa_consQ ?_ ?_ se_callQ; rotate_left 2) | (refine' pa_consQ ?_ ?_ se_lc; rotate_left 2)))
local macro_rules | `(tactic|room) => `(tactic| (intro vs H Q E h; repeat (first | (obtain ⟨e, _⟩ := h; subst e; rfl) | (obtain ⟨_, h⟩ := h))))
local macro_rules | `(tactic|x_go) => `(tactic| ((try dsimp only [cxOf, Cx.nox, Cx.wish]); (conv in (L2.start _ _) => simp only [L2.start, Qu, List.map_nil, Q2, List.length_nil, List.replicate_succ, List.replicate_zero, List.cons_append, List.nil_append, Nat.reduceAdd, Nat.reduceSub]); have big : 100000 < sizeLine := by decide))
local macro_rules | `(tactic|kt_k) => `(tactic| (with_reducible first | refine s_seq ?_ | refine s_if ?_ | refine s_next ?_ | refine i_or ?_ | refine s_nameQ ?_ | refine s_ret ?_))
local macro_rules|`(tactic|lk)=>`(tactic|repeat walk_at "vc")
local macro_rules|`(tactic|fin2)=>`(tactic|exact⟨rfl,rfl,rfl,by decide +kernel,rfl,by decide +kernel,by decide +kernel⟩)
def sg (b:Bool):V:=if b then .str "1" else .str "0"
variable {i n c cx cy j:Nat} {z:Str}
theorem nO (st:StOk n z) (hi:i<n):dM z i=sg (z.cps.getD i 0==49):=by
 have hl:=st.len;have e:z.cps.getD i 0=z.cps[i]'(by omega):=by simp[Array.getD,hl,hi]
 have:z.cps.getD i 0=48\/z.cps.getD i 0=49:=by
  rw[e];exact st.signs _ (by simp)
 unfold dM;rcases this with e|e
 ·rw[e];decide +kernel
 rw[e];decide +kernel
def c7 (z:Str) (i:Nat):Str:=if (z.cps.getD i 0==49)=true then "0" else "1"
def nr (z:Str) (i:Nat):Str:=(Txt.slice z none (some (i:Int))++c7 z i)++Txt.slice z (some ((i:Int)+1)) none
variable {P:Program} {w:World} {K:PySem.W.Frag} {mg:D3} {base:Heap} {TT:Addr}
section
theorem oU {n:Nat} {z:Str} (st:StOk n z) {i:Nat} (hi:i<n):atI z.cps.toList ((i:Nat):Int)=some (z.cps.getD i 0):=by
 have hl:=st.len;refine bQ ?_;simp[Array.getD,hl,hi]
end
theorem ip {xs:Array Nat}:∀(j a:Nat),a+j<=xs.size->((List.range j).map λk=>a+k).filterMap (xs[·]?)=(xs.toList.drop a).take j
 | 0,a,_=>by simp
 | j+1,a,h=>by
  rw[List.range_succ,QO,List.filterMap_append,ip j a (by omega),XZ];have e:(xs.toList.drop a)[j]?=xs[a+j]?:=by rw[List.getElem?_drop];simp
  rw[e];have q:xs[a+j]?=some (xs[a+j]'(by omega)):=by rw[QI]
  simp[q]
theorem gI {a b:Nat} {lo hi:Option Int} (hl:PySem.Builtin.Str.strSliceIndices lo hi 1 z.length=(List.range (b-a)).map λk=>a+k) (hb:b<=z.cps.size) (hab:a<=b):(Txt.slice z lo hi).cps.toList=(z.cps.toList.drop a).take (b-a):=by
 unfold Txt.slice;rw[hl]
 split
 ·rename_i h
  have h:b-a=z.length:=by simpa using h
  have h':z.length=z.cps.size:=rfl;have a0:a=0:=by omega
  subst a0;rw[List.drop_zero,Q1 (by rw[Qg];omega)]
 exact ip (b-a) a (by omega)
theorem gH {z:Str} {j:Nat} (h:j<=z.cps.size):(Txt.slice z none (some (j:Int))).cps.toList=z.cps.toList.take j:=by
 have h':z.length=z.cps.size:=rfl;refine(gI (a:=0) (b:=j) ?_ h (Q0 _)).trans (by simp);unfold PySem.Builtin.Str.strSliceIndices sliceRange
 have e:max 0 (min (if (j:Int)<0 then (j:Int)+z.length else (j:Int)) (z.length:Int))=(j:Int):=by
  rw[Qn (Int.not_lt.mpr (Int.natCast_nonneg _)),Int.min_eq_left (show _<=(z.length:Int) from Int.ofNat_le.mpr h),Int.max_eq_right (Int.natCast_nonneg _)]
 simp only[show (1:Int)>0 from by decide,if_true,e]
 have c:(if (0:Int)<(j:Int) then ((j:Int)-0+1-1) / 1 else 0).toNat=j-0:=by
  rw[Int.ediv_one,Int.add_sub_cancel,Int.sub_zero,Nat.sub_zero]
  split
  ·rfl
  omega
 rw[c];refine List.map_congr_left λk _=>?_;omega
theorem eF {z:Str} {a:Nat} (h:a<=z.cps.size):(Txt.slice z (some (a:Int)) none).cps.toList=z.cps.toList.drop a:=by
 have h':z.length=z.cps.size:=rfl;refine(gI (a:=a) (b:=z.cps.size) ?_ (Qi _) h).trans (by rw[Q1 (by rw[Q3,Qg];omega)]);unfold PySem.Builtin.Str.strSliceIndices sliceRange
 have e:max 0 (min (if (a:Int)<0 then (a:Int)+z.length else (a:Int)) (z.length:Int))=(a:Int):=by
  rw[Qn (Int.not_lt.mpr (Int.natCast_nonneg _)),Int.min_eq_left (show _<=(z.length:Int) from Int.ofNat_le.mpr h),Int.max_eq_right (Int.natCast_nonneg _)]
 simp only[show (1:Int)>0 from by decide,if_true,e]
 have c:(if (a:Int)<(z.length:Int) then ((z.length:Int)-(a:Int)+1-1) / 1 else 0).toNat=z.cps.size-a:=by
  rw[Int.ediv_one,Int.add_sub_cancel,h']
  split
  ·rw[<-Int.ofNat_sub h];rfl
  omega
 rw[c];refine List.map_congr_left λk _=>?_;omega
theorem tR (st:StOk n z) (hi:i<n):StOk n (nr z i):=by
 have hl:=st.len;have a:=gH (z:=z) (j:=i) (by omega);have b:=eF (z:=z) (a:=i+1) (by omega);rw[show ((i+1:Nat):Int)=(i:Int)+1 from by omega]at b
 have f:(c7 z i).cps.toList=[48]\/(c7 z i).cps.toList=[49]:=by
  unfold c7
  split
  ·exact .inl (by decide +kernel)
  exact .inr (by decide +kernel)
 have e:(nr z i).cps.toList=(z.cps.toList.take i++(c7 z i).cps.toList)++z.cps.toList.drop (i+1):=by
  unfold nr;show ((_++_)++_:Array Nat).toList=_;rw[QK,QK,a,b]
 refine⟨?_,λc hc=>?_⟩
 ·rw[<-Qg,e,Qh,Qh,QA,Q3,Qg];have:(c7 z i).cps.toList.length=1:=by rcases f with f|f <;> rw[f] <;> rfl
  omega
 rw[e]at hc;rcases Qj.mp hc with h|h
 ·rcases Qj.mp h with h|h
  ·exact st.signs c (List.mem_of_mem_take h)
  rcases f with f|f
  ·rw[f]at h;exact .inl (by simpa using h)
  rw[f]at h;exact .inr (by simpa using h)
 exact st.signs c (List.mem_of_mem_drop h)
variable {b l a li lo lf nm M mi L q d:Addr} {H H' H2 H0 H1:Hp}
theorem cY (S:av H H') (h:H' b=none):H b=none:=by
 cases e:H b with
 | none=>rfl
 | some o=>rw[S b o e]at h;cases h
variable {xs vs vm ys us as':List V}
theorem bX {D:Addr} {o:HO} (h:H D=some (.lst xs)):bI H (upd H D o):=λb ys e=>by
 rw[am (λz=>by rw[z,h]at e;cases e)];exact e
section
variable {α β:Type} {K:PySem.W.Frag} {J:It} {H1:Hp} {D:Addr} {σ0:St} {g:TG} {te:TE} {tt:L2.TT} {QD:Hp->Prop}
theorem cm (xs:List α) (c:α->Bool) (R:Hp->V->α->Prop) (hD:H1 D=none) (few:xs.length<=100000) (mono:∀H H' v x,bI H H'->R H v x->R H' v x)
  (go:∀i H,av H1 H->i<xs.length->J.go i H) (stop:∀H,av H1 H->J.stop xs.length H)
  (hs:∀i x H v H',xs[i]?=some x->av H1 H->J.yld i H v H'->∀(G:V->Hp->Prop) (N:Hp->Prop),(c x=true->∀u H2,av H H2->R H2 u x->G u H2)->(c x=false->∀H2,av H H2->N H2)->g v σ0 H' λσ2 H2=>wk σ0 σ2/\tt σ2 H2 λb H3=>if b=true then te σ2 H3 G else N H3)
  (hd:∀H ys,av H1 H->H D=some (.lst ys)->Paired (R H) ys (xs.filter c)->QD H) :
  ∃W:Nat->Nat->Hp->List V->Prop,(∃m,W 0 m (upd H1 D (.lst [])) [])/\∀i m H ys,W i m H ys->H D=some (.lst ys)/\((J.stop i H/\QD H)\/(J.go i H/\∀x H',J.yld i H x H'->g x σ0 H' λσ2 H2=>wk σ0 σ2/\tt σ2 H2 λb H3 =>
   if b=true then te σ2 H3 λv H4=>H4 D=some (.lst ys)/\ys.length<sizeLine/\∃m',m'<m/\W (i+1) m' (upd H4 D (.lst (ys++[v]))) (ys++[v]) else ∃m',m'<m/\W (i+1) m' H3 ys)):=by
 refine⟨λi m H ys=>m=xs.length-i/\i<=xs.length/\av H1 H/\H D=some (.lst ys)/\Paired (R H) ys ((xs.take i).filter c),⟨_,rfl,Q0 _,aN hD,ah,by rw[List.take_zero];exact .nil⟩,?_⟩;rintro i m H ys ⟨rfl,hi,S,hy,p⟩;refine⟨hy,?_⟩;by_cases hl:i<xs.length
 ·refine .inr ⟨go i H S hl,λv H' y=>?_⟩;have ex:xs[i]?=some xs[i]:=Qd hl;have hm:xs.length-(i+1)<xs.length-i:=by omega
  refine hs i xs[i] H v H' ex S y _ _ (λct u H2 S2 r=>?_) (λcf H2 S2=>?_)
  ·have yl:ys.length<=xs.length:=by
    rw[a_ p];refine QR (List.length_filter_le _ _) ?_;rw[QA];omega
   have hy2:=S2 _ _ hy;have kt:=bX (o:=.lst (ys++[u])) hy2;refine⟨hy2,Xx yl (Xx few (by decide)),_,hm,rfl,hl,bO (S.trans S2) hD,ah,?_⟩;rw[XZ,ex,List.filter_append];have e:(some xs[i]).toList.filter c=[xs[i]]:=by simp[ct]
   rw[e];exact bV (au (λv x r=>mono _ _ v x kt (mono _ _ v x (av.tups S2) r)) p) (mono _ _ u _ kt r)
  refine⟨_,hm,rfl,hl,S.trans S2,S2 _ _ hy,?_⟩;rw[XZ,ex,List.filter_append];have e:(some xs[i]).toList.filter c=[]:=by simp[cf]
  rw[e,X0];exact au (λv x r=>mono _ _ v x (av.tups S2) r) p
 obtain rfl:i=xs.length:=by omega
 rw[Q1 (Qi _)]at p;exact .inl ⟨stop H S,hd H ys S hy p⟩
variable {vs:List V} {a b:Addr}
theorem fq {xs:List α} {I:V->α->Prop} (c:α->Bool) (R:Hp->V->α->Prop) (hD:H1 D=none) (e:H1 a=some (.lst vs)) (pa:Paired I vs xs) (few:xs.length<=100000) (mono:∀H H' v x,bI H H'->R H v x->R H' v x)
  (hs:∀v x H,I v x->x∈xs->av H1 H->∀(G:V->Hp->Prop) (N:Hp->Prop),(c x=true->∀u H2,av H H2->R H2 u x->G u H2)->(c x=false->∀H2,av H H2->N H2)->g v σ0 H λσ2 H2=>wk σ0 σ2/\tt σ2 H2 λb H3=>if b=true then te σ2 H3 G else N H3)
  (hd:∀H ys,av H1 H->H D=some (.lst ys)->Paired (R H) ys (xs.filter c)->QD H) :
  ∃W:Nat->Nat->Hp->List V->Prop,(∃m,W 0 m (upd H1 D (.lst [])) [])/\∀i m H ys,W i m H ys->H D=some (.lst ys)/\(((Itl K a).stop i H/\QD H)\/((Itl K a).go i H/\∀x H',(Itl K a).yld i H x H'->g x σ0 H' λσ2 H2=>wk σ0 σ2/\tt σ2 H2 λb H3 =>
   if b=true then te σ2 H3 λv H4=>H4 D=some (.lst ys)/\ys.length<sizeLine/\∃m',m'<m/\W (i+1) m' (upd H4 D (.lst (ys++[v]))) (ys++[v]) else ∃m',m'<m/\W (i+1) m' H3 ys)):=by
 have l:=a_ pa;refine cm xs c R hD few mono (λi H S hi=>⟨vs,vs[i],SqL.of (S _ _ e),Qd _⟩) (λH S=>⟨vs,SqL.of (S _ _ e),by omega⟩) (λi x H v H' ex S y=>?_) hd;obtain⟨e',y⟩:=y;subst e';obtain⟨v',ev,r⟩:=bW pa ex;cases ev.symm.trans (y vs (SqL.of (S _ _ e)));exact hs v x _ r (QC ex) S
def Sqv (t:Bool) (H:Hp) (a:Addr) (vs:List V):Prop:=if t=true then H a=some (.tup vs) else H a=some (.lst vs)
theorem Sqv.of {t:Bool} {H:Hp} (h:Sqv t H a vs):SqS t K H a vs:=by
 cases t with
 | true=>exact SqT.of h
 | false=>exact SqL.of h
theorem Sqv.same {t:Bool} {H H':Hp} (S:av H H') (h:Sqv t H a vs):Sqv t H' a vs:=by
 cases t with
 | true=>exact S _ _ h
 | false=>exact S _ _ h
theorem xG {t1 t2:Bool} {ws:List V} {xs:List α} {us:List β} {I1:V->α->Prop} {I2:V->β->Prop} (c:α × β->Bool) (R:Hp->V->α × β->Prop) (hD:H1 D=none) (e1:Sqv t1 H1 a vs) (e2:Sqv t2 H1 b ws) (p1:Paired I1 vs xs) (p2:Paired I2 ws us) (hl:xs.length=us.length) (few:xs.length<=100000) (mono:∀H H' v x,bI H H'->R H v x->R H' v x)
  (hs:∀v x w u T H,I1 v x->I2 w u->(x,u)∈xs.zip us->av H1 H->H T=some (.tup [v,w])->∀(G:V->Hp->Prop) (N:Hp->Prop),(c (x,u)=true->∀y H2,av H H2->R H2 y (x,u)->G y H2)->(c (x,u)=false->∀H2,av H H2->N H2)->g (.ref T) σ0 H λσ2 H2=>wk σ0 σ2/\tt σ2 H2 λb H3=>if b=true then te σ2 H3 G else N H3)
  (hd:∀H ys,av H1 H->H D=some (.lst ys)->Paired (R H) ys ((xs.zip us).filter c)->QD H) :
  ∃W:Nat->Nat->Hp->List V->Prop,(∃m,W 0 m (upd H1 D (.lst [])) [])/\∀i m H ys,W i m H ys->H D=some (.lst ys)/\(((tH t1 t2 K a b).stop i H/\QD H)\/((tH t1 t2 K a b).go i H/\∀x H',(tH t1 t2 K a b).yld i H x H'->g x σ0 H' λσ2 H2=>wk σ0 σ2/\tt σ2 H2 λb H3 =>
   if b=true then te σ2 H3 λv H4=>H4 D=some (.lst ys)/\ys.length<sizeLine/\∃m',m'<m/\W (i+1) m' (upd H4 D (.lst (ys++[v]))) (ys++[v]) else ∃m',m'<m/\W (i+1) m' H3 ys)):=by
 have l1:=a_ p1;have l2:=a_ p2;have lz:(xs.zip us).length=xs.length:=by rw[List.length_zip];omega
 refine cm (xs.zip us) c R hD (by omega) mono (λi H S hi=>⟨⟨vs,vs[i],(e1.same S).of,Qd _⟩,ws,ws[i],(e2.same S).of,Qd _⟩) (λH S=>⟨vs,(e1.same S).of,by omega⟩) (λi x H v H' ex S y=>?_) hd;obtain⟨T,v',w',hT,ex',eH,y1,y2⟩:=y;subst ex' eH;obtain⟨x,u⟩:=x;obtain⟨g1,g2⟩:=XV.mp ex;obtain⟨v1,ev1,r1⟩:=bW p1 g1;obtain⟨w1,ew1,r2⟩:=bW p2 g2;cases ev1.symm.trans (y1 vs (e1.same S).of);cases ew1.symm.trans (y2 ws (e2.same S).of);intro G N hG hN;have ST:=aN (o:=.tup [v',w']) hT;exact hs v' x w' u T _ r1 r2 (QC ex) (S.trans ST) ah G N (λct y H2 S2 r=>hG ct y H2 (ST.trans S2) r) (λcf H2 S2=>hN cf H2 (ST.trans S2))
end
abbrev Tu:=Str × Str
structure Arc where
 one:Tu
 two:Tu
 mark:Int
structure Rg where
 ins:List Str
 outs:List Str
 z:Str
 arcs:List Arc
def Rg.ws (r:Rg):List Str:=r.ins++r.outs
def fV (ws:List Str) (t:Tu):Prop:=t.1∈ws/\(t.2 = "+" \/ t.2 = "-")
structure ArOk (ws:List Str) (a:Arc):Prop where
 o:fV ws a.one
 t:fV ws a.two
 ne:a.one≠a.two
 m:a.mark=0\/a.mark=1
structure RgOk (r:Rg):Prop where
 nd:r.ws.Nodup
 w1:1<=r.ws.length
 w5:r.ws.length<=5
 st:StOk r.ws.length r.z
 few:r.arcs.length<=1000
 arcs:∀a∈r.arcs,ArOk r.ws a
def TuA (H:Hp) (v:V) (t:Tu):Prop:=∃b,v=.ref b/\H b=some (.tup [.str t.1,.str t.2])
def ArA (H:Hp) (v:V) (a:Arc):Prop:=∃b v1 v2,v=.ref b/\H b=some (.tup [v1,v2,.int a.mark])/\TuA H v1 a.one/\TuA H v2 a.two
variable {v v1 v2 u:V}
theorem TuA.kt {t:Tu} (k:bI H H') (h:TuA H v t):TuA H' v t:=let ⟨b,e,q⟩:=h;⟨b,e,k _ _ q⟩
theorem ArA.kt {a:Arc} (k:bI H H') (h:ArA H v a):ArA H' v a:=let ⟨b,v1,v2,e,q,h1,h2⟩:=h;⟨b,v1,v2,e,k _ _ q,h1.kt k,h2.kt k⟩
structure ArsA (H:Hp) (l:Addr) (vs:List V) (as:List Arc):Prop where
 h:H l=some (.lst vs)
 p:Paired (ArA H) vs as
variable {as ss:List Arc}
theorem ArsA.same {H':Hp} (S:av H H') (h:ArsA H l vs as):ArsA H' l vs as:=⟨S _ _ h.h,au (λ_ _ q=>q.kt (av.tups S)) h.p⟩
structure RgA (H:Hp) (a li lo l:Addr) (vs:List V) (r:Rg):Prop where
 ha:H a=some (.tup [.ref li,.ref lo,.str r.z,.ref l])
 hi:H li=some (.lst (r.ins.map V.str))
 ho:H lo=some (.lst (r.outs.map V.str))
 arcs:ArsA H l vs r.arcs
variable {r r1 r2:Rg}
theorem RgA.same {H':Hp} (S:av H H') (h:RgA H a li lo l vs r):RgA H' a li lo l vs r:=⟨S _ _ h.ha,S _ _ h.hi,S _ _ h.ho,h.arcs.same S⟩
def tk2 (t:Tu):ay:=[.inl (.inr t.1),.inl (.inr t.2)]
theorem TuA.tk {t:Tu} (h:TuA H (.ref b) t):cv H (tk2 t) b:=by
 obtain⟨_,e,q⟩:=h;cases e;exact⟨_,q,.cons rfl (.cons rfl .nil)⟩
def leT (x y:Tu):Prop:=leF (tk2 x) (tk2 y)
structure WtOk (P:Tu->Prop) (ts:List Tu):Prop where
 nd:ts.Nodup
 mem:∀x,x∈ts↔P x
 so:ts.Pairwise leT
theorem ig {ws:List Str} {x:Str} (h:x∈ws):ws[ws.idxOf x]?=some x:=by
 have hi:=X7 h;rw[Qd hi];exact congrArg some (List.getElem_idxOf hi)
theorem fR {ws:List Str} {x:Str}:∀m,m<ws.idxOf x->ws[m]?≠some x:=λm hm e=>by
 have h1:=List.not_of_lt_findIdx (xs:=ws) (p:=(·==x)) (i:=m) hm;obtain⟨h2,e2⟩:=Qf.mp e;rw[e2]at h1;simp at h1
variable {α β:Type}
theorem cR (xs:List α):xs.filter (λ_=>true)=xs:=List.filter_eq_self.mpr (by simp)
theorem gT {α β γ:Type} {F:α->γ->Prop} {f:β->γ}:∀{xs:List α} {ys:List β},Paired (λx y=>F x (f y)) xs ys->Paired F xs (ys.map f)
 | _,_,.nil=>.nil
 | _,_,.cons h t=>.cons h (gT t)
theorem cQ {α β:Type} {f:β->α}:∀{xs:List α} {ys:List β},Paired (λx y=>x=f y) xs ys->xs=ys.map f
 | _,_,.nil=>rfl
 | _,_,.cons h t=>by rw[h,cQ t];rfl
section
end
structure Low (z:Str):Prop where
 l1:1<=z.length
 l8:z.length<=8
 low:∀c∈z.cps.toList,97<=c/\c<=122
variable {Q:VK} {O σ0:St}
theorem xw {K:PySem.W.Frag} {ta:TA} (q:ta O H λvs H1=>∃(l:Addr) (ts:List Str),vs=[.ref l]/\SqL K H1 l (ts.map V.str)/\ts.length<1000/\Q (.int (o_ ts)) H1):nE K ta O H Q:=q
section
end
open Classical in
abbrev Pr:=Tu × Tu
def PrA (H:Hp) (v:V) (p:Pr):Prop:=∃b v1 v2,v=.ref b/\H b=some (.tup [v1,v2])/\TuA H v1 p.1/\TuA H v2 p.2
variable {p:Pr}
theorem PrA.kt (k:bI H H') (h:PrA H v p):PrA H' v p:=let ⟨b,v1,v2,e,q,h1,h2⟩:=h;⟨b,v1,v2,e,k _ _ q,h1.kt k,h2.kt k⟩
def ku (t:Tu):List Key:=[.inr t.1,.inr t.2]
def tkR (p:Pr):ay:=[.inr (ku p.1),.inr (ku p.2)]
theorem su {x y:Tu} (h:ku x=ku y):x=y:=by
 unfold ku at h;simp only[List.cons.injEq,Sum.inr.injEq]at h;exact Prod.ext h.1 h.2.1
theorem dX {x y:Pr} (h:tkR x=tkR y):x=y:=by
 unfold tkR at h;simp only[List.cons.injEq,Sum.inr.injEq]at h;exact Prod.ext (su h.1) (su h.2.1)
theorem PrA.tk (h:PrA H (.ref b) p):cv H (tkR p) b:=by
 obtain⟨_,v1,v2,e,q,⟨c,e1,h1⟩,d,e2,h2⟩:=h;cases e;subst e1 e2;exact⟨_,q,.cons ⟨c,rfl,h1⟩ (.cons ⟨d,rfl,h2⟩ .nil)⟩
theorem PrA.of (h:cv H (tkR p) b):PrA H (.ref b) p:=by
 obtain⟨vs,q,pr⟩:=h
 cases pr with
 | cons r1 pr=>cases pr with
  | cons r2 pr =>
   cases pr;obtain⟨c,e1,h1⟩:=r1;obtain⟨d,e2,h2⟩:=r2;subst e1 e2;exact⟨b,_,_,rfl,q,⟨c,rfl,h1⟩,d,rfl,h2⟩
structure PrOk (ws:List Str) (p:Pr):Prop where
 o:fV ws p.1
 t:fV ws p.2
 ne:p.1≠p.2
structure MkD (H:Hp) (a:Addr) (ws:List Str) (kvs:List (ay × V)) (n:Nat):Prop where
 h:H a=some (.dT kvs)
 l:kvs.length<=n
 ok:∀kv∈kvs,∃p:Pr,kv.1=tkR p/\PrOk ws p/\∃m:Int,kv.2=.int m/\(m=0\/m=1)
 nd:(kvs.map (·.1)).Nodup
variable {kvs:List (ay × V)}
theorem r_ {k:ay} {kv:ay × V} (h:kv∈bn kvs k v):kv∈kvs\/kv=(k,v):=by
 unfold bn at h
 split at h
 ·obtain⟨x,hx,e⟩:=Qr.mp h;by_cases c:x.1=k
  ·rw[Qp c]at e;exact .inr (by rw[<-e,c])
  rw[Qn c]at e;exact .inl (e▸hx)
 rcases Qj.mp h with h|h
 ·exact .inl h
 exact .inr (QF.mp h)
theorem d9 (kvs:List (ay × V)) (k:ay) (v:V):(k∈kvs.map (·.1)/\(bn kvs k v).map (·.1)=kvs.map (·.1))\/(k∉kvs.map (·.1)/\(bn kvs k v).map (·.1)=kvs.map (·.1)++[k]):=by
 cases e:aW kvs k with
 | none=>exact .inr ⟨eW e,by rw[kM v e,QO];rfl⟩
 | some u =>
 refine .inl ⟨eX e,?_⟩;unfold bn;rw[b9,e];rw[Qp (show (some u).isSome=true from rfl),XA];refine List.map_congr_left λx _=>?_;show (if x.1=k then (x.1,v) else x).1=x.1
 split <;> rfl
variable {m:Int}
theorem MkD.put {ws:List Str} {n:Nat} {p:Pr} (d:MkD H a ws kvs n) (ok:PrOk ws p) (hm:m=0\/m=1) (e:H' a=some (.dT (bn kvs (tkR p) (.int m)))):MkD H' a ws (bn kvs (tkR p) (.int m)) (n+1):=by
 refine⟨e,QR (br _ _ _) (Nat.succ_le_succ d.l),λkv h=>?_,?_⟩
 ·rcases r_ h with h|rfl
  ·exact d.ok kv h
  exact⟨p,rfl,ok,m,rfl,hm⟩
 rcases d9 kvs (tkR p) (.int m) with⟨_,e⟩|⟨c,e⟩
 ·rw[e];exact d.nd
 rw[e];exact jF d.nd c
theorem MkD.set {ws:List Str} (d:MkD H a ws kvs n) (hp:tkR p∈kvs.map (·.1)) (ok:PrOk ws p) (hm:m=0\/m=1) (e:H' a=some (.dT (bn kvs (tkR p) (.int m)))):MkD H' a ws (bn kvs (tkR p) (.int m)) n:=by
 have q:=d.put ok hm e;refine⟨q.h,?_,q.ok,q.nd⟩;rcases d9 kvs (tkR p) (.int m) with⟨_,e⟩|⟨c,_⟩
 ·have:=congrArg List.length e;rw[Qb,Qb]at this;rw[this];exact d.l
 exact absurd hp c
theorem MkD.same {H':Hp} {ws:List Str} (d:MkD H a ws kvs n) (e:∀o,H a=some o->H' a=some o):MkD H' a ws kvs n:=⟨e _ d.h,d.l,d.ok,d.nd⟩
theorem MkD.val {ws:List Str} {p:Pr} (d:MkD H a ws kvs n) (h:tkR p∈kvs.map (·.1)):PrOk ws p/\∃m:Int,aW kvs (tkR p)=some (.int m)/\(m=0\/m=1):=by
 cases e:aW kvs (tkR p) with
 | none=>exact absurd h (eW e)
 | some v =>
 unfold aW at e;obtain⟨kv,hf,rfl⟩:=Xy.mp e;have h1:=List.find?_some hf;obtain⟨p',e1,ok,m,e2,hm⟩:=d.ok kv (List.mem_of_find?_eq_some hf);have h1:kv.1=tkR p:=XX h1;cases dX (e1.symm.trans h1);exact⟨ok,m,by rw[e2],hm⟩
theorem cI:∀(ns:List Str),Paired (λv n=>v=V.str n) (ns.map V.str) ns
 | []=>.nil
 | _::ns=>.cons rfl (cI ns)
theorem eM {D:Addr} {o:HO} (h:H D=some (.dT kvs)):bI H (upd H D o):=λb ys e=>by
 rw[am (λz=>by rw[z,h]at e;cases e)];exact e
theorem bit (b:Bool):(if b=true then (1:Int) else 0)=0\/(if b=true then (1:Int) else 0)=1:=by cases b <;> simp
def BP (r:Rg):Prop:=∀t,fV r.ws t->∃a∈r.arcs,a.two=t
theorem xh {bs:D4} {ks:List ay} (h:KsA H bs ks) (hk:∀k∈ks,∃p,k=tkR p):∃ps:List Pr,ks=ps.map tkR/\Paired (PrA H) (bs.map V.ref) ps:=by
 induction h with
 | nil=>exact⟨[],rfl,.nil⟩
 | @cons b k _ _ r _ ih =>
 obtain⟨ts,e,p⟩:=ih λk hk'=>hk k (Qo _ hk');obtain⟨t,rfl⟩:=hk k (by simp);exact⟨t::ts,by rw[e];rfl,.cons (PrA.of r) p⟩
theorem MkD.keys {ws:List Str} (d:MkD H a ws kvs n):∀k∈kvs.map (·.1),∃p,k=tkR p:=λk hk=>by
 obtain⟨kv,h,rfl⟩:=Qr.mp hk;obtain⟨p,e,_⟩:=d.ok kv h;exact⟨p,e⟩
theorem MkD.shp {ws:List Str} (d:MkD H a ws kvs n):xQ false (kvs.map (·.1)):=by
 refine⟨λx hx y hy=>?_,λx hx=>?_⟩
 ·obtain⟨p,rfl⟩:=d.keys x hx;obtain⟨q,rfl⟩:=d.keys y hy;rfl
 obtain⟨p,rfl⟩:=d.keys x hx;exact⟨_,_,rfl⟩
theorem MkD.sort {K:PySem.W.Frag} {ws:List Str} (d:MkD H a ws kvs n) (hn:n<=190) (q:∀p vs (ps:List Pr),H p=none->Paired (PrA H) vs ps->(ps.map tkR).Perm (kvs.map (·.1))->(ps.map tkR).Pairwise leF->Q (.ref p) (upd H p (.lst vs))):mt K [.ref a] H Q:=by
 refine⟨a,_,false,rfl,.inr ⟨kvs,.inl d.h,rfl⟩,d.shp,by rw[Qb];have:=d.l;omega,λp bs ks hp ka pm so=>?_⟩;obtain⟨ps,rfl,pp⟩:=xh ka λk hk=>d.keys k (pm.mem_iff.mp hk);exact q p _ ps hp pp pm so
def fO (kvs:List (ay × V)) (p:Pr):Int:=match aW kvs (tkR p) with
 | some (.int m)=>m
 | _=>0
def wT (z:Str):Str:=if z = "+" then "-" else "+"
theorem wS {ws:List Str} {t:Tu} (h:fV ws t):fV ws (t.1,wT t.2)/\((t.1,wT t.2):Tu)≠t:=by
 unfold wT;rcases h.2 with e|e
 ·rw[Qp e];exact⟨⟨h.1,.inr rfl⟩,λz=>by have z:("-" : Str)=t.2:=congrArg Prod.snd z;rw[e]at z;exact absurd z (by decide +kernel)⟩
 rw[Qn (by rw[e];decide +kernel)];exact⟨⟨h.1,.inl rfl⟩,λz=>by have z:("+" : Str)=t.2:=congrArg Prod.snd z;rw[e]at z;exact absurd z (by decide +kernel)⟩
theorem e9 {ws:List Str} (d:MkD H a ws kvs n) (h:tkR p∈kvs.map (·.1)):PrOk ws p/\aW kvs (tkR p)=some (.int (fO kvs p))/\(fO kvs p=0\/fO kvs p=1):=by
 obtain⟨ok,m,e,hm⟩:=d.val h;have:fO kvs p=m:=by unfold fO;rw[e]
 rw[this];exact⟨ok,e,hm⟩
def ft (kvs:List (ay × V)) (p:Pr):Arc:=⟨p.1,p.2,fO kvs p⟩
def bD (ws:List Str):List Tu:=(ws.map λn=>((n, "+"):Tu))++(ws.map λn=>((n, "-"):Tu))
theorem bE {ws:List Str} {t:Tu}:t∈bD ws↔fV ws t:=by
 unfold bD fV;rw[Qj,Qr,Qr]
 constructor
 ·rintro(⟨n,h,rfl⟩|⟨n,h,rfl⟩)
  ·exact⟨h,.inl rfl⟩
  exact⟨h,.inr rfl⟩
 rintro⟨h,e|e⟩
 ·exact .inl ⟨t.1,h,Prod.ext rfl e.symm⟩
 exact .inr ⟨t.1,h,Prod.ext rfl e.symm⟩
theorem bZ (ns:List Str):(ns.map V.str).all dQ=true:=by
 rw[XS];intro x hx;obtain⟨n,_,rfl⟩:=Qr.mp hx;rfl
theorem bH {nm:Str}:∀{ns:List Str},inV (.str nm) (ns.map V.str)=true↔nm∈ns
 | []=>by simp[inV]
 | n::ns=>by
  have ih:=bH (nm:=nm) (ns:=ns);unfold inV at ih ⊢;rw[Qu,List.any_cons,Bool.or_eq_true,ih,Qw];have:eqV (.str n) (.str nm)=(n==nm):=rfl;rw[this,beq_iff_eq];exact⟨λh=>h.imp Eq.symm id,λh=>h.imp Eq.symm id⟩
structure RgX (r:Rg):Prop where
 low:∀n∈r.ws,Low n
 o1:1<=r.outs.length
 few:r.arcs.length<=190
 nd:(r.arcs.map λa=>((a.one,a.two):Tu × Tu)).Nodup
def prA (a:Arc):Tu × Tu:=(a.one,a.two)
theorem kR {f:α->β} (inj:∀{x y},f x=f y->x=y) {xs ys:List α} (h:(xs.map f).Perm (ys.map f)):xs.Perm ys:=by
 obtain⟨zs,pz,ez⟩:∃zs:List α,zs.Perm ys/\zs.map f=xs.map f:=perm_lift h
 have:zs=xs:=by
  have go:∀(as bs:List α),as.map f=bs.map f->as=bs:=λas=>by
   induction as with
   | nil=>intro bs e;cases bs with
    | nil=>rfl
    | cons b bs=>cases e
   | cons a as ih=>intro bs e;cases bs with
    | nil=>cases e
    | cons b bs =>
     rw[Qu,Qu]at e;injection e with e1 e2;rw[inj e1,ih bs e2]
  exact go _ _ ez
 rw[<-this];exact pz
where
 perm_lift {α β:Type} {f:α->β} {us:List β} {ys:List α} (h:us.Perm (ys.map f)):∃zs:List α,zs.Perm ys/\zs.map f=us:=by
  generalize e:ys.map f=vs at h
  induction h generalizing ys with
  | nil=>cases ys with
   | nil=>exact⟨[],.refl _,rfl⟩
   | cons y ys=>cases e
  | cons x _ ih=>cases ys with
   | nil=>cases e
   | cons y ys =>
    rw[Qu]at e;injection e with e1 e2;obtain⟨zs,p,q⟩:=ih e2;exact⟨y::zs,p.cons y,by rw[Qu,q,e1]⟩
  | swap x y l=>cases ys with
   | nil=>cases e
   | cons a ys=>cases ys with
    | nil=>cases e
    | cons b ys =>
     rw[Qu,Qu]at e;injection e with e1 e2;injection e2 with e2 e3;exact⟨b::a::ys,List.Perm.swap ..,by rw[Qu,Qu,e1,e2,e3]⟩
  | trans _ _ ih1 ih2 =>
  obtain⟨zs,p,q⟩:=ih2 e;obtain⟨ws,p',q'⟩:=ih1 q;exact⟨ws,p'.trans p,q'⟩
def tkA (a:Arc):ay:=[.inr (ku a.one),.inr (ku a.two),.inl (.inl a.mark)]
variable {x y:Arc}
theorem qM (h:Tm.flat (tkA x)=Tm.flat (tkA y)):x=y:=by
 have h:([Sum.inr x.one.1,Sum.inr x.one.2,Sum.inr x.two.1,Sum.inr x.two.2,Sum.inl x.mark]:List Key)=[Sum.inr y.one.1,Sum.inr y.one.2,Sum.inr y.two.1,Sum.inr y.two.2,Sum.inl y.mark]:=h;simp only[List.cons.injEq,Sum.inr.injEq,Sum.inl.injEq,and_true]at h;obtain⟨h1,h2,h3,h4,h5⟩:=h;cases x;cases y;simp only[Arc.mk.injEq];exact⟨Prod.ext h1 h2,Prod.ext h3 h4,h5⟩
theorem ArA.tk {a:Arc} (h:ArA H (.ref b) a):cv H (tkA a) b:=by
 obtain⟨_,v1,v2,e,q,⟨c,e1,h1⟩,d,e2,h2⟩:=h;cases e;subst e1 e2;exact⟨_,q,.cons ⟨c,rfl,h1⟩ (.cons ⟨d,rfl,h2⟩ (.cons rfl .nil))⟩
theorem ArA.of {a:Arc} (h:cv H (tkA a) b):ArA H (.ref b) a:=by
 obtain⟨vs,q,pr⟩:=h
 cases pr with
 | cons r1 pr=>cases pr with
  | cons r2 pr=>cases pr with
   | cons r3 pr =>
    cases pr;obtain⟨c,e1,h1⟩:=r1;obtain⟨d,e2,h2⟩:=r2;cases r3;subst e1 e2;exact⟨b,_,_,rfl,q,⟨c,rfl,h1⟩,d,rfl,h2⟩
theorem xL (h:Paired (ArA H) vs as):∃bs:D4,vs=bs.map V.ref/\KsA H bs (as.map tkA):=by
 induction h with
 | nil=>exact⟨[],rfl,.nil⟩
 | @cons v t _ _ r _ ih =>
 obtain⟨bs,e,p⟩:=ih;obtain⟨b,_,_,e1,_⟩:=id r;subst e1;exact⟨b::bs,by rw[e];rfl,.cons r.tk p⟩
theorem xi {bs:D4} {ks:List ay} (h:KsA H bs ks) (hk:∀k∈ks,∃t,k=tkA t):∃as:List Arc,ks=as.map tkA/\Paired (ArA H) (bs.map V.ref) as:=by
 induction h with
 | nil=>exact⟨[],rfl,.nil⟩
 | @cons b k _ _ r _ ih =>
 obtain⟨ts,e,p⟩:=ih λk hk'=>hk k (Qo _ hk');obtain⟨t,rfl⟩:=hk k (by simp);exact⟨t::ts,by rw[e];rfl,.cons (ArA.of r) p⟩
theorem tX (as:List Arc):xQ false (as.map tkA):=by
 refine⟨λx hx y hy=>?_,λx hx=>?_⟩
 ·obtain⟨t,_,rfl⟩:=Qr.mp hx;obtain⟨u,_,rfl⟩:=Qr.mp hy;rfl
 obtain⟨t,_,rfl⟩:=Qr.mp hx;exact⟨_,_,rfl⟩
theorem gG {K:PySem.W.Frag} (hl:H l=some (.lst vs)) (pa:Paired (ArA H) vs as) (few:as.length<=190) (q:∀p vs' (as':List Arc),H p=none->Paired (ArA H) vs' as'->as'.Perm as->(as'.map tkA).Pairwise leF->Q (.ref p) (upd H p (.lst vs'))):mt K [.ref l] H Q:=by
 obtain⟨bs,rfl,ka⟩:=xL pa;refine⟨l,_,false,rfl,.inl ⟨bs,SqL.of hl,ka⟩,tX as,by rw[Qb];omega,λp bs' ks' hp ka' pm so=>?_⟩;obtain⟨as',rfl,pa'⟩:=xi ka' λk hk=>by obtain⟨t,_,e⟩:=Qr.mp (pm.mem_iff.mp hk);exact⟨t,e.symm⟩
 exact q p _ as' hp pa' (kR (λ{x y} e=>qM (by rw[e])) pm) so
theorem vj {K:PySem.W.Frag} {tl:TE} {R:It->Hp->Prop} (q:tl O H λx H1=>∃a,x=.ref a/\(∃xs,SqT K H1 a xs)/\R (Itt K a) H1):Bw K tl O H R:=q
theorem fA {ws:List Str} (h:ws.Nodup):(bD ws).Nodup:=by
 unfold bD;rw[Xj];refine⟨Xs.mpr (h.imp λn e=>n (Prod.mk.inj e).1),Xs.mpr (h.imp λn e=>n (Prod.mk.inj e).1),λa ha b hb e=>?_⟩;obtain⟨x,_,rfl⟩:=Qr.mp ha;obtain⟨y,_,rfl⟩:=Qr.mp hb;exact absurd (Prod.mk.inj e).2 (by decide +kernel)
section
end
def kA (K:PySem.W.Frag):Sp:=λvs H Q _=>∃(s:Addr) (ns:List Int) (k:Nat),vs=[.ref s,.int (k:Int)]/\SqL K H s (ns.map V.int)/\k<=100/\∀(c:Int),Q (.int c) H
def gD:Sp:=λvs H Q _=>∃(c:Int) (m:Nat),vs=[.int c,.int (m:Nat)]/\m<=1000/\∀l (xs:List Int) H',av H H'->H l=none->H' l=some (.lst (xs.map V.int))->Q (.ref l) H'
theorem Bu {K:PySem.W.Frag} {T:String} {r:V->List V->Hp->VK->Prop} {to:TE} (q:to O H λx H1=>tyV K T x H1/\r x [] H1 Q):yb K T r to O H Q:=q
local macro_rules|`(tactic|ctx_has $a $b $c $d $e $f $g)=>`(tactic|(generalize hE:upd $a $b _=$c;obtain⟨$d,$e⟩:=$f $g hE;clear hE))
section
theorem gK:FnScope ["script", "k"] ["script", "k"] (aA (top 40)):=by fin2
variable {fd:FuncData} {f:Addr}
theorem pR (Fu:Fun K "_law_cell_at" "_law_cell_at" (top 40) f fd) (T:Txt K mg TT):FnOk P w K mg base CX0 1 f fd ["script", "k"] (kA K):=by
 have S:=gK;refine Fu.ok S (by room) (λcdv A outer s H vs Q E hr h=>?_);obtain⟨s,ns,k,rfl,hS,k100,q⟩:=h
 refine⟨_,(pss_cons (ps_if (aE rK (pv 1) (aQ aV (by rfl) T.n_len Xe (aa (pv 0) ad)) (aY _)) (pss_one (bj (az bh (pv 0) (pv 1)))) pss_nil)
  (pss_one (bj ae))),?_⟩
 x_go;lk;refine⟨_,_,rfl,Or.inl hS,?_⟩;lk;rw[Qb];by_cases c:k<ns.length
 ·refine ifT (QG (by omega)) ?_;lk;refine i_ixL (v:=.int ns[k]) hS (bQ (by rw[Qy,Qd c];rfl)) ?_;exact q _
 refine ifF (QE (by omega)) ?_;lk;exact q _
theorem gJ:FnScope ["cell", "many", "found", "rest", "stir", "k", "again"] ["cell", "many"] (aA (top 41)):=by fin2
theorem uz (Fu:Fun K "_law_numbers" "_law_numbers" (top 41) f fd) (T:Txt K mg TT):FnOk P w K mg base CX0 1 f fd ["cell", "many"] gD:=by
 have S:=gJ;refine Fu.ok S (by room) (λcdv A outer s H vs Q E hr h=>?_);obtain⟨c,m,rfl,m1,q⟩:=h;have big:1000000<sizeLine:=by decide
 refine'⟨?_,?bb,?_⟩
 case bb =>
  walk_at "b";exact aZ 2 S.nd (pe_lst ad);exact aZ 3 S.nd (pv 0);exact aZ 4 S.nd (aP eK (pv 0) ae);walk_at "f";exact(bU (by rfl) T.n_range (aa (pv 1) ad));exact(bu 5 S.nd);walk_at "p";exact(PW.pt (cN (aE yp (pv 0) (aP wU ae ae) (aY _)) (cc (aE og (pv 3) ae (aY _)))));exact(cE (cP QV XD XG bL (pv 2) (aa (aP eK (pv 3) ae) ad)));exact aZ 3 S.nd (aP oh (pv 3) ae);exact aZ 4 S.nd (aP eK (aP fM (aP dB (aP dB (pv 4) (aP fM ae (pv 5))) ae) ae) ae);exact aZ 6 S.nd (aP eK (aP fM (aP eK (aP fM (pv 4) (pv 4)) ae) ae) ae);exact(cE (cP QV XD XG bL (pv 2) (aa (aP eK (aP oh (pv 6) ae) ae) ad)));exact(bj (pv 2))
 x_go;lk;refine⟨by show 0<=_;omega,λp hp=>?_⟩;ctx_has H p H1 S1 q1 aq hp;lk;refine⟨by omega,by omega,?_⟩;rw[Q9];have s0:0<=c % 2147483647:=Int.emod_nonneg _ (by decide);have s1:c % 2147483647<2147483647:=Int.emod_lt_of_pos _ (by decide);generalize c % 2147483647=st at s0 s1;let I1:IvF:=λi O H'=>∃(rs st:Int) (xs:List Int),∃x5 x6,O=[some (.int c),some (.int (m:Nat)),some (.ref p),some (.int rs),some (.int st),x5,x6]/\0<=st/\st<2147483647/\av H H'/\H' p=some (.lst (xs.map V.int))/\xs.length=i;refine bY (n:=m) I1 ⟨c,st,[],_,_,rfl,s0,s1,S1,q1,rfl⟩ (λi O H' hi pv=>?_) (λO H' pv=>?_)
 ·obtain⟨rs,st,xs,x5,x6,rfl,s0,s1,S2,q2,hl⟩:=pv;refine aC ?_
  have els:lY (lZ (tOp (rI (λx j=>0<j) λi j=>V.int (i % j)) (tOp (rI nc λi j=>V.int (i*j)) (tOp (rI0 λi j=>V.int (i+j)) (tOp (rI0 λi j=>V.int (i+j)) (cT 4) (tOp (rI nc λi j=>V.int (i*j)) (tC (V.int 7)) (cT 5))) (tC (V.int 3))) (tC (V.int 48271))) (tC (V.int 2147483647))) (dH 4))
   (lY (lZ (tOp (rI (fun x j=>0<j) fun i j=>V.int (i % j)) (tOp (rI nc fun i j=>V.int (i*j)) (tOp (rI (fun x j=>0<j) fun i j=>V.int (i % j)) (tOp (rI nc fun i j=>V.int (i*j)) (cT 4) (cT 4)) (tC (V.int 2147483629))) (tC (V.int 69621))) (tC (V.int 2147483587))) (dH 6))
    (qN (tBM K "list" jA (cT 2) (dG (tOp (rI (λx j=>0<j) λi j=>V.int (i % j)) (tOp (rI BR λi j=>V.int (i / j)) (cT 6) (tC (V.int 8))) (tC (V.int 720720))) pq))))
   { nx:=λO H'=>∃(rs st:Int) (xs:List Int),∃x5 x6,O=[some (.int c),some (.int (m:Nat)),some (.ref p),some (.int rs),some (.int st),x5,x6]/\0<=st/\st<2147483647/\av H H'/\H' p=some (.lst (xs.map V.int))/\xs.length=i+1,rt:=Q,ct:=λO H'=>∃(rs st:Int) (xs:List Int),∃x5 x6,O=[some (.int c),some (.int (m:Nat)),some (.ref p),some (.int rs),some (.int st),x5,x6]/\0<=st/\st<2147483647/\av H H'/\H' p=some (.lst (xs.map V.int))/\xs.length=i+1,bk:=wo (cT 2) { nx:=λ_ H'=>Q .non H',rt:=Q } }
   [some (.int c),some (.int (m:Nat)),some (.ref p),some (.int rs),some (.int st),some (.int (0+(i:Nat))),x6] H':=by
   lk;generalize he:(st+7*(0+(i:Int))+3)*48271 % 2147483647=s2;have t0:0<=s2:=by rw[<-he];exact Int.emod_nonneg _ (by decide)
   have t1:s2<2147483647:=by rw[<-he];exact Int.emod_lt_of_pos _ (by decide)
   try (refine i_rI (Or.inl ⟨by omega,by omega⟩) ?_)
   lk;refine ik q2 (by rw[Qb];omega) ?_;refine⟨_,_,xs++[_],_,_,rfl,t0,t1,bO S2 hp,by rw[ah,QO];rfl,by simp[hl]⟩
  lk;refine qb (λ_=>?_) (λ_=>?_)
  ·lk;refine qb (λ_=>?_) (λ_=>?_)
   ·lk;refine ik q2 (by rw[Qb];omega) ?_;lk;refine⟨_,_,xs++[_],_,_,rfl,s0,s1,bO S2 hp,by rw[ah,QO];rfl,by simp[hl]⟩
   first|exact els|exact iteF els
  first|exact els|exact iteF els
 obtain⟨rs,st,xs,x5,x6,rfl,s0,s1,S2,q2,hl⟩:=pv;lk;exact q p xs H' S2 hp q2
theorem kI:FnScope ["cell", "many"] ["cell", "many"] (aA (top 42)):=by fin2
theorem uC (Fu:Fun K "_law_deck" "_law_deck" (top 42) f fd) (T:Txt K mg TT) (f_law_numbers:Fn P w K mg base "_law_numbers" ["cell", "many"] 1 gD):FnOk P w K mg base CX0 2 f fd ["cell", "many"] gD:=by
 have S:=kI;refine Fu.ok S (by room) (λcdv A outer s H vs Q E hr h=>?_);obtain⟨c,m,rfl,m1,q⟩:=h;refine⟨_,(pss_one (bj (rq (bi f_law_numbers hr (aa (pv 0) (aa (pv 1) ad))) (kT gA ae) (λ_ _ _ q=>⟨1,rfl,q⟩)))),?_⟩;x_go;refine s_ret ?_;show iM gD [] E0 _ _ _ _;lk;refine⟨c,m,rfl,m1,λl xs H1 S1 hl h1=>⟨l,_,rfl,SqL.of h1,λp hp=>?_⟩⟩;refine q p xs.reverse _ (S1.trans (aN hp)) (av.free S1 hp) ?_;rw[ah,List.map_reverse]
theorem kD:FnScope ["deck", "many"] ["deck", "many"] (aA (top 43)):=by fin2
theorem uv (Fu:Fun K "_law_take" "_law_take" (top 43) f fd) (T:Txt K mg TT):FnOk P w K mg base CX0 1 f fd ["deck", "many"] eE:=by
 have S:=kD;refine Fu.ok S (by room) (λcdv A outer s H vs Q E hr h=>?_);obtain⟨D,m,rfl,DA,h1,h2,k⟩:=h;obtain⟨xs,hd⟩:=id DA
 refine⟨_,(pss_cons (ps_if (aE (wW hr.units) (pv 0) (pe_lst ad) (aY _)) (pss_one (bj ae)) pss_nil)
  (pss_one (bj (aP eK (wO QV PySem.F.slot_list_pop PySem.F.type_list_pop xf (pv 0)) (pv 1))))),?_⟩
 x_go;lk;refine⟨by decide,λp hp=>?_⟩;ctx_has H p H1 S1 q1 aq hp;have hd1:=S1 _ _ hd;have k1:Kp D H H1:=Kp.of DA S1;refine⟨D.d,p,_,_,λ_=>true,rfl,rfl,SqL.of hd1,SqL.of q1,λj x y e1 e2=>by simp at e2,?_⟩;refine⟨_,rfl,?_⟩
 cases xs with
 | nil =>
  refine ifT rfl ?_;lk;exact k 0 H1 (by omega) (by omega) k1
 | cons x r =>
 refine ifF (by simp) ?_;lk;refine Bu (ba rfl ⟨i_tyL hd1,?_⟩)
 obtain⟨y,hy⟩:∃y,((x::r).map V.int)[((x::r).map V.int).length-1]?=some (V.int y):=by
  have hl:(x::r).length-1<(x::r).length:=by simp
  exact⟨(x::r)[(x::r).length-1],by rw[Qb,Qy,Qd hl];rfl⟩
 refine⟨D.d,_,_,rfl,rfl,hd1,hy,?_⟩;lk;refine i_rI (show (0:Int)<m by omega) ?_;refine k _ _ (Int.emod_nonneg _ (by omega)) (Int.emod_lt_of_pos _ (by omega)) ⟨λb o e nb=>by rw[am nb];exact k1.old b o e nb,⟨(x::r).dropLast,by rw[ah,List.map_dropLast]⟩⟩
end
def mk (l:List Nat):Str:=⟨l.toArray⟩
theorem xg {l:List Nat} (h:z.cps.toList=l):z=mk l:=by subst h;show z=⟨z.cps.toList.toArray⟩;simp
theorem tE (a b:Str):(a++b).cps.toList=a.cps.toList++b.cps.toList:=by
 show (a.cps++b.cps).toList=_;simp
theorem uL (h:Low z):z.cps.toList.length<=8/\1<=z.cps.toList.length:=by
 have e:z.cps.toList.length=z.length:=Qg ..;rw[e];exact⟨h.l8,h.l1⟩
theorem uK (h:Low z) (hc:c<97\/122<c):c∉z.cps.toList:=λq=>by
 have:=h.low c q;omega
theorem uM (a b:Str):(a++b).length=a.length+b.length:=by
 show (a.cps++b.cps).size=_;rw[Xr];rfl
def tuT (t:Tu):List Nat:=t.1.cps.toList++t.2.cps.toList
structure TuL (t:Tu):Prop where
 n:Low t.1
 w:t.2 = "+" \/ t.2 = "-"
structure ArL (a:Arc):Prop where
 o:TuL a.one
 t:TuL a.two
 m:a.mark=0\/a.mark=1
theorem TuL.len {t:Tu} (h:TuL t):(tuT t).length<=9/\1<=(tuT t).length:=by
 have l:=uL h.n;unfold tuT;rw[Qh];have e1:("+" : Str).cps.toList.length=1:=by decide +kernel
 have e2:("-" : Str).cps.toList.length=1:=by decide +kernel
 rcases h.w with e|e
 ·rw[e,e1];omega
 rw[e,e2];omega
theorem TuL.sg {t:Tu} (h:TuL t):∃c,(c=43\/c=45)/\t.2=K2.mk [c]/\t.2.cps.toList=[c]:=by
 rcases h.w with e|e
 ·exact⟨43,.inl rfl,by rw[e];decide +kernel,by rw[e];decide +kernel⟩
 exact⟨45,.inr rfl,by rw[e];decide +kernel,by rw[e];decide +kernel⟩
theorem TuL.out {t:Tu} (h:TuL t) (hc:c<97\/122<c) (h1:c≠43) (h2:c≠45):c∉tuT t:=λz=>by
 obtain⟨d,hd,_,e⟩:=h.sg;unfold tuT at z;rcases Qj.mp z with z|z
 ·exact uK h.n hc z
 rw[e]at z;have:=QF.mp z;rcases hd with hd|hd <;> omega
section
end
abbrev cA:List Str:=["c", "de", "fgh", "reqc", "zzzzzzzy"]
def ky:Sp:=λvs H Q _=>∃(D:Dk) (m:Nat),vs=[.ref D.d,.int (m:Nat)]/\D.At H/\m<=11/\∀l (ns:List Str) H',ns.length=m->H l=none->H' l=some (.lst (ns.map V.str))->ns.Nodup->(∀n∈ns,Low n)->Kp D H H'->(∀n∈ns,n∉cA)->Q (.ref l) H'
theorem dv {α:Type}:∀(xs:List α) (k:Nat) (h:k<xs.length),(xs[k]::xs.eraseIdx k).Perm xs
 | x::xs,0,_=>List.Perm.refl _
 | x::xs,k+1,h=>by
  have ih:=dv xs k (by simpa using h);rw[List.eraseIdx_cons_succ];exact(List.Perm.swap x _ _).trans (ih.cons x)
variable {ns ls ls' ms:List Str}
theorem sJ {nm:Str} (h:inV (.str nm) (ns.map V.str)=false):nm∉ns:=λm=>by
 rw[bH.mpr m]at h;cases h
theorem uF {K:PySem.W.Frag} {p:Addr} (h:H p=some (.lst (ns.map V.str))) (q:∀b:Bool,(b=true->z∉ns)->Q (.bl b) H):rIn K true (.str z) (.ref p) H Q:=by
 refine⟨p,_,rfl,.inl (SqL.of h),rfl,bZ ns,q _ λe=>?_⟩;exact sJ (by simpa using e)
structure NmS (D:Dk) (H H':Hp) (lf nm:Addr) (ns ls:List Str):Prop where
 kp:Kp D H H'
 l:H' lf=some (.lst (ls.map V.str))
 n:H' nm=some (.lst (ns.map V.str))
 nd:(ns++ls).Nodup
 low:∀z∈ns++ls,Low z/\z∉cA
variable {D:Dk}
theorem NmS.draw (h:NmS D H H' lf nm ns ls) (k:Kp D H' H2) (n1:¬D.own lf) (n2:¬D.own nm):NmS D H H2 lf nm ns ls:=⟨h.kp.trans k,k.old _ _ h.l n1,k.old _ _ h.n n2,h.nd,h.low⟩
theorem NmS.new {p:Addr} {o:HO} (h:NmS D H H' lf nm ns ls) (hp:H' p=none):NmS D H (upd H' p o) lf nm ns ls :=
 ⟨h.kp.new hp,by rw[am (aB h.l hp)];exact h.l,by rw[am (aB h.n hp)];exact h.n,h.nd,h.low⟩
structure WdOk (z:Str) (j:Nat):Prop where
 len:z.length=j
 low:∀c∈z.cps.toList,97<=c/\c<=122
theorem si:∀z∈(["req", "reqa", "reqb", "a", "ab", "b", "zzzzzzzz", "not", "and", "or", "wire", "out"]:List Str),Low z/\z∉cA:=by
 have h:∀z∈(["req", "reqa", "reqb", "a", "ab", "b", "zzzzzzzz", "not", "and", "or", "wire", "out"]:List Str),(1<=z.length/\z.length<=8/\∀c∈z.cps.toList,97<=c/\c<=122)/\z∉cA:=by decide +kernel
 exact λz hz=>⟨⟨(h z hz).1.1,(h z hz).1.2.1,(h z hz).1.2.2⟩,(h z hz).2⟩
section
theorem eY:FnScope ["deck", "many", "left", "names", "k", "word", "turn"] ["deck", "many"] (aA (top 44)):=by fin2
theorem pP {f:Addr} {fd:FuncData} (Fu:Fun K "_law_wire_names" "_law_wire_names" (top 44) f fd) (T:Txt K mg TT) (f_law_take:Fn P w K mg base "_law_take" ["deck", "many"] 1 eE):FnOk P w K mg base CX0 2 f fd ["deck", "many"] ky:=by
 have S:=eY;refine Fu.ok S (by room) (λcdv A outer s H vs Q E hr h=>?_);obtain⟨D,m,rfl,DA,m11,k⟩:=h;have big:1000000<sizeLine:=by decide
 refine'⟨?_,?bb,?_⟩
 case bb =>
  walk_at "b";refine' mB (i:=2) ?n ?r ?l ?e ?s ?f
  case n=>exact S.nd
  case r=>rfl
  case l=>z_go
  case s=>rfl
  case f=>z_go
  case e =>
   with_reducible refine' pe_lst ?a3
   case a3 =>
    with_reducible refine' aa ?e4 ?s4 aD
    case e4 =>
     exact aG
    case s4 =>
     with_reducible refine' aa ?e6 ?s6 aD
     case e6 =>
      exact aG
     case s6 =>
      with_reducible refine' aa ?e8 ?s8 aD
      case e8 =>
       exact aG
      case s8 =>
       with_reducible refine' aa ?e10 ?s10 aD
       case e10 =>
        exact aG
       case s10 =>
        with_reducible refine' aa ?e12 ?s12 aD
        case e12 =>
         exact aG
        case s12 =>
         with_reducible refine' aa ?e14 ?s14 aD
         case e14 =>
          exact aG
         case s14 =>
          with_reducible refine' aa ?e16 ?s16 aD
          case e16 =>
           exact aG
          case s16 =>
           with_reducible refine' aa ?e18 ?s18 aD
           case e18 =>
            exact aG
           case s18 =>
            with_reducible refine' aa ?e20 ?s20 aD
            case e20 =>
             exact aG
            case s20 =>
             with_reducible refine' aa ?e22 ?s22 aD
             case e22 =>
              exact aG
             case s22 =>
              with_reducible refine' aa ?e24 ?s24 aD
              case e24 =>
               exact aG
              case s24 =>
               with_reducible refine' aa ?e26 ?s26 aD
               case e26 =>
                exact aG
               case s26 =>
                exact ad
  exact aZ 3 S.nd (pe_lst ad);walk_at "f";exact(bU (by rfl) T.n_range (aa (pv 1) ad ak));exact(bu 4 S.nd);walk_at "p";exact(cE (cP QV XD XG bL (pv 3) (aa (cP QV PySem.F.slot_list_pop PySem.F.type_list_pop lh (pv 2) (aa (bi f_law_take hr (aa (pv 0) (aa (aQ aV (by rfl) T.n_len Xe (aa (pv 2) ad ak)) ad be) ak)) ad be)) ad be)));exact aZ 5 S.nd aG;walk_at "f";exact(bU (by rfl) T.n_range (aa (aP fM (bi f_law_take hr (aa (pv 0) (aa ae ad aD) ak)) (bw dq (by rfl) T.n_int XJ (aa (dy cW (bi f_law_take hr (aa (pv 0) (aa ae ad aD) ak)) ae (aY _)) ad))) ad));exact(bu 6 S.nd);walk_at "p";exact aZ 5 S.nd (aP cB (pv 5) (az eO aG (bi f_law_take hr (aa (pv 0) (aa ae ad aD) ak))));exact(aE dA (pv 5) (aP bJ (aP bJ (pv 3) (pv 2)) (pe_lst (aa aG (aa aG (aa aG (aa aG (aa aG (aa aG ad aD) aD) aD) aD) aD) aD))) rfl);exact(jC (pv 5) (wM (pv 3) (kT gA ae) qY));exact(bj (pv 3))
 x_go;lk;refine⟨by show 12<=_;omega,λlf hlf=>?_⟩;ctx_has H lf H1 S1 q1 aq hlf;have q1':H1 lf=some (.lst ((["req", "reqa", "reqb", "a", "ab", "b", "zzzzzzzz", "not", "and", "or", "wire", "out"]:List Str).map V.str)):=q1;clear q1;lk;refine⟨by show 0<=_;omega,λnm hnm=>?_⟩;ctx_has H1 nm H2 S2 q2 aq hnm;have n1:¬D.own lf:=aw DA hlf;have Hnm:H nm=none:=av.free S1 hnm;have n2:¬D.own nm:=aw DA Hnm;have nln:lf≠nm:=aB q1' hnm;have N0:NmS D H H2 lf nm [] ["req", "reqa", "reqb", "a", "ab", "b", "zzzzzzzz", "not", "and", "or", "wire", "out"]:=⟨Kp.of DA (S1.trans S2),S2 _ _ q1',q2,by decide +kernel,si⟩;clear q1' q2;lk;refine⟨by omega,by omega,?_⟩;rw[Q9];let I2:IvF:=λi O H'=>∃(ns ls:List Str),∃x4 x5 x6,O=[some (.ref D.d),some (.int (m:Nat)),some (.ref lf),some (.ref nm),x4,x5,x6]/\NmS D H H' lf nm ns ls/\ns.length=i/\ls.length+i=12;refine bY (n:=m) I2 ⟨[],_,_,_,_,rfl,N0,rfl,rfl⟩ (λi O H' hi pv=>?_) (λO H' pv=>?_)
 ·obtain⟨ns,ls,x4,x5,x6,rfl,N,hn,hl⟩:=pv;have hN:=N.n;have hL:=N.l;refine aC ?_;lk;refine⟨D,_,rfl,N.kp.dk,by rw[Qb];omega,by rw[Qb];omega,λr H3 r0 r1 k3=>?_⟩;rw[Qb]at r1;have N3:=N.draw k3 n1 n2;have hjl:r.toNat<ls.length:=by omega
  have ez:ls[r.toNat]?=some ls[r.toNat]:=Qd hjl;refine bC ?_;refine⟨lf,ls.map V.str,r,r.toNat,.str ls[r.toNat],rfl,rfl,N3.l,by omega,by omega,?_,by rw[Qy,ez];rfl,?_⟩
  ·have:ixN (ls.map V.str).length r=some r.toNat:=by unfold ixN;rw[Qp r0,Qb,Qp r1]
   exact(gt this).1
  rw[d_];generalize hE:upd H3 lf _=H4;have l4:H4 lf=some (.lst ((ls.eraseIdx r.toNat).map V.str)):=by rw[<-hE,ah]
  have n4:H4 nm=some (.lst (ns.map V.str)):=by rw[<-hE,am nln.symm];exact N3.n
  have k4:Kp D H H4:=by rw[<-hE];exact Kp.fresh DA hlf N3.kp
  clear hE;refine bC ?_;refine ik n4 (by rw[Qb];omega) ?_;generalize hE:upd H4 nm _=H5
  have pm:(ns++[ls[r.toNat]]++ls.eraseIdx r.toNat).Perm (ns++ls):=by
   rw[Xa];exact List.Perm.append_left ns (dv ls r.toNat hjl)
  have N5:NmS D H H5 lf nm (ns++[ls[r.toNat]]) (ls.eraseIdx r.toNat):=⟨by rw[<-hE];exact Kp.fresh DA Hnm k4,by rw[<-hE,am nln];exact l4,by rw[<-hE,ah,QO];rfl,pm.nodup_iff.mpr N.nd,λz hz=>N.low z (pm.mem_iff.mp hz)⟩;clear hE;have le:(ls.eraseIdx r.toNat).length+(i+1)=12:=by rw[List.length_eraseIdx,Qp hjl];omega
  generalize ls.eraseIdx r.toNat=ls5 at N5 le;generalize ls[r.toNat]=y at N5;lk;refine⟨D,9,rfl,N5.kp.dk,by omega,by omega,λr9 H6 a0 a1 k6=>?_⟩;have N6:=N5.draw k6 n1 n2;lk;refine⟨D,3,rfl,N6.kp.dk,by omega,by omega,λr3 H7 b0 b1 k7=>?_⟩;have N7:=N6.draw k7 n1 n2;lk
  obtain⟨cnt,hc,c8⟩:∃cnt:Nat,r9*(if decide (V.int r3=V.int 1) then 1 else 0)=(cnt:Int)/\cnt<=8:=by
   cases decide (V.int r3=V.int 1) with
   | true=>exact⟨r9.toNat,by rw[Qp rfl];omega,by omega⟩
   | false=>exact⟨0,by simp,by omega⟩
  refine⟨by rw[hc];omega,by rw[hc];omega,?_⟩;rw[hc,Q9];let I3:IvF:=λj O H'=>∃(z:Str),∃x6,O=[some (.ref D.d),some (.int (m:Nat)),some (.ref lf),some (.ref nm),some (.int (0+(i:Nat))),some (.str z),x6]/\NmS D H H' lf nm (ns++[y]) ls5/\WdOk z j;refine bY (n:=cnt) I3 ⟨_,_,rfl,N7,⟨rfl,λc hc=>by cases hc⟩⟩ (λj O H8 hj pv=>?_) (λO H8 pv=>?_)
  ·obtain⟨z,x6,rfl,N8,wd⟩:=pv;refine aC ?_;lk;refine⟨D,26,rfl,N8.kp.dk,by omega,by omega,λr26 H9 e0 e1 k9=>?_⟩;have N9:=N8.draw k9 n1 n2
   obtain⟨c,hc,hc2⟩:∃c:Nat,atI (Str.ofString "abcdefghijklmnopqrstuvwxyz").cps.toList r26=some c/\97<=c/\c<=122:=by
    have hl:(Str.ofString "abcdefghijklmnopqrstuvwxyz").cps.toList.length=26:=by decide +kernel
    have hr:r26.toNat<(Str.ofString "abcdefghijklmnopqrstuvwxyz").cps.toList.length:=by omega
    have all:∀c∈(Str.ofString "abcdefghijklmnopqrstuvwxyz").cps.toList,97<=c/\c<=122:=by decide +kernel
    refine⟨(Str.ofString "abcdefghijklmnopqrstuvwxyz").cps.toList[r26.toNat],?_,all _ (XT hr)⟩;have e:r26=((r26.toNat:Nat):Int):=by omega
    have q:=bQ (Qd hr);rw[<-e]at q;exact q
   refine ij (by decide +kernel) hc ?_;refine⟨_,_,rfl,rfl,by have:=wd.len;show z.length+1<=_;omega,?_⟩;lk;refine⟨_,_,rfl,N9,⟨by rw[uM,wd.len];rfl,λu hu=>?_⟩⟩;rw[tE]at hu;rcases Qj.mp hu with hu|hu
   ·exact wd.low u hu
   have:u=c:=QF.mp hu;rw[this];exact hc2
  obtain⟨z,x6,rfl,N8,wd⟩:=pv;have h8n:=N8.n;have h8l:=N8.l;have nsl:(ns++[y]).length=i+1:=by simp[hn]
  lk;refine cJ h8n h8l (by rw[Qb,Qb];omega) λp1 hp1=>?_;rw[<-QO];have N9:=N8.new (o:=.lst ((ns++[y]++ls5).map V.str)) hp1;have h9:upd H8 p1 (.lst ((ns++[y]++ls5).map V.str)) p1=some (.lst ((ns++[y]++ls5).map V.str)):=ah;generalize upd H8 p1 (.lst ((ns++[y]++ls5).map V.str))=H9 at N9 h9 ⊢;lk;refine⟨by show 6<=_;omega,λp2 hp2=>?_⟩;generalize hE:upd H9 p2 _=H10;have N10:NmS D H H10 lf nm (ns++[y]) ls5:=by rw[<-hE];exact N9.new hp2
  obtain⟨S10,q10⟩:=aq hp2 hE;clear hE;have q10':H10 p2=some (.lst ((["", "c", "de", "fgh", "reqc", "zzzzzzzy"]:List Str).map V.str)):=q10;refine cJ (S10 _ _ h9) q10' (by rw[Qb,Qb,Qh];show _+6<=_;omega) λp3 hp3=>?_;rw[<-QO];generalize hE:upd H10 p3 _=H11;have N11:NmS D H H11 lf nm (ns++[y]) ls5:=by rw[<-hE];exact N10.new hp3
  obtain⟨S11,q11⟩:=aq hp3 hE;clear hE;refine uF q11 λb hb=>?_;refine⟨b,rfl,?_⟩
  cases b with
  | false =>
   refine iteF ?_;refine s_next ?_;exact⟨ns++[y],ls5,_,_,_,rfl,N11,nsl,le⟩
  | true =>
  refine iteT ?_;have nz:=hb rfl;lk
  have ei:ixN ((ns++[y]).map V.str).length (-1)=some ns.length:=by
   unfold ixN;rw[Qb,nsl,Qn (by decide),Qp (by omega)];congr 1;omega
  refine s_setL N11.n ei ?_;have es:((ns++[y]).map V.str).set ns.length (V.str z)=(ns++[z]).map V.str:=by simp
  rw[es];have z0:z ≠ "" := λh=>nz (by rw[h];simp);have z1:z∉ns++[y]++ls5:=λh=>nz (QH _ h)
  have zl:Low z:=⟨by
   have l:=wd.len;by_cases c:cnt=0
   ·exfalso
    apply z0
    have e0:z.cps.toList=[]:=List.length_eq_zero_iff.mp (by have:z.cps.toList.length=z.length:=Qg ..;omega);exact(xg e0).trans (by decide +kernel)
   omega,by have:=wd.len;omega,wd.low⟩
  refine⟨ns++[z],ls5,_,_,_,rfl,⟨Kp.fresh DA Hnm N11.kp,by rw[am nln];exact N11.l,ah,?_,λu hu=>?_⟩,by simp[hn],le⟩
  ·have nd:=N8.nd;rw[Xa]at nd z1 ⊢;rw[Xj]at nd ⊢;obtain⟨d1,d2,d3⟩:=nd;have d2':(y::ls5).Nodup:=d2;refine⟨d1,(Q4.mpr ⟨λh=>z1 (QJ _ (Qo _ h)),(Q4.mp d2').2⟩:(z::ls5).Nodup),λa ha b hb=>?_⟩;have hb':b∈z::ls5:=hb;rcases Qw.mp hb' with e|h
   ·subst e;exact λe=>z1 (QH _ (e▸ha))
   exact d3 a ha b (Qo _ h)
  rcases Qj.mp hu with h|h
  ·rcases Qj.mp h with h|h
   ·exact N8.low u (QH _ (QH _ h))
   rw[QF.mp h];exact⟨zl,λh=>nz (QJ _ (Qo _ h))⟩
  exact N8.low u (QJ _ h)
 obtain⟨ns,ls,x4,x5,x6,rfl,N,hn,hl⟩:=pv;lk;exact k nm ns H' hn Hnm N.n (Xj.mp N.nd).1 (λn h=>(N.low n (QH _ h)).1) N.kp λn h=>(N.low n (QH _ h)).2
end
section
open PySem.Spec PyProof.Rows
end
section
end
def oT:List Str->List Nat
 | []=>[]
 | n::r=>JJ [32] n.cps.toList (r.map (·.cps.toList))
theorem jJ {m:Nat}:∀(ms:List Str),(∀n∈ms,n.length<=m)->(ms.map (·.length)).sum<=m*ms.length
 | [],_=>by simp
 | z::s,h=>by
  have h1:=h z (by simp);have h2:=jJ s λn hn=>h n (Qo _ hn);rw[Qu,List.sum_cons,Q2,Nat.mul_add];omega
section
end
def xR (H:Hp) (f:Addr) (ns:List Str) (s:Str->Bool):Prop:=∃kvs:List (Key × V),H f=some (.dK kvs)/\kvs.length<=20/\∀n:Str,aW kvs (Sum.inr n:Key)=if n∈ns then some (sg (s n)) else none
def w1 (b:Bool):Str:=if b=true then "-" else "+"
def w2 (b:Bool):Str:=if b=true then "+" else "-"
theorem w12 (b:Bool):w1 b≠w2 b:=by cases b <;> decide +kernel
structure OI (ws ls ns:List Str) (s:Str->Bool) (ts:List Tu):Prop where
 sub:∀n∈ls,n∈ws
 nsub:∀n∈ns,n∈ws
 two:∀n∈ws,n∉ns->ls.count n=2
 one:∀n∈ns,(n,w1 (s n))∈ts/\((ls.count n=1/\(n,w2 (s n))∉ts)\/(ls.count n=0/\(n,w2 (s n))∈ts))
 nd:ts.Nodup
 tin:∀t∈ts,t.1∈ns/\(t.2=w1 (s t.1)\/t.2=w2 (s t.1))
def kg (s:Str->Bool) (n:Str) (b:Bool) (x:Str):Bool:=if x=n then b else s x
theorem gZ {xs:List α} {x:α} (h:xs.Nodup) (n:x∉xs):(xs++[x]).Nodup:=Xj.mpr ⟨h,by simp,λa ha b hb e=>n (by rw[<-QF.mp hb,<-e];exact ha)⟩
theorem s_ {n:Str}:∀{ws:List Str},ws.Nodup->n∈ws->ws.count n=1
 | x::ws,nd,h=>by
  rw[Q4]at nd;by_cases c:x=n
  ·subst c;rw[List.count_cons_self,List.count_eq_zero.mpr nd.1]
  rw[List.count_cons_of_ne c];exact s_ nd.2 ((Qw.mp h).resolve_left λz=>c z.symm)
theorem OI.start {ws:List Str} (nd:ws.Nodup):OI ws (ws++ws) [] (λ_=>false) []:=by
 refine⟨λn h=>(Qj.mp h).elim id id,(λn h=>nomatch h),λn h _=>?_,λn h=>(nomatch h),List.nodup_nil,λt h=>(nomatch h)⟩;rw[List.count_append,s_ nd h]
variable {ts:List Tu} {s f:Str->Bool}
theorem OI.first {ws:List Str} {n:Str} {b:Bool} (o:OI ws ls ns s ts) (pm:(n::ls').Perm ls) (hn:n∉ns):OI ws ls' (ns++[n]) (kg s n b) (ts++[(n,w1 b)]):=by
 have cnt:∀x,ls.count x=ls'.count x+if n=x then 1 else 0:=λx=>by
  rw[<-pm.count_eq,List.count_cons];simp
 have nw:n∈ws:=o.sub n (pm.mem_iff.mp (by simp));have ex:∀x,x∈ns->kg s n b x=s x:=λx hx=>Qn λz=>hn (by rw[<-z];exact hx);have en:kg s n b n=b:=Qp rfl;have nt:∀y,(n,y)∉ts:=λy h=>hn (o.tin _ h).1;refine⟨λx h=>o.sub x (pm.mem_iff.mp (Qo _ h)),λx h=>?_,λx h hx=>?_,λx h=>?_,gZ o.nd (nt _),λt h=>?_⟩
 ·rcases Qj.mp h with h|h
  ·exact o.nsub x h
  rw[QF.mp h];exact nw
 ·rw[Qj,QF,not_or]at hx;have:=cnt x;rw[Qn λz=>hx.2 z.symm,o.two x h hx.1]at this;omega
 ·rcases Qj.mp h with h|h
  ·have ne:n≠x:=λz=>hn (by rw[z];exact h);obtain⟨h1,h2⟩:=o.one x h;rw[ex x h];have c:=cnt x;rw[Qn ne]at c;refine⟨QH _ h1,?_⟩;rcases h2 with⟨a,q⟩|⟨a,q⟩
   ·exact .inl ⟨by omega,λz=>by
     rcases Qj.mp z with z|z
     ·exact q z
     exact ne (congrArg Prod.fst (QF.mp z)).symm⟩
   exact .inr ⟨by omega,QH _ q⟩
  have e:=QF.mp h;subst e;rw[en];have c:=cnt x;rw[Qp rfl,o.two x nw hn]at c;refine⟨by simp,.inl ⟨by omega,λz=>?_⟩⟩;rcases Qj.mp z with z|z
  ·exact nt _ z
  exact w12 b (congrArg Prod.snd (QF.mp z)).symm
 rcases Qj.mp h with h|h
 ·have:=o.tin t h;rw[ex _ this.1];exact⟨QH _ this.1,this.2⟩
 rw[QF.mp h];exact⟨by simp,.inl (by rw[en])⟩
theorem OI.second {ws:List Str} {n:Str} (o:OI ws ls ns s ts) (pm:(n::ls').Perm ls) (hn:n∈ns):OI ws ls' ns s (ts++[(n,w2 (s n))]):=by
 have cnt:∀x,ls.count x=ls'.count x+if n=x then 1 else 0:=λx=>by
  rw[<-pm.count_eq,List.count_cons];simp
 obtain⟨h1,h2⟩:=o.one n hn;have cn:=cnt n;rw[Qp rfl]at cn
 have nt:(n,w2 (s n))∉ts:=by
  rcases h2 with⟨a,q⟩|⟨a,q⟩
  ·exact q
  omega
 refine⟨λx h=>o.sub x (pm.mem_iff.mp (Qo _ h)),o.nsub,λx h hx=>?_,λx h=>?_,gZ o.nd nt,λt h=>?_⟩
 ·have:=cnt x;rw[Qn λz=>hx (by rw[<-z];exact hn),o.two x h hx]at this;omega
 ·by_cases e:n=x
  ·subst e;exact⟨QH _ h1,.inr ⟨by rcases h2 with⟨a,_⟩|⟨a,_⟩ <;> omega,by simp⟩⟩
  have c:=cnt x;rw[Qn e]at c;obtain⟨h1,h2⟩:=o.one x h;refine⟨QH _ h1,?_⟩;rcases h2 with⟨a,q⟩|⟨a,q⟩
  ·exact .inl ⟨by omega,λz=>by
    rcases Qj.mp z with z|z
    ·exact q z
    exact e (congrArg Prod.fst (QF.mp z)).symm⟩
  exact .inr ⟨by omega,QH _ q⟩
 rcases Qj.mp h with h|h
 ·exact o.tin t h
 rw[QF.mp h];exact⟨hn,.inr rfl⟩
theorem OI.met {ws:List Str} (o:OI ws [] ns s ts) (n:Str):n∈ns↔n∈ws:=⟨o.nsub n,λh=>by
 by_cases c:n∈ns
 ·exact c
 have:=o.two n h c
 simp at this⟩
theorem OI.done {ws:List Str} (o:OI ws [] ns s ts) (nd:ws.Nodup):ts.Perm (bD ws):=by
 have both:∀b:Bool,(w1 b = "+" /\ w2 b = "-")\/(w1 b = "-" /\ w2 b = "+"):=λb=>by cases b <;> simp[w1,w2]
 refine(List.perm_ext_iff_of_nodup o.nd (fA nd)).mpr λt=>?_;rw[bE]
 constructor
 ·intro h;obtain⟨h1,h2⟩:=o.tin t h;refine⟨(o.met _).mp h1,?_⟩;rcases both (s t.1) with⟨a,b⟩|⟨a,b⟩ <;> rw[a,b]at h2
  ·exact h2
  exact h2.symm
 rintro⟨h1,h2⟩;obtain⟨a,q⟩:=o.one t.1 ((o.met _).mpr h1)
 have b:(t.1,w2 (s t.1))∈ts:=by
  rcases q with⟨z,_⟩|⟨_,q⟩
  ·simp at z
  exact q
 have e:t=(t.1,w1 (s t.1))\/t=(t.1,w2 (s t.1)):=by
  rcases both (s t.1) with⟨x,y⟩|⟨x,y⟩ <;> rcases h2 with z|z
  ·exact .inl (Prod.ext rfl (by rw[x,z]))
  ·exact .inr (Prod.ext rfl (by rw[y,z]))
  ·exact .inr (Prod.ext rfl (by rw[y,z]))
  exact .inl (Prod.ext rfl (by rw[x,z]))
 rcases e with e|e
 ·rw[e];exact a
 rw[e];exact b
theorem cG {E:XK} (kp:Kp D H0 H) (h1:1<=m) (h2:m<=100000)
  (q:∀(r:Int) H',0<=r->r<m->(∀b o,H b=some o->¬D.own b->H' b=some o)->bI H H'->Kp D H0 H'->Q (.int r) H'):eE [.ref D.d,.int m] H Q E :=
 ⟨D,m,rfl,kp.dk,h1,h2,λr H' r0 r1 k=>q r H' r0 r1 k.old (Kp.tups kp.dk k) (kp.trans k)⟩
theorem vR {x y:Str} (b:Bool) (ex:atI z.cps.toList 0=some cx) (ey:atI z.cps.toList 1=some cy) (hz:z.length<=sizeLine) (e1:(⟨#[cx]⟩:Str)=x) (e2:(⟨#[cy]⟩:Str)=y) (q:Q (.str (if b=true then y else x)) H):∃(t:Str) (n:Int),[sg b]=[V.str t]/\PySem.intText? t=some n/\t.length<=640/\mw (.str z) (.int n) H Q:=by
 cases b
 ·refine⟨_,0,rfl,by decide +kernel,by decide,ij hz ex ?_⟩;rw[e1];exact q
 refine⟨_,1,rfl,by decide +kernel,by decide,ij hz ey ?_⟩;rw[e2];exact q
theorem CJ (b:Bool) (q:Q (.str (w1 b)) H):∃(t:Str) (n:Int),[sg b]=[V.str t]/\PySem.intText? t=some n/\t.length<=640/\mw (.str "+-") (.int n) H Q :=
 vR (x := "+") (y := "-") (cx:=43) (cy:=45) b (by decide +kernel) (by decide +kernel) (by decide) (by decide +kernel) (by decide +kernel) q
theorem CI (b:Bool) (q:Q (.str (w2 b)) H):∃(t:Str) (n:Int),[sg b]=[V.str t]/\PySem.intText? t=some n/\t.length<=640/\mw (.str "-+") (.int n) H Q :=
 vR (x := "-") (y := "+") (cx:=45) (cy:=43) b (by decide +kernel) (by decide +kernel) (by decide) (by decide +kernel) (by decide +kernel) q
def qV:Sp:=λvs H Q _=>∃(D:Dk) (wl:Addr) (ws:List Str),vs=[.ref D.d,.ref wl]/\D.At H/\H wl=some (.lst (ws.map V.str))/\¬D.own wl/\ws.Nodup/\ws.length<=5 /\
 ∀a o f vo ts s H',Kp D H H'->H' a=some (.tup [.ref o,.ref f])->H o=none->H f=none->o≠f->H' o=some (.lst vo)->Paired (TuA H') vo ts->ts.Perm (bD ws)->xR H' f ws s->Q (.ref a) H'
section
theorem jx:FnScope ["deck", "wires", "firsts", "left", "order", "name"] ["deck", "wires"] (aA (top 45)):=by fin2
theorem ux {f:Addr} {fd:FuncData} (Fu:Fun K "_law_order" "_law_order" (top 45) f fd) (T:Txt K mg TT) (f_law_take:Fn P w K mg base "_law_take" ["deck", "many"] 1 eE):FnOk P w K mg base CX0 2 f fd ["deck", "wires"] qV:=by
 have S:=jx;refine Fu.ok S (by room) (λcdv A outer s H vs Q E hr h=>?_);obtain⟨D,wl,ws,rfl,DA,hw,nw,nd,w5,k⟩:=h;have hu:=di hr;refine'⟨?_,?bb,?_⟩
 case bb =>
  walk_at "b";exact aZ 2 S.nd gR;exact aZ 3 S.nd (aP bJ (pv 1) (pv 1));exact aZ 4 S.nd (pe_lst ad);refine' rn PassesOwn.never ?_ ?_;rotate_left 2;exact(aE (jE hr.units) (pv 3) (pe_lst ad) (aY _));walk_at "p";exact aZ 5 S.nd (cP QV PySem.F.slot_list_pop PySem.F.type_list_pop lh (pv 3) (aa (bi f_law_take hr (aa (pv 0) (aa (aQ aV (by rfl) T.n_len Xe (aa (pv 3) ad ak)) ad be) ak)) ad be));exact(wK (pK hu (pv 5) (pv 2)));exact(ce hu (pv 2) (pv 5) (az eO aG (bi f_law_take hr (aa (pv 0) (aa ae ad aD) ak))) rfl);refine' cE (cP QV XD XG bL (pv 4) ?a)
  case a =>
   walk_at "q";exact(pv 5);exact(az eO aG (bw db (by rfl) T.n_int XJ (aa (cr hu (pv 2) (pv 5)) ad)))
  refine' cE (cP QV XD XG bL (pv 4) ?a)
  case a =>
   walk_at "q";exact(pv 5);exact(az eO aG (bw db (by rfl) T.n_int XJ (aa (cr hu (pv 2) (pv 5)) ad)))
  exact(bj (pe_tup (aa (pv 4) (aa (pv 2) ad ak) ak)))
 x_go;lk;refine λf hf=>?_;have nf:¬D.own f:=aw DA hf;ctx_has H f H1 S1 q1 aq hf;have hw1:=S1 _ _ hw;lk;refine cJ hw1 hw1 (by rw[Qb];omega) λlf hlf=>?_;rw[<-QO];have nl:¬D.own lf:=aw (DA.same S1) hlf;ctx_has H1 lf H2 S2 q2 aq hlf;have q12:=S2 _ _ q1;lk;refine⟨by simp[sizeLine],λo ho=>?_⟩;have S12:=S1.trans S2;have no:¬D.own o:=aw (DA.same S12) ho;ctx_has H2 o H3 S3 q3 aq ho;have lfo:o≠lf:=aI q2 ho;have lff:lf≠f:=aI q1 hlf;have fo:o≠f:=aI q12 ho;have Hlf:H lf=none:=cY S1 hlf;have Ho:H o=none:=cY S12 ho;have kp3:Kp D H H3:=Kp.of DA (S12.trans S3);have q13:=S3 _ _ q12;have q23:=S3 _ _ q2;clear S1 S2 S12 S3 q1 q2 q12 hw1;lk;let I4:IvF:=λm O H'=>∃(ls ns:List Str) (s:Str->Bool) (kvs:List (Key × V)) (vo:List V) (ts:List Tu) (y5:Option V),m=ls.length/\O=[some (.ref D.d),some (.ref wl),some (.ref f),some (.ref lf),some (.ref o),y5]/\OI ws ls ns s ts/\ns.length+ls.length<=10/\ts.length+ls.length=2*ws.length/\H' lf=some (.lst (ls.map V.str))/\H' f=some (.dK kvs)/\kvs.length<=ns.length/\(∀n:Str,aW kvs (Sum.inr n:Key)=if n∈ns then some (sg (s n)) else none)/\H' o=some (.lst vo)/\Paired (TuA H') vo ts/\Kp D H H';refine⟨I4,⟨_,ws++ws,[],λ_=>false,[],[],[],_,rfl,rfl,OI.start nd,by rw[Qh];show 0+_<=10;omega,by rw[Qh];show 0+_=_;omega,q23,q13,Qi _,λn=>rfl,q3,.nil,kp3⟩,?_⟩;rintro m O H' ⟨ls,ns,s,kvs,vo,ts,y5,rfl,rfl,oi,n10,tl,hl',hf',kl,kv,ho',pt,kp⟩;lk;refine⟨by simp[sizeLine],λe he=>?_⟩;have Se:=aN (o:=.lst []) he;have hle:=Se _ _ hl';have hfe:=Se _ _ hf';have hoe:=Se _ _ ho';have pte:=au (λ_ _ h=>TuA.kt (av.tups Se) h) pt;have kpe:Kp D H (upd H' e (.lst [])):=kp.trans (Kp.of kp.dk Se);refine⟨lf,e,_,[],λ_=>true,rfl,rfl,SqL.of hle,SqL.of ah,(λj x y _ h=>by simp at h),⟨_,rfl,?_⟩⟩;generalize upd H' e (.lst [])=H3 at *;refine qb (λhne=>?_) (λhno=>?_)
 ·have nne:ls≠[]:=λz=>by subst z;simp at hne
  have lpos:0<ls.length:=List.length_pos_iff.mpr nne;refine⟨_,λσ' H' w=>⟨ls.length-1,by omega,w⟩,?_⟩;lk;rw[Qb];refine cG kpe (by omega) (by omega) λr H4 r0 r1 o4 kt4 kp4=>?_;have hl4:=o4 _ _ hle nl;have hf4:=o4 _ _ hfe nf;have ho4:=o4 _ _ hoe no;have pt4:=au (λ_ _ h=>TuA.kt kt4 h) pte;have hj:r.toNat<ls.length:=by omega
  have ez:(ls.map V.str)[r.toNat]?=some (V.str ls[r.toNat]):=by rw[Qy,Qd hj];rfl
  refine bC ?_;refine⟨lf,ls.map V.str,r,r.toNat,_,rfl,rfl,hl4,by omega,by omega,?_,ez,?_⟩
  ·have:ixN (ls.map V.str).length r=some r.toNat:=by unfold ixN;rw[Qp r0,Qp (by rw[Qb];exact r1)]
   exact(gt this).1
  have pz:(ls[r.toNat]::ls.eraseIdx r.toNat).Perm ls:=dv ls r.toNat hj;have lz:(ls.eraseIdx r.toNat).length+1=ls.length:=by rw[List.length_eraseIdx];rw[Qp hj];omega
  have nw:ls[r.toNat]∈ws:=oi.sub _ (XT hj);rw[d_];generalize ls[r.toNat]=n at *;generalize ls.eraseIdx r.toNat=ls' at *;generalize hE:upd H4 lf (.lst (ls'.map V.str))=H5;have old5:∀b u,H4 b=some u->b≠lf->H5 b=some u:=λb u e z=>by rw[<-hE,am z];exact e
  have l5:H5 lf=some (.lst (ls'.map V.str)):=by rw[<-hE];exact ah
  have f5:=old5 _ _ hf4 (Xo lff);have o5:=old5 _ _ ho4 lfo;have kt5:bI H4 H5:=by rw[<-hE];exact bX hl4
  have kp5:Kp D H H5:=by rw[<-hE];exact Kp.fresh DA Hlf kp4
  have pt5:=au (λ_ _ h=>TuA.kt kt5 h) pt4;clear hE hl4 hf4 ho4 pt4 kt5 old5 hle hfe hoe pte;lk;refine sN ?_;lk;refine⟨f,_,rfl,cL.k (k:=Sum.inr n) f5,_,rfl,?_⟩;rw[kv];by_cases hn:n∈ns
  ·rw[Qp hn];refine ifF rfl ?_;lk;refine⟨f,sg (s n),rfl,by have z:=cL.k (k:=Sum.inr n) f5;rw[kv,Qp hn]at z;exact z,?_⟩;refine bC (CI (s n) ?_);lk;refine⟨by simp[sizeLine],λp hp=>?_⟩;ctx_has H5 p H6 S6 q6 aq hp;have o6:=S6 _ _ o5;have vl:=a_ pt5;refine bC (ik o6 (by omega) ?_);have ku:=bX (o:=.lst (vo++[V.ref p])) o6;refine⟨ls',ns,s,kvs,vo++[V.ref p],ts++[(n,w2 (s n))],_,by omega,rfl,oi.second pz hn,by omega,by rw[Qh,XY];omega,by rw[am lfo.symm];exact S6 _ _ l5,by rw[am fo.symm];exact S6 _ _ f5,kl,kv,ah,bV (au (λ_ _ h=>TuA.kt ku (TuA.kt (av.tups S6) h)) pt5) (TuA.kt ku ⟨p,rfl,q6⟩),Kp.fresh DA Ho (kp5.trans (Kp.of kp5.dk S6))⟩
  rw[Qn hn];refine ifT rfl ?_;lk;refine cV ?_;lk;refine cG kp5 (by omega) (by omega) λr2 H6 r20 r21 o6 kt6 kp6=>?_
  obtain⟨b,eb⟩:∃b:Bool,r2=if b=true then 1 else 0:=by
   by_cases z:r2=0
   ·exact⟨false,z⟩
   exact⟨true,by show r2=1;omega⟩
  have l6:=o6 _ _ l5 nl;have f6:=o6 _ _ f5 nf;have o6':=o6 _ _ o5 no;have pt6:=au (λ_ _ h=>TuA.kt kt6 h) pt5
  have fin:∀{Q:VK},Q (sg b) H6->mw (.str "01") (.int r2) H6 Q:=λ{Q} q=>by
   subst eb;cases b
   ·exact ij (c:=48) (by decide) (by decide +kernel) (by rw[show V.str ⟨#[48]⟩=sg false by decide +kernel];exact q)
   exact ij (c:=49) (by decide) (by decide +kernel) (by rw[show V.str ⟨#[49]⟩=sg true by decide +kernel];exact q)
  refine fin ?_;lk;refine⟨f,_,rfl,eS.k (k:=Sum.inr n) f6 (by omega),?_⟩
  have kv2:∀m:Str,aW (bn kvs (Sum.inr n:Key) (sg b)) (Sum.inr m:Key)=if m∈ns++[n] then some (sg (kg s n b m)) else none:=λm=>by
   rw[bt];by_cases e:m=n
   ·subst e;rw[Qp rfl,Qp (by simp)];unfold kg;rw[Qp rfl]
   rw[Qn λz=>e (Sum.inr.inj z),kv];unfold kg;rw[Qn e];by_cases h:m∈ns
   ·rw[Qp h,Qp (by simp[h])]
   rw[Qn h,Qn (by simp[h,e])]
  have kl2:(bn kvs (Sum.inr n:Key) (sg b)).length<=kvs.length+1:=br _ _ _;generalize bn kvs (Sum.inr n:Key) (sg b)=kvs2 at kv2 kl2;generalize hE:upd H6 f (.dK kvs2)=H7;have old7:∀c u,H6 c=some u->c≠f->H7 c=some u:=λc u e z=>by rw[<-hE,am z];exact e
  have f7:H7 f=some (.dK kvs2):=by rw[<-hE];exact ah
  have kt7:bI H6 H7:=by rw[<-hE];exact λc xs e=>by rw[am λz=>by rw[z,f6]at e;cases e];exact e
  have kp7:Kp D H H7:=by rw[<-hE];exact Kp.fresh DA hf kp6
  have l7:=old7 _ _ l6 lff;have o7:=old7 _ _ o6' fo;have pt7:=au (λ_ _ h=>TuA.kt kt7 h) pt6;clear hE old7 l6 f6 o6' pt6 l5 f5 o5 pt5;lk;refine⟨f,sg b,rfl,by have z:=cL.k (k:=Sum.inr n) f7;rw[kv2,Qp (by simp),show kg s n b n=b from Qp rfl]at z;exact z,?_⟩;refine bC (CJ b ?_);lk;refine⟨by simp[sizeLine],λp hp=>?_⟩;ctx_has H7 p H8 S8 q8 aq hp;have o8:=S8 _ _ o7;have vl:=a_ pt7;refine bC (ik o8 (by omega) ?_);have ku:=bX (o:=.lst (vo++[V.ref p])) o8;refine⟨ls',ns++[n],kg s n b,kvs2,vo++[V.ref p],ts++[(n,w1 b)],_,by omega,rfl,oi.first pz hn,by rw[Qh,XY];omega,by rw[Qh,XY];omega,by rw[am lfo.symm];exact S8 _ _ l7,by rw[am fo.symm];exact S8 _ _ f7,by rw[Qh,XY];omega,kv2,ah,bV (au (λ_ _ h=>TuA.kt ku (TuA.kt (av.tups S8) h)) pt7) (TuA.kt ku ⟨p,rfl,q8⟩),Kp.fresh DA Ho (kp7.trans (Kp.of kp7.dk S8))⟩
 have e0:ls=[]:=by
  cases ls with
  | nil=>rfl
  | cons x r=>exact absurd (by simp) hno
 subst e0;lk;refine⟨by simp[sizeLine],λa ha=>?_⟩;have Sa:=aN (o:=.tup [V.ref o,V.ref f]) ha;refine k a o f vo ts s _ (kpe.trans (Kp.of kpe.dk Sa)) ah Ho hf fo (Sa _ _ hoe) (au (λ_ _ h=>TuA.kt (av.tups Sa) h) pte) (oi.done nd) ⟨kvs,Sa _ _ hfe,by omega,λn=>?_⟩;rw[kv];exact ite_congr (propext (oi.met n)) (λ_=>rfl) λ_=>rfl
end
section
variable {α:Type} {K:PySem.W.Frag} {H1:Hp} {D:Addr} {σ0:St} {g:TG} {te:TE} {tt:L2.TT} {QD:Hp->Prop}
theorem oR {a:Addr} {o:Obj} {kvs:List (ay × V)} (c:ay × V->Bool) (R:Hp->V->ay × V->Prop) (hD:H1 D=none) (e:H1 a=some (.frz o (.dT kvs))) (few:kvs.length<=100000) (mono:∀H H' v x,bI H H'->R H v x->R H' v x)
  (hs:∀kv b H,kv∈kvs->cv H kv.1 b->av H1 H->∀(G:V->Hp->Prop) (N:Hp->Prop),(c kv=true->∀u H2,av H H2->R H2 u kv->G u H2)->(c kv=false->∀H2,av H H2->N H2)->g (.ref b) σ0 H λσ2 H2=>wk σ0 σ2/\tt σ2 H2 λb H3=>if b=true then te σ2 H3 G else N H3)
  (hd:∀H ys,av H1 H->H D=some (.lst ys)->Paired (R H) ys (kvs.filter c)->QD H) :
  ∃W:Nat->Nat->Hp->List V->Prop,(∃m,W 0 m (upd H1 D (.lst [])) [])/\∀i m H ys,W i m H ys->H D=some (.lst ys)/\(((tI a o kvs).stop i H/\QD H)\/((tI a o kvs).go i H/\∀x H',(tI a o kvs).yld i H x H'->g x σ0 H' λσ2 H2=>wk σ0 σ2/\tt σ2 H2 λb H3 =>
   if b=true then te σ2 H3 λv H4=>H4 D=some (.lst ys)/\ys.length<sizeLine/\∃m',m'<m/\W (i+1) m' (upd H4 D (.lst (ys++[v]))) (ys++[v]) else ∃m',m'<m/\W (i+1) m' H3 ys)):=by
 refine cm kvs c R hD few mono (λi H S hi=>⟨S _ _ e,hi⟩) (λH S=>⟨S _ _ e,Qi _⟩) (λi x H v H' ex S y=>?_) hd;obtain⟨e',k,u,b,hk,ev,tb⟩:=y;subst e' ev;rw[ex]at hk;cases hk;exact hs _ b _ (QC ex) tb S
end
def Has (kvs:List (ay × V)) (p:Pr):Prop:=tkR p∈kvs.map (·.1)
theorem Has.put {p:Pr} (h:Has kvs p) (q:Pr) (v:V):Has (bn kvs (tkR q) v) p:=by
 unfold Has at *;rcases d9 kvs (tkR q) v with⟨_,e⟩|⟨_,e⟩
 ·rw[e];exact h
 rw[e];exact QH _ h
theorem Has.new (p:Pr) (v:V):Has (bn kvs (tkR p) v) p:=by
 unfold Has;rcases d9 kvs (tkR p) v with⟨h,e⟩|⟨_,e⟩
 ·rw[e];exact h
 rw[e];simp
structure RS (D:Dk) (H H':Hp) (mi M:Addr) (vm:List V) (ts:List Tu) (ws:List Str) (kvs:List (ay × V)) (n:Nat):Prop where
 kp:Kp D H H'
 md:MkD H' M ws kvs n
 hm:H' mi=some (.lst vm)
 pm:Paired (TuA H') vm ts
section
variable {D:Dk} {H H' H2:Hp} {mi M:Addr} {vm:List V} {ts:List Tu} {ws:List Str} {kvs:List (ay × V)} {n:Nat}
theorem RS.same (s:RS D H H' mi M vm ts ws kvs n) (S:av H' H2):RS D H H2 mi M vm ts ws kvs n :=
 ⟨s.kp.trans (Kp.of s.kp.dk S),s.md.same λo e=>S _ _ e,S _ _ s.hm,au (λ_ _ h=>h.kt (av.tups S)) s.pm⟩
theorem RS.put (s:RS D H H' mi M vm ts ws kvs n) (DA:D.At H) (hM:H M=none) {p:Pr} {m:Int} (ok:PrOk ws p) (hm:m=0\/m=1):RS D H (upd H' M (.dT (bn kvs (tkR p) (.int m)))) mi M vm ts ws (bn kvs (tkR p) (.int m)) (n+1):=by
 have ne:mi≠M:=λz=>by have h:=s.hm;have q:=s.md.h;rw[z,q]at h;cases h
 have kt:bI H' (upd H' M (.dT (bn kvs (tkR p) (.int m)))):=eM s.md.h;exact⟨Kp.fresh DA hM s.kp,s.md.put ok hm ah,by rw[am ne];exact s.hm,au (λ_ _ h=>h.kt kt) s.pm⟩
theorem RS.draw (s:RS D H H' mi M vm ts ws kvs n) (n1:¬D.own mi) (n2:¬D.own M) (o:∀b x,H' b=some x->¬D.own b->H2 b=some x) (kt:bI H' H2) (kp:Kp D H H2):RS D H H2 mi M vm ts ws kvs n :=
 ⟨kp,s.md.same λx e=>o _ _ e n2,o _ _ s.hm n1,au (λ_ _ h=>h.kt kt) s.pm⟩
theorem RS.up {k:Nat} (s:RS D H H' mi M vm ts ws kvs n) (h:n<=k):RS D H H' mi M vm ts ws kvs k:=⟨s.kp,⟨s.md.h,QR s.md.l h,s.md.ok,s.md.nd⟩,s.hm,s.pm⟩
end
theorem h_ {α β:Type} {f:α->β}:∀(l:List β),(∀x∈l,∃p,x=f p)->∃ps:List α,l=ps.map f
 | [],_=>⟨[],rfl⟩
 | x::l,h=>by
  obtain⟨p,rfl⟩:=h x (by simp);obtain⟨ps,e⟩:=h_ l λy hy=>h y (Qo _ hy);exact⟨p::ps,by rw[e];rfl⟩
theorem lI {ws:List Str} (d:MkD H M ws kvs n) (w5:ws.length<=5):kvs.length<=100:=by
 have hl:(bD ws).length<=10:=by unfold bD;rw[Qh,Qb,Qb];omega
 have:=Bf.eI (kvs.map (·.1)) ((bD ws).flatMap λt=>(bD ws).map λu=>tkR (t,u)) d.nd λk hk=>by
  obtain⟨kv,h,rfl⟩:=Qr.mp hk;obtain⟨p,e,ok,_⟩:=d.ok kv h;exact List.mem_flatMap.mpr ⟨p.1,bE.mpr ok.o,Qr.mpr ⟨p.2,bE.mpr ok.t,e.symm⟩⟩
 rw[Qb,List.length_flatMap]at this;have e:((bD ws).map λt=>((bD ws).map λu=>tkR (t,u)).length)=(bD ws).map λ_=>(bD ws).length:=List.map_congr_left λ_ _=>Qb _
 have z:∀(k c:Nat),(List.replicate k c).sum=k*c:=λk c=>by
  induction k with
  | zero=>simp
  | succ k ih=>rw[List.replicate_succ,List.sum_cons,ih,Nat.succ_mul];omega
 rw[e,List.map_const',z]at this;have q:(bD ws).length*(bD ws).length<=10*10:=Nat.mul_le_mul hl hl;omega
theorem fK {H:Hp} {kvs0:List (ay × V)}:∀{ys:List V} {kvs:List (ay × V)} {ps:List Pr},Paired (λv (kv:ay × V)=>∀p,kv.1=tkR p->ArA H v (ft kvs0 p)) ys kvs->kvs.map (·.1)=ps.map tkR->Paired (ArA H) ys (ps.map (ft kvs0))
 | _,_,[],.nil,_=>.nil
 | _,_,p::ps,.nil,e=>by cases e
 | _,_,[],.cons _ _,e=>by cases e
 | _,_,p::ps,.cons h t,e=>by
  rw[Qu,Qu]at e;injection e with e1 e2;exact .cons (h p e1) (fK t e2)
def sgS (b:Bool):Str:=if b=true then "1" else "0"
theorem jv (b:Bool):sg b=V.str (sgS b):=by cases b <;> rfl
theorem nH (s:Str->Bool):∀ws:List Str,StOk ws.length (PySem.Txt.join Str.empty (ws.map λn=>sgS (s n))):=λws=>by
 have c1:∀b,∃c,(sgS b).cps.toList=[c]/\(c=48\/c=49):=λb=>by
  cases b
  ·exact⟨48,by decide +kernel,.inl rfl⟩
  exact⟨49,by decide +kernel,.inr rfl⟩
 have e:=i0 (ws.map λn=>sgS (s n));rw[XA]at e
 have all:∀us:List Str,((us.map ((λx:Str=>x.cps.toList)∘λn=>sgS (s n))).flatten.length=us.length)/\∀c∈(us.map ((λx:Str=>x.cps.toList)∘λn=>sgS (s n))).flatten,c=48\/c=49:=λus=>by
  induction us with
  | nil=>exact⟨rfl,λc h=>nomatch h⟩
  | cons u us ih =>
  obtain⟨c,e,hc⟩:=c1 (s u);rw[Qu,List.flatten_cons];have e2:((λx:Str=>x.cps.toList)∘λn=>sgS (s n)) u=[c]:=e;rw[e2];refine⟨by rw[Qh,ih.1,Q2];simp;omega,λd hd=>?_⟩;rcases Qj.mp hd with h|h
  ·rw[QF.mp h];exact hc
  exact ih.2 d h
 obtain⟨a1,a2⟩:=all ws;refine⟨?_,λc hc=>?_⟩
 ·rw[<-Qg,e];exact a1
 rw[e]at hc;exact a2 c hc
theorem lO {xs:List α} (h:1<=xs.length):atI xs (-1)=xs[xs.length-1]?:=by
 unfold atI ixN;rw[Qn (by decide),Qp (by omega)];show xs[_]?=_;congr 1;omega
def prv (L k:Nat):Nat:=if k=0 then L-1 else k-1
theorem uZ {xs:List α} {k:Nat} (h:k<xs.length):atI xs ((k:Int)-1)=xs[prv xs.length k]?:=by
 unfold prv;by_cases c:k=0
 ·subst c;exact lO (by omega)
 rw[Qn c,show ((k:Int)-1)=((k-1:Nat):Int) by omega];exact bQ (Qd (by omega)) |>.trans (Qd (by omega)).symm
theorem gN {ws:List Str} (d:MkD H' M ws kvs n) {ps:List Pr} (e:kvs.map (·.1)=ps.map tkR):(∀a∈ps.map (ft kvs),ArOk ws a)/\((ps.map (ft kvs)).map prA).Nodup:=by
 refine⟨λa ha=>?_,?_⟩
 ·obtain⟨p,hp,rfl⟩:=Qr.mp ha;obtain⟨ok,_,hm⟩:=e9 d (p:=p) (by rw[e];exact Qr.mpr ⟨p,hp,rfl⟩);exact⟨ok.o,ok.t,ok.ne,hm⟩
 rw[XA];have nd:=d.nd;rw[e]at nd;exact Xs.mpr ((Xs.mp nd).imp λ{a b} h q=>h (congrArg tkR (show a=b from Prod.ext (congrArg Prod.fst q) (congrArg Prod.snd q))))
theorem iP {o:HO} (S:av (upd H a o) H'):av H (back H a H'):=λb u e=>by
 by_cases c:b=a
 ·rw[c,fU,<-c];exact e
 rw[bz c];exact S b u (by rw[am c];exact e)
theorem dN {ws:List Str} {t1 t2:Tu} {G:Hp->Prop} (s:RS D H H' mi M vm ts ws kvs n) (DA:D.At H) (hM:H M=none) (h1:TuA H' v1 t1) (h2:TuA H' v2 t2) (ok:PrOk ws (t1,t2)) (hm:m=0\/m=1) (few:n<=1000)
  (q:∀H3,RS D H H3 mi M vm ts ws (bn kvs (tkR (t1,t2)) (.int m)) (n+1)->G H3):[v1,v2].length<=sizeLine/\∀p,H' p=none->∃a H4,V.ref M=V.ref a/\eS (upd H' p (.tup [v1,v2])) a (.ref p) (.int m) H4/\G H4:=by
 refine⟨by simp[sizeLine],λp hp=>?_⟩;have S:=aN (o:=.tup [v1,v2]) hp;have s2:=s.same S;have big:1000<sizeLine:=by decide
 have l:=s.md.l;exact⟨M,_,rfl,eS.t s2.md.h (PrA.tk ⟨p,v1,v2,rfl,ah,h1.kt (av.tups S),h2.kt (av.tups S)⟩) (by omega),q _ (s2.put DA hM ok hm)⟩
theorem wB {ta:TA} {R:It->Hp->Prop} (q:ta O H λvs H1=>∃i j:Int,vs=[.int i,.int j]/\(-(2 ^ 62)<=i/\i<2 ^ 62/\-(2 ^ 62)<=j/\j<2 ^ 62)/\R (Itr i (j-i).toNat) H1):vS ta O H R:=q
def gm (H:Hp) (f:Addr) (ns:List Str) (s:Str->Bool):Prop:=∃kvs:List (Key × V),H f=some (.dK kvs)/\∀n∈ns,aW kvs (Sum.inr n:Key)=some (sg (s n))
def kw:Sp:=λvs H Q _=>∃(D:Dk) (o f li lo:Addr) (vo:List V) (ts0:List Tu) (s:Str->Bool) (ins outs:List Str),vs=[.ref D.d,.ref o,.ref f,.ref li,.ref lo]/\D.At H/\H o=some (.lst vo)/\Paired (TuA H) vo ts0/\ts0.length<=1000/\(ts0.filter λt=>decide (t.1∈ins++outs)).Perm (bD (ins++outs))/\gm H f (ins++outs) s/\H li=some (.lst (ins.map V.str))/\H lo=some (.lst (outs.map V.str))/\¬D.own o/\¬D.own f/\¬D.own li/\¬D.own lo/\(ins++outs).Nodup/\1<=outs.length/\(ins++outs).length<=5/\(∀n∈ins++outs,Low n) /\
 ∀a l as (r:Rg) H',Kp D H H'->RgA H' a li lo l as r->r.ins=ins->r.outs=outs->H a=none->H l=none->RgOk r->BP r->RgX r->(r.arcs.map tkA).Pairwise leF->Q (.ref a) H'
section
theorem kG:FnScope ["deck", "order", "firsts", "inputs", "outputs", "mine", "marks", "chain", "k", "i", "j", "way", "near", "arcs"] ["deck", "order", "firsts", "inputs", "outputs"] (aA (top 46)):=by fin2
theorem pO {f:Addr} {fd:FuncData} (Fu:Fun K "_law_ring" "_law_ring" (top 46) f fd) (T:Txt K mg TT) (f_law_take:Fn P w K mg base "_law_take" ["deck", "many"] 1 eE):FnOk P w K mg base CX0 2 f fd ["deck", "order", "firsts", "inputs", "outputs"] kw:=by
 have S:=kG;refine Fu.ok S (by room) (λcdv A outer s H vs Q E hr h=>?_);obtain⟨D,o,fs,li,lo,vo,ts0,s,ins,outs,rfl,DA,ho,pt,t1000,pm,hf,hi,hlo,no,nf,ni,nlo,nd,o1,w5,low,k⟩:=h;have hu:=di hr;refine'⟨?_,?bb,?_⟩
 case bb =>
  walk_at "b";exact(nZ (j:=5) S.nd rfl (by z_go) (tgs:=["turn"]) (cap:=[("inputs", 3),("outputs", 4)]) rfl ⟨rfl,rfl,rfl,rfl,rfl,rfl⟩ (cF (pv 1)) (λ_ _ _ _=>(bK (i:=0) (show List.Nodup [("turn" : Str),("inputs" : Str),("outputs" : Str)] by decide +kernel) rfl (by z_go))) (λ_ _ _ _=>(eZ (aE (gY (K:=K) rfl) (az (cZ (K:=K) rfl) (pv 0) ae) (aP bJ (pv 1) (pv 2)) rfl))) (λ_ _ _ _=>(pv 0)));exact aZ 6 S.nd kU;exact aZ 7 S.nd (dy cW (bi f_law_take hr (aa (pv 0) (aa ae ad aD) ak)) ae (aY _));walk_at "f";exact(bU (by rfl) T.n_range (aa (aP fM (aQ aV (by rfl) T.n_len Xe (aa (pv 5) ad ak)) (bw dq (by rfl) T.n_int XJ (aa (pv 7) ad ak))) ad));exact(bu 8 S.nd);walk_at "p";exact(ce hu (pv 6) (pe_tup (aa (az bh (pv 5) (aP gW (pv 8) ae)) (aa (az bh (pv 5) (pv 8)) ad))) (bw dq (by rfl) T.n_int XJ (aa (dy cW (pv 8) ae (aY _)) ad)) rfl);walk_at "f";exact(bU (by rfl) T.n_range (aa (aQ aV (by rfl) T.n_len Xe (aa (pv 5) ad ak)) ad be));exact(bu 9 S.nd);walk_at "p";walk_at "f";exact(pH (by rfl) T.n_range (aa (aP dB (pv 9) ae) (aa (aQ aV (by rfl) T.n_len Xe (aa (pv 5) ad ak)) ad be)));exact(bu 10 S.nd);walk_at "p";exact aZ 11 S.nd (bi f_law_take hr (aa (pv 0) (aa ae ad aD) ak));exact aZ 12 S.nd (yj (dy cW (az aM (az bh (pv 5) (pv 9)) ae) (az aM (az bh (pv 5) (pv 10)) ae) (aY _)) (rB (wP (dy cW (pv 10) (aP dB (pv 9) ae) (aY _)) (rB (dy rK (pv 11) ae (aY _))))));exact(PW.pt (cN (rm (gO (pv 7))) (cc (PW.pt (nY (gO (pv 12)) (jB (aE cW (pv 11) ae (aY _))))))));exact(ce hu (pv 6) (pe_tup (aa (az bh (pv 5) (pv 9)) (aa (az bh (pv 5) (pv 10)) ad))) ae rfl);exact(ce hu (pv 6) (pe_tup (aa (az bh (pv 5) (pv 10)) (aa (az bh (pv 5) (pv 9)) ad))) ae rfl);exact(PW.pt (cN (gO (pv 7)) (cc (aE cW (pv 11) ae (aY _)))));exact(ce hu (pv 6) (pe_tup (aa (az bh (pv 5) (pv 10)) (aa (az bh (pv 5) (pv 9)) ad))) ae rfl);exact(PW.pt (cN (aE gX (az aM (az bh (pv 5) ae) ae) (az aM (az bh (pv 5) (kT gA ae)) ae) (aY _)) (cc (aE cW (bi f_law_take hr (aa (pv 0) (aa ae ad aD) ak)) ae (aY _)))));exact(ce hu (pv 6) (pe_tup (aa (az bh (pv 5) ae) (aa (az bh (pv 5) (kT gA ae)) ad))) (bi f_law_take hr (aa (pv 0) (aa ae ad aD) ak)) rfl);exact aZ 13 S.nd (aQ (eP rfl hu) (by rfl) T.n_sorted PyProof.Rows.boot_sorted (aa (rE (rD (tgs:=["begin", "end"]) (cap:=[("marks", 6)]) rfl ⟨rfl,rfl,rfl,rfl,rfl,rfl⟩ (kQ (pv 6)) (λ_ _ _ _=>(gq (K:=K) (n:=2) rfl rfl (aO (bK (i:=0) (show List.Nodup [("begin" : Str),("end" : Str),("marks" : Str)] by decide +kernel) rfl (by z_go)) (aO (bK (i:=1) (show List.Nodup [("begin" : Str),("end" : Str),("marks" : Str)] by decide +kernel) rfl (by z_go)) cq)))) (λ_ _ _ _=>gQ) (λ_ _ _ _=>(pe_tup (aa (pv 0) (aa (pv 1) (aa (cr hu (pv 2) (pe_tup (aa (pv 0) (aa (pv 1) ad ak) ak))) ad) ak) ak))))) ad));refine' bj ?e
  case e =>
   walk_at "q";exact(pv 3);exact(pv 4);exact(cP PySem.F.plainAttrs_str PySem.F.slot_str_join PySem.F.type_str_join ou aG (aa (iT "name" [("firsts", 2)] (cF (aP bJ (pv 3) (pv 4))) (λ_ _ _ _=>(cr hu (pv 1) (pv 0)))) ad));exact(pv 13)
 x_go;generalize hts:ts0.filter (λt=>decide (t.1∈ins++outs))=ts at pm;have tok:∀t∈ts,fV (ins++outs) t:=λt h=>bE.mp (pm.mem_iff.mp h);have tnd:ts.Nodup:=pm.nodup_iff.mpr (fA nd);have tl:ts.length=2*(ins++outs).length:=by rw[pm.length_eq];unfold bD;rw[Qh,Qb,Qb];omega
 have w1:1<=(ins++outs).length:=by rw[Qh];omega
 have lap:(ins++outs).length=ins.length+outs.length:=Qh ..;lk;refine cX (s_list (ba rfl ⟨o,rfl,⟨_,SqL.of ho⟩,λmi hmi=>?_⟩));refine fq (λt=>decide (t.1∈ins++outs)) (λH v (t:Tu)=>TuA H v t) hmi ho pt (by omega) (λH H' v x k h=>h.kt k) (λv x H' ia mx S' G N hG hN=>?_) (λH1 vm S1 hy pv=>?_)
 ·obtain⟨b,rfl,hb⟩:=ia.kt (av.tups S');have hi':=S' _ _ hi;have hlo':=S' _ _ hlo;refine aC ⟨⟨rfl,rfl,trivial⟩,?_⟩;lk;refine cJ hi' hlo' (by rw[Qb,Qb];omega) λLc hLc=>?_;rw[<-QO];have Sc:=aN (o:=.lst ((ins++outs).map V.str)) hLc;refine⟨Lc,_,rfl,.inl (SqL.of ah),rfl,bZ _,_,rfl,?_⟩;by_cases cx:x.1∈ins++outs
  ·refine ifT (bH.mpr cx) ?_;lk;exact hG (QG cx) _ _ Sc ⟨b,rfl,Sc _ _ hb⟩
  refine ifF (Xu.mpr λz=>cx (bH.mp z)) ?_;exact hN (QE cx) _ Sc
 rw[hts]at pv;have vl:=a_ pv;have nmi:¬D.own mi:=aw DA hmi;lk;refine λM hM=>?_;have HM:H M=none:=cY S1 hM;have nM:¬D.own M:=aw DA HM;ctx_has H1 M H2 S2 q2 aq hM;have rs0:RS D H H2 mi M vm ts (ins++outs) [] 0:=⟨Kp.of DA (S1.trans S2),⟨q2,Qi _,(λkv h=>nomatch h),List.nodup_nil⟩,S2 _ _ hy,au (λ_ _ h=>h.kt (av.tups S2)) pv⟩;clear S1 S2 hM q2 hy pv;lk;refine cG rs0.kp (by omega) (by omega) λr1 H3 r10 r11 o3 kt3 kp3=>?_;have rs3:=rs0.draw nmi nM o3 kt3 kp3;have hm3:=rs3.hm;lk;generalize decide (V.int r1=V.int 1)=b
 obtain⟨N,hN,hNt,hNf,hN10⟩:∃N:Nat,((vm.length:Nat):Int)*(if b=true then 1 else 0)=(N:Int)/\(b=true->N=vm.length)/\(b=false->N=0)/\N<=10:=by
  cases b
  ·exact⟨0,by simp,(λh=>nomatch h),λ_=>rfl,by omega⟩
  exact⟨vm.length,by simp,λ_=>rfl,(λh=>nomatch h),by omega⟩
 rw[hN];refine⟨by omega,by omega,?_⟩;rw[Q9]
 have vat:∀{H':Hp} {j:Nat},Paired (TuA H') vm ts->j<ts.length->∃v,vm[j]?=some v/\TuA H' v (ts.getD j ("", "")):=λ{H' j} p hj=>by
  obtain⟨v,e,q⟩:=bW p (Qd hj);exact⟨v,e,by rw[QQ,Qd hj];exact q⟩
 have tat:∀{j:Nat},j<ts.length->fV (ins++outs) (ts.getD j ("", "")):=λ{j} hj=>by
  rw[QQ,Qd hj];exact tok _ (XT hj)
 have tne:∀{i j:Nat},i<ts.length->j<ts.length->i≠j->ts.getD i ("", "")≠ts.getD j ("", ""):=λ{i j} hi hj ne z=>by
  rw[QQ,Qd hi,QQ,Qd hj]at z;exact ne ((List.getElem_inj tnd).mp z)
 have L2:2<=ts.length:=by omega
 have prl:∀{j:Nat},j<ts.length->prv ts.length j<ts.length/\prv ts.length j≠j:=λ{j} hj=>by
  unfold prv;split <;> constructor <;> omega
 let I5:IvF:=λi O H'=>∃(kvs:List (ay × V)) (y8 y9 y10 y11 y12 y13:Option V),O=[some (.ref D.d),some (.ref o),some (.ref fs),some (.ref li),some (.ref lo),some (.ref mi),some (.ref M),some (.bl b),y8,y9,y10,y11,y12,y13]/\RS D H H' mi M vm ts (ins++outs) kvs i/\∀j,j<i->Has kvs (ts.getD (prv ts.length j) ("", ""),ts.getD j ("", ""));refine bY (n:=N) I5 ⟨[],_,_,_,_,_,_,rfl,rs3,λj h=>absurd h (Nat.not_lt_zero _)⟩ (λi O H' hi pv=>?_) (λO H' pv=>?_)
 ·obtain⟨kvs,y8,y9,y10,y11,y12,y13,rfl,rs,cov⟩:=pv
  have hl:i<ts.length:=by
   cases b
   ·have:=hNf rfl;omega
   have:=hNt rfl;omega
  obtain⟨p1,p2⟩:=prl hl;obtain⟨v1,e1,t1⟩:=vat rs.pm p1;obtain⟨v2,e2,t2⟩:=vat rs.pm hl;have hm':=rs.hm;refine aC ?_;refine cV ?_;lk;refine i_ixL (SqL.of hm') (v:=v1) (by rw[Int.zero_add,uZ (by omega),vl];exact e1) ?_;lk;refine i_ixL (SqL.of hm') (v:=v2) (by rw[Int.zero_add];exact bQ e2) ?_;lk;refine dN rs DA HM t1 t2 ⟨tat p1,tat hl,tne p1 hl p2⟩ (bit _) (by omega) λH5 rs5=>?_;refine⟨_,_,_,_,_,_,_,rfl,rs5,λj hj=>?_⟩;by_cases e:j=i
  ·subst e;exact Has.new _ _
  exact(cov j (by omega)).put _ _
 obtain⟨kvs,y8,y9,y10,y11,y12,y13,rfl,rs,cov⟩:=pv;have hm':=rs.hm;lk;refine⟨by omega,by omega,?_⟩;rw[Q9];have cov1:b=true->∀j,j<ts.length->Has kvs (ts.getD (prv ts.length j) ("", ""),ts.getD j ("", "")):=λhb j hj=>cov j (by have:=hNt hb;omega);clear cov hN hNt hNf;let I6:IvF:=λi O H'=>∃(kvs:List (ay × V)) (y8 y9 y10 y11 y12 y13:Option V),O=[some (.ref D.d),some (.ref o),some (.ref fs),some (.ref li),some (.ref lo),some (.ref mi),some (.ref M),some (.bl b),y8,y9,y10,y11,y12,y13]/\RS D H H' mi M vm ts (ins++outs) kvs (10+20*i)/\(b=true->∀j,j<ts.length->Has kvs (ts.getD (prv ts.length j) ("", ""),ts.getD j ("", "")))/\(b=false->∀i' j,i'<i->i'<j->j<ts.length->(ts.getD i' ("", "")).1=(ts.getD j ("", "")).1->Has kvs (ts.getD i' ("", ""),ts.getD j ("", ""))/\Has kvs (ts.getD j ("", ""),ts.getD i' ("", "")));refine bY (n:=vm.length) I6 ⟨kvs,_,_,_,_,_,_,rfl,rs.up (by omega),cov1,λ_ i' j h=>absurd h (Nat.not_lt_zero _)⟩ (λi O H' hi pv=>?_) (λO H' pv=>?_)
 ·clear rs hm' cov1;obtain⟨kvs,y8,y9,y10,y11,y12,y13,rfl,rs,cov1,cov2⟩:=pv;have hm':=rs.hm;refine aC ?_;refine s_for (wB ?_);lk;refine⟨_,_,rfl,⟨by omega,by omega,by omega,by omega⟩,?_⟩;rw[show (((vm.length:Nat):Int)-((0+(i:Int))+1)).toNat=vm.length-(i+1) by omega];let I7:IvF:=λm O H'=>∃(kvs:List (ay × V)) (y8 y10 y11 y12 y13:Option V),O=[some (.ref D.d),some (.ref o),some (.ref fs),some (.ref li),some (.ref lo),some (.ref mi),some (.ref M),some (.bl b),y8,some (.int (0+(i:Int))),y10,y11,y12,y13]/\RS D H H' mi M vm ts (ins++outs) kvs (10+20*i+2*m)/\(b=true->∀j,j<ts.length->Has kvs (ts.getD (prv ts.length j) ("", ""),ts.getD j ("", "")))/\(b=false->∀i' j,(i'<i\/(i'=i/\j<i+1+m))->i'<j->j<ts.length->(ts.getD i' ("", "")).1=(ts.getD j ("", "")).1->Has kvs (ts.getD i' ("", ""),ts.getD j ("", ""))/\Has kvs (ts.getD j ("", ""),ts.getD i' ("", "")));refine bY (n:=vm.length-(i+1)) I7 ⟨kvs,_,_,_,_,_,rfl,rs,cov1,λhb i' j h h2=>cov2 hb i' j (by omega) h2⟩ (λm O H' hm pv=>?_) (λO H' pv=>?_)
  ·clear rs hm' cov1 cov2;obtain⟨kvs,y8,y10,y11,y12,y13,rfl,rs,cov1,cov2⟩:=pv;refine aC ?_;lk;refine cG rs.kp (by omega) (by omega) λr H4 r0 r1 o4 kt4 kp4=>?_;have rs4:=rs.draw nmi nM o4 kt4 kp4;have hm4:=rs4.hm;have hil:i<ts.length:=by omega
   have hjl:i+1+m<ts.length:=by omega
   obtain⟨v1,e1,t1⟩:=vat rs4.pm hil;obtain⟨v2,e2,t2⟩:=vat rs4.pm hjl;obtain⟨b1,rfl,hb1⟩:=id t1;obtain⟨b2,rfl,hb2⟩:=id t2;have ok12:PrOk (ins++outs) (ts.getD i ("", ""),ts.getD (i+1+m) ("", "")):=⟨tat hil,tat hjl,tne hil hjl (by omega)⟩;have ok21:PrOk (ins++outs) (ts.getD (i+1+m) ("", ""),ts.getD i ("", "")):=⟨tat hjl,tat hil,tne hjl hil (by omega)⟩;have ai:atI vm (0+(i:Int))=some (.ref b1):=by rw[Int.zero_add];exact bQ e1
   have aj:atI vm ((0+(i:Int))+1+(m:Int))=some (.ref b2):=by rw[show (0+(i:Int))+1+(m:Int)=((i+1+m:Nat):Int) by omega];exact bQ e2
   refine aC ?_;let I8:IvJ:=λO G=>∃nb:Bool,O=[some (.ref D.d),some (.ref o),some (.ref fs),some (.ref li),some (.ref lo),some (.ref mi),some (.ref M),some (.bl b),y8,some (.int (0+(i:Int))),some (.int ((0+(i:Int))+1+(m:Int))),some (.int r),some (.bl nb),y13]/\G=H4/\((ts.getD i ("", "")).1=(ts.getD (i+1+m) ("", "")).1->nb=true);with_reducible refine cU I8 (λRR hJ=>?_) (λO G h=>?_)
   ·lk;refine i_ixL (SqL.of hm4) ai ?_;lk;refine i_ixL (SqL.of hm4) aj ?_;lk;by_cases c1:(ts.getD i ("", "")).1=(ts.getD (i+1+m) ("", "")).1
    ·refine ifT (QG (by rw[c1])) ?_;exact aC (hJ _ _ ⟨true,rfl,rfl,λ_=>rfl⟩)
    refine ifF (QE (λz=>c1 (V.str.inj z))) ?_;lk;refine qb (λ_=>?_) (λ_=>?_)
    ·lk;exact hJ _ _ ⟨_,rfl,rfl,λh=>absurd h c1⟩
    lk;exact hJ _ _ ⟨_,rfl,rfl,λh=>absurd h c1⟩
   obtain⟨nb,rfl,rfl,hnb⟩:=h;lk
   have hB:∀DD:Ends,(∀(kvs':List (ay × V)) (H5:Hp),RS D H H5 mi M vm ts (ins++outs) kvs' (10+20*i+2*(m+1))->(∀p,Has kvs p->Has kvs' p)->Has kvs' (ts.getD i ("", ""),ts.getD (i+1+m) ("", ""))->Has kvs' (ts.getD (i+1+m) ("", ""),ts.getD i ("", ""))->DD.nx [some (.ref D.d),some (.ref o),some (.ref fs),some (.ref li),some (.ref lo),some (.ref mi),some (.ref M),some (.bl b),y8,some (.int (0+(i:Int))),some (.int ((0+(i:Int))+1+(m:Int))),some (.int r),some (.bl nb),y13] H5) ->
     lY (nQ (cT 6) (tU (dG (tOp (my K) (cT 5) (cT 9)) (dG (tOp (my K) (cT 5) (cT 10)) pq))) (tC (V.int 0))) (nQ (cT 6) (tU (dG (tOp (my K) (cT 5) (cT 10)) (dG (tOp (my K) (cT 5) (cT 9)) pq))) (tC (V.int 1))) DD [some (.ref D.d),some (.ref o),some (.ref fs),some (.ref li),some (.ref lo),some (.ref mi),some (.ref M),some (.bl b),y8,some (.int (0+(i:Int))),some (.int ((0+(i:Int))+1+(m:Int))),some (.int r),some (.bl nb),y13] G:=λDD q=>by
    refine s_seq (cV ?_);lk;refine i_ixL (SqL.of hm4) ai ?_;lk;refine i_ixL (SqL.of hm4) aj ?_;lk;refine dN rs4 DA HM t1 t2 ok12 (.inl rfl) (by omega) λH5 rs5=>?_;have hm5:=rs5.hm;obtain⟨u1,f1,t1⟩:=vat rs5.pm hil;obtain⟨u2,f2,t2⟩:=vat rs5.pm hjl;dsimp only;refine cV ?_;lk;refine i_ixL (SqL.of hm5) (v:=u2) (by rw[show (0+(i:Int))+1+(m:Int)=((i+1+m:Nat):Int) by omega];exact bQ f2) ?_;lk;refine i_ixL (SqL.of hm5) (v:=u1) (by rw[Int.zero_add];exact bQ f1) ?_;lk;refine dN rs5 DA HM t2 t1 ok21 (.inr rfl) (by omega) λH6 rs6=>?_;exact q _ H6 (rs6.up (by omega)) (λp h=>(h.put _ _).put _ _) ((Has.new _ _).put _ _) (Has.new _ _)
   have nope:∀(kvs':List (ay × V)) (H5:Hp),RS D H H5 mi M vm ts (ins++outs) kvs' (10+20*i+2*(m+1))->(∀p,Has kvs p->Has kvs' p)->(b=false->(ts.getD i ("", "")).1=(ts.getD (i+1+m) ("", "")).1->Has kvs' (ts.getD i ("", ""),ts.getD (i+1+m) ("", ""))/\Has kvs' (ts.getD (i+1+m) ("", ""),ts.getD i ("", ""))) ->
     ∃(kvs:List (ay × V)) (x8 x10 x11 x12 x13:Option V),[some (V.ref D.d),some (.ref o),some (.ref fs),some (.ref li),some (.ref lo),some (.ref mi),some (.ref M),some (.bl b),y8,some (.int (0+(i:Int))),some (.int ((0+(i:Int))+1+(m:Int))),some (.int r),some (.bl nb),y13]=[some (.ref D.d),some (.ref o),some (.ref fs),some (.ref li),some (.ref lo),some (.ref mi),some (.ref M),some (.bl b),x8,some (.int (0+(i:Int))),x10,x11,x12,x13]/\RS D H H5 mi M vm ts (ins++outs) kvs (10+20*i+2*(m+1))/\(b=true->∀j,j<ts.length->Has kvs (ts.getD (prv ts.length j) ("", ""),ts.getD j ("", "")))/\(b=false->∀i' j,(i'<i\/(i'=i/\j<i+1+(m+1)))->i'<j->j<ts.length->(ts.getD i' ("", "")).1=(ts.getD j ("", "")).1->Has kvs (ts.getD i' ("", ""),ts.getD j ("", ""))/\Has kvs (ts.getD j ("", ""),ts.getD i' ("", ""))):=λkvs' H5 rs5 keep new =>
    ⟨kvs',_,_,_,_,_,rfl,rs5,fun hb j hj=>keep _ (cov1 hb j hj),fun hb i' j h h2 h3 h4=>by
     by_cases e:i'=i/\j=i+1+m
     ·obtain⟨rfl,rfl⟩:=e;exact new hb h4
     have:=cov2 hb i' j (by omega) h2 h3 h4
     exact⟨keep _ this.1,keep _ this.2⟩⟩
   cases b with
   | false =>
    refine ifT rfl ?_
    cases nb with
    | true =>
     unfold tOr tB;exact ba rfl ⟨true,rfl,ifT rfl (ifT rfl (hB _ λkvs' H5 rs5 keep h1 h2=>nope kvs' H5 rs5 keep λ_ _=>⟨h1,h2⟩))⟩
    | false =>
    lk;have up0:=rs4.up (show 10+20*i+2*m<=10+20*i+2*(m+1) by omega);by_cases c3:r=0
    ·refine ifT (QG (by rw[c3])) ?_;exact hB _ λkvs' H5 rs5 keep h1 h2=>nope kvs' H5 rs5 keep λ_ _=>⟨h1,h2⟩
    refine ifF (QE λz=>c3 (V.int.inj z)) ?_;lk;exact nope kvs G up0 (λ_ h=>h) λ_ h=>absurd (hnb h) (by simp)
   | true =>
   refine ifF rfl ?_;lk;have up0:=rs4.up (show 10+20*i+2*m<=10+20*i+2*(m+1) by omega);by_cases c3:r=0
   ·refine ifT (QG (by rw[c3])) ?_;refine cV ?_;lk;refine i_ixL (SqL.of hm4) aj ?_;lk;refine i_ixL (SqL.of hm4) ai ?_;lk;refine dN rs4 DA HM t2 t1 ok21 (.inr rfl) (by omega) λH5 rs5=>?_;exact nope _ H5 (rs5.up (by omega)) (λp h=>h.put _ _) λh=>nomatch h
   refine ifF (QE λz=>c3 (V.int.inj z)) ?_;exact s_next (nope kvs G up0 (λ_ h=>h) λh=>nomatch h)
  obtain⟨kvs,y8,y10,y11,y12,y13,rfl,rs,cov1,cov2⟩:=pv;exact⟨kvs,_,_,_,_,_,_,rfl,rs.up (by omega),cov1,λhb i' j h1 h2 h3=>cov2 hb i' j (by omega) h2 h3⟩
 clear rs hm' cov1;obtain⟨kvs,y8,y9,y10,y11,y12,y13,rfl,rs,cov1,cov2⟩:=pv;have hm':=rs.hm
 have fullK:∀t∈ts,∃u,Has kvs (u,t):=λt ht=>by
  obtain⟨j,hj,rfl⟩:=XH ht;have ej:ts.getD j ("", "")=ts[j]:=by rw[QQ,Qd hj];rfl
  cases b with
  | true =>
   have:=cov1 rfl j hj;rw[ej]at this;exact⟨_,this⟩
  | false =>
  have tk:=tok _ ht;have oo:=wS tk;obtain⟨i',hi',e⟩:=XH (pm.mem_iff.mpr (bE.mpr oo.1));have ei:ts.getD i' ("", "")=ts[i']:=by rw[QQ,Qd hi'];rfl
  have ne:i'≠j:=λz=>by subst z;exact oo.2 e.symm
  have nm:ts[i'].1=ts[j].1:=by rw[e]
  rcases Nat.lt_or_ge i' j with h|h
  ·have:=cov2 rfl i' j (by omega) h hj (by rw[ei,ej];exact nm);rw[ei,ej]at this;exact⟨_,this.1⟩
  have:=cov2 rfl j i' (by omega) (by omega) hi' (by rw[ei,ej];exact nm.symm);rw[ei,ej]at this;exact⟨_,this.2⟩
 have n210:10+20*vm.length<=500:=by omega
 let I9:IvJ:=λO G=>∃(kvs:List (ay × V)),O=[some (.ref D.d),some (.ref o),some (.ref fs),some (.ref li),some (.ref lo),some (.ref mi),some (.ref M),some (.bl b),y8,y9,y10,y11,y12,y13]/\RS D H G mi M vm ts (ins++outs) kvs 600/\∀t∈ts,∃u,Has kvs (u,t);with_reducible refine cU I9 (λRR hJ=>?_) (λO G h=>?_)
 ·have L0:0<ts.length:=by omega
  have LL:ts.length-1<ts.length:=by omega
  obtain⟨v1,e1,t1⟩:=vat rs.pm L0;obtain⟨v2,e2,t2⟩:=vat rs.pm LL;obtain⟨b1,rfl,hb1⟩:=id t1;obtain⟨b2,rfl,hb2⟩:=id t2;have a0:atI vm 0=some (.ref b1):=bQ e1;have aL:atI vm (-1)=some (.ref b2):=by rw[lO (by omega),vl];exact e2
  lk;refine i_ixL (SqL.of hm') a0 ?_;lk;refine i_ixL (SqL.of hm') aL ?_;lk;refine qb (λ_=>?_) (λ_=>?_)
  ·lk;refine cG rs.kp (by omega) (by omega) λr2 H4 r20 r21 o4 kt4 kp4=>?_;have rs4:=rs.draw nmi nM o4 kt4 kp4;have t1:=t1.kt kt4;have t2:=t2.kt kt4;lk;refine qb (λ_=>?_) (λ_=>?_)
   ·refine cV ?_;lk;refine cG rs4.kp (by omega) (by omega) λr3 H5 r30 r31 o5 kt5 kp5=>?_;have rs5:=rs4.draw nmi nM o5 kt5 kp5;have t1:=t1.kt kt5;have t2:=t2.kt kt5;have hm5:=rs5.hm;lk;refine i_ixL (SqL.of hm5) a0 ?_;lk;refine i_ixL (SqL.of hm5) aL ?_;lk;refine dN rs5 DA HM t1 t2 ⟨tat L0,tat LL,tne L0 LL (by omega)⟩ (by omega) (by omega) λH6 rs6=>?_;exact hJ _ _ ⟨_,rfl,rs6.up (by omega),λt ht=>by obtain⟨u,h⟩:=fullK t ht;exact⟨u,h.put _ _⟩⟩
   exact s_next (hJ _ _ ⟨kvs,rfl,rs4.up (by omega),fullK⟩)
  exact s_next (hJ _ _ ⟨kvs,rfl,rs.up (by omega),fullK⟩)
 clear rs hm' cov1 cov2 fullK;obtain⟨kvs,rfl,rs,fullK⟩:=h;have f100:=lI rs.md w5;obtain⟨ps,eps⟩:=h_ (f:=tkR) (kvs.map (·.1)) rs.md.keys;have lps:ps.length=kvs.length:=by have:=congrArg List.length eps;rw[Qb,Qb]at this;exact this.symm
 lk;refine⟨M,_,.inl rs.md.h,trivial,λob=>?_⟩;refine cX (ba rfl ⟨M,ob,kvs,rfl,ah,λLc hLc=>?_⟩);have ktz:bI G (upd G M (.frz ob (.dT kvs))):=eM rs.md.h;refine oR (λ_=>true) (λH v kv=>∀p,kv.1=tkR p->ArA H v (ft kvs p)) hLc ah (by omega) (λ_ _ _ _ kt h p e=>(h p e).kt kt) (λkv bb H2 mkv tb S2 GG N hG _=>?_) (λH2 ys S2 hy pz=>?_)
 ·obtain⟨p,ek,pok,_⟩:=rs.md.ok kv mkv;have hp:Has kvs p:=Qr.mpr ⟨kv,mkv,ek⟩;obtain⟨_,ev,_⟩:=e9 rs.md hp;rw[ek]at tb;obtain⟨_,v1,v2,e,hb,h1,h2⟩:=PrA.of tb;cases e;refine⟨bb,_,rfl,SqT.of hb,rfl,_,_,rfl,aC ⟨_,_,rfl,aC ⟨rfl,⟨rfl,trivial⟩,i_yes (iteT ?_)⟩⟩⟩;lk;refine⟨by simp[sizeLine],λq hq=>?_⟩;ctx_has H2 q H3 S3 q3 aq hq;have h1:=h1.kt (av.tups S3);have h2:=h2.kt (av.tups S3);refine⟨M,.int (fO kvs p),rfl,.inr ⟨kvs,tkR p,q,.inr ⟨ob,S3 _ _ (S2 _ _ ah)⟩,rfl,PrA.tk ⟨q,v1,v2,rfl,q3,h1,h2⟩,ev.symm⟩,?_⟩;lk;refine⟨by simp[sizeLine],λc hc=>?_⟩;have Sc:=aN (o:=.tup [v1,v2,.int (fO kvs p)]) hc;refine hG rfl _ _ (S3.trans Sc) λp' e'=>?_;rw[<-dX (ek.symm.trans e')];exact⟨c,v1,v2,rfl,ah,h1.kt (av.tups Sc),h2.kt (av.tups Sc)⟩
 rw[cR]at pz;have ncm:Lc≠M:=λz=>by rw[z,ah]at hLc;cases hLc
 have hHL:H Lc=none:=by
  have e:G Lc=none:=by rw[am ncm]at hLc;exact hLc
  exact rs.kp.free e
 have S0:av G (back G M H2):=iP S2
 have ktb:bI H2 (back G M H2):=λb xs e=>by
  by_cases c:b=M
  ·rw[c,S2 _ _ ah]at e;cases e
  rw[bz c];exact e
 refine⟨S2 _ _ ah,?_⟩;have hyb:back G M H2 Lc=some (.lst ys):=by rw[bz ncm];exact hy
 have pab:=au (λ_ _ h=>ArA.kt ktb h) (fK pz eps);have rsb:=rs.same S0;generalize back G M H2=Hb at *;clear pz S2 hy ktz hLc S0 ktb;refine bC (gG hyb pab (by rw[Qb];omega) λp9 vs9 ars hp9 pars pmA so=>?_);ctx_has Hb p9 Hc Sc qc aq hp9;have H9:H p9=none:=rsb.kp.free hp9;have rsc:=rsb.same Sc;have hic:=rsc.kp.old _ _ hi ni;have hloc:=rsc.kp.old _ _ hlo nlo;obtain⟨fkv,hf1,hf3⟩:=id hf;have hfc:=rsc.kp.old _ _ hf1 nf;refine aC ?_;lk;refine⟨vQ,?_⟩;lk;refine cX (s_list (i_op (ba rfl (ba rfl (cJ hic hloc (by rw[Qb,Qb];omega) λLw hLw=>?_)))));rw[<-QO];ctx_has Hc Lw Hd Sd qd aq hLw;have qd:Hd Lw=some (.lst ((ins++outs).map V.str)):=qd;have hfd:=Sd _ _ hfc;have eb:bv ["name"] [("firsts", 2)] ([some (V.ref D.d),some (V.ref o),some (V.ref fs),some (V.ref li),some (V.ref lo),some (V.ref mi),some (V.ref M),some (V.bl b),y8,y9,y10,y11,y12,y13].set 13 (some (V.ref p9)))=[none,some (.ref fs)]:=rfl;refine⟨Lw,rfl,⟨_,SqL.of qd⟩,λDz hDz=>?_⟩;rw[eb];refine fq (I:=λv n=>v=V.str n) (λ_=>true) (λH v (n:Str)=>v=V.str (sgS (s n))) hDz qd (cI _) (by omega) (λH H' v x k h=>h) (λv x H2 ev mx S2 GG N hG _=>?_) (λHe y1 Se hy1 py1=>?_)
 ·subst ev;refine aC ⟨⟨rfl,trivial⟩,i_yes (iteT ?_)⟩;refine ba rfl (ba rfl ⟨fs,sg (s x),rfl,?_,hG rfl _ H2 (av.refl _) (jv _)⟩);have z:=cL.k (k:=Sum.inr x) (S2 _ _ hfd);rw[hf3 _ mx]at z;exact z
 rw[cR]at py1
 have hy1:He Dz=some (.lst (((ins++outs).map λn=>sgS (s n)).map V.str)):=by
  rw[hy1,cQ (f:=λn=>V.str (sgS (s n))) py1,XA];rfl
 have e0:("" : Str).length=0:=by decide +kernel
 have stz:=nH s (ins++outs);have ee:("" : Str)=Str.empty:=by decide +kernel
 refine bC (sL hy1 ?_ ?_)
 ·have z:=jJ (m:=1) ((ins++outs).map λn=>sgS (s n)) λn hn=>by
   obtain⟨x,_,rfl⟩:=Qr.mp hn;cases s x <;> decide +kernel
  rw[e0];rw[Qb]at z ⊢;omega
 rw[ee];generalize PySem.Txt.join Str.empty ((ins++outs).map λn=>sgS (s n))=zz at stz;have Sce:=Sd.trans Se;lk;refine⟨by simp[sizeLine],λa ha=>?_⟩;ctx_has He a Hf Sf qa aq ha;have Scf:=Sce.trans Sf;have kpf:Kp D H Hf:=rsc.kp.trans (Kp.of rsc.kp.dk Scf);have Ha:H a=none:=(rsc.kp.trans (Kp.of rsc.kp.dk Sce)).free ha;have atF:RgA Hf a li lo p9 vs9 ⟨ins,outs,zz,ars⟩:=⟨qa,Scf _ _ hic,Scf _ _ hloc,Scf _ _ qc,au (λ_ _ h=>ArA.kt (av.tups (Sc.trans Scf)) h) pars⟩;obtain⟨mk1,mk2⟩:=gN rs.md eps;refine k a p9 vs9 ⟨ins,outs,zz,ars⟩ Hf kpf atF rfl rfl Ha H9 ⟨nd,w1,w5,stz,?_,λx hx=>mk1 x (pmA.mem_iff.mp hx)⟩ (λt ht=>?_) ⟨low,o1,?_,?_⟩ so
 ·show ars.length<=_;rw[pmA.length_eq,Qb];omega
 ·obtain⟨u,hu⟩:=fullK t (pm.mem_iff.mpr (bE.mpr ht));unfold Has at hu;rw[eps]at hu;obtain⟨q,hq,e⟩:=Qr.mp hu;refine⟨ft kvs q,pmA.mem_iff.mpr (Qr.mpr ⟨q,hq,rfl⟩),?_⟩;rw[dX e];rfl
 ·show ars.length<=190;rw[pmA.length_eq,Qb];omega
 exact(pmA.map prA).nodup_iff.mpr mk2
end
theorem xB {trs:List (TE × TE)} (q:∀p,H p=none->jr trs O (upd H p (.dK [])) λps H2=>H2 p=some (.dK [])/\∃kvs:List (Key × V),ps=kvs.map (λkv=>(kV kv.1,kv.2))/\kvs.length<=15/\Q (.ref p) (upd H2 p (.dK (bS [] kvs)))):vg trs O H Q:=q
theorem cmD {K:PySem.W.Frag} {J:It} {g:TG} {te:TE} {tt:L2.TT} {QD:Hp->Prop} {D:Dk} (all:Bool) (xs:List α) (R:V->α->Prop) (DA:D.At H1) (hL:H1 L=none) (few:xs.length<=100000)
  (go:∀i H,Kp D H1 H->i<xs.length->J.go i H) (stop:∀H,Kp D H1 H->J.stop xs.length H)
  (hs:∀i x H v H',xs[i]?=some x->Kp D H1 H->J.yld i H v H'->∀(G:V->Hp->Prop) (N:Hp->Prop),(∀u H2,Kp D H H2->R u x->G u H2)->(all=false->∀H2,Kp D H H2->N H2)->g v σ0 H' λσ2 H2=>wk σ0 σ2/\tt σ2 H2 λb H3=>if b=true then te σ2 H3 G else N H3)
  (hd:∀H ys zs,Kp D H1 H->H L=some (.lst ys)->zs.Sublist xs->(all=true->zs=xs)->Paired R ys zs->QD H) :
  ∃W:Nat->Nat->Hp->List V->Prop,(∃m,W 0 m (upd H1 L (.lst [])) [])/\∀i m H ys,W i m H ys->H L=some (.lst ys)/\((J.stop i H/\QD H)\/(J.go i H/\∀x H',J.yld i H x H'->g x σ0 H' λσ2 H2=>wk σ0 σ2/\tt σ2 H2 λb H3 =>
   if b=true then te σ2 H3 λv H4=>H4 L=some (.lst ys)/\ys.length<sizeLine/\∃m',m'<m/\W (i+1) m' (upd H4 L (.lst (ys++[v]))) (ys++[v]) else ∃m',m'<m/\W (i+1) m' H3 ys)):=by
 have nL:¬D.own L:=aw DA hL;refine⟨λi m H ys=>m=xs.length-i/\i<=xs.length/\Kp D H1 H/\H L=some (.lst ys)/\∃zs,zs.Sublist (xs.take i)/\(all=true->zs=xs.take i)/\Paired R ys zs,⟨_,rfl,Q0 _,Kp.of DA (aN hL),ah,[],List.nil_sublist _,λ_=>rfl,.nil⟩,?_⟩;rintro i m H ys ⟨rfl,hi,kp,hy,zs,sb,al,p⟩;refine⟨hy,?_⟩;by_cases hl:i<xs.length
 ·refine .inr ⟨go i H kp hl,λv H' y=>?_⟩;have ex:xs[i]?=some xs[i]:=Qd hl;have hm:xs.length-(i+1)<xs.length-i:=by omega
  have st:xs.take i++[xs[i]]=xs.take (i+1):=by rw[XZ,ex];rfl
  refine hs i xs[i] H v H' ex kp y _ _ (λu H2 k2 ru=>?_) (λaf H2 k2=>?_)
  ·have yl:ys.length<=xs.length:=by
    rw[a_ p];refine QR sb.length_le ?_;rw[QA];omega
   have hy2:=k2.old _ _ hy nL;refine⟨hy2,Xx yl (Xx few (by decide)),_,hm,rfl,hl,Kp.fresh DA hL (kp.trans k2),ah,zs++[xs[i]],?_,λat_=>?_,bV p ru⟩
   ·rw[<-st];exact sb.append (List.Sublist.refl _)
   rw[<-st,al at_]
  exact⟨_,hm,rfl,hl,kp.trans k2,k2.old _ _ hy nL,zs,by rw[<-st];exact sb.trans (List.sublist_append_left _ _),(λat_=>Bool.noConfusion (af.symm.trans at_)),p⟩
 obtain rfl:i=xs.length:=by omega
 rw[Q1 (Qi _)]at sb al;exact .inl ⟨stop H kp,hd H ys zs kp hy sb al p⟩
def o0:List (Key × V):=[(Sum.inr "+", .str "0"),(Sum.inr "-", .str "1")]
theorem tP (z:Str) (h:z = "+" \/ z = "-"):∃b:Bool,aW (bS [] o0) (Sum.inr z:Key)=some (sg b):=by
 rcases h with rfl|rfl
 ·exact⟨false,by decide +kernel⟩
 exact⟨true,by decide +kernel⟩
def iO:Sp:=λvs H Q _=>∃(o:Addr) (vo:List V) (ts:List Tu) (ws:List Str),vs=[.ref o]/\H o=some (.lst vo)/\Paired (TuA H) vo ts/\ts.Perm (bD ws)/\ts.length<=1000 /\
 ∀f s H',av H H'->H f=none->gm H' f ws s->Q (.ref f) H'
theorem qk {ws:List Str} (nw:ws.Nodup) (nn:ns.Nodup) (sub:∀n∈ns,n∈ws) (pm:ts.Perm (bD ws)):(ts.filter λt=>decide (t.1∈ns)).Perm (bD ns):=by
 have nd:ts.Nodup:=pm.nodup_iff.mpr (fA nw);refine(List.perm_ext_iff_of_nodup (nd.filter _) (fA nn)).mpr λt=>?_;rw[List.mem_filter,bE,pm.mem_iff,bE,decide_eq_true_iff];exact⟨λh=>⟨h.2,h.1.2⟩,λh=>⟨⟨sub _ h.1,h.2⟩,h.1⟩⟩
theorem xR.in_ {f:Addr} {ws:List Str} (h:xR H f ws s) (sub:∀n∈ns,n∈ws):gm H f ns s:=by
 obtain⟨kvs,h1,_,h2⟩:=h;exact⟨kvs,h1,λn hn=>by rw[h2,Qp (sub n hn)]⟩
theorem gm.sub {H:Hp} {f:Addr} {ws ns:List Str} {s:Str->Bool} (h:gm H f ws s) (sub:∀n∈ns,n∈ws):gm H f ns s:=by
 obtain⟨kvs,h1,h2⟩:=h;exact⟨kvs,h1,λn hn=>h2 n (sub n hn)⟩
theorem gm.keep {f:Addr} {ws:List Str} (h:gm H f ws s) (k:∀o,H f=some o->H' f=some o):gm H' f ws s:=by
 obtain⟨kvs,h1,h2⟩:=h;exact⟨kvs,k _ h1,h2⟩
section
theorem jw:FnScope ["order", "firsts", "name", "way"] ["order"] (aA (top 48)):=by fin2
theorem mC {f:Addr} {fd:FuncData} (Fu:Fun K "_law_signs" "_law_signs" (top 48) f fd) (T:Txt K mg TT):FnOk P w K mg base CX0 1 f fd ["order"] iO:=by
 have S:=jw;refine Fu.ok S (by room) (λcdv A outer s H vs Q E hr h=>?_);obtain⟨o,vo,ts,ws,rfl,ho,pt,pm,t1000,k⟩:=h;have hu:=di hr;refine'⟨?_,?bb,?_⟩
 case bb =>
  walk_at "b";exact aZ 1 S.nd gR;walk_at "f";exact(cF (rq (pv 0) (kT gA ae) (λ_ _ _ q=>⟨1,rfl,q⟩)));exact(eJ rfl (aO (bu 2 S.nd) (aO (bu 3 S.nd) cq)));walk_at "p";exact(ce hu (pv 1) (pv 2) (cr hu (uk (kP aG aG (kP aG aG ue)) rfl rfl (by simp) (by decide)) (pv 3)) rfl);exact(bj (pv 1))
 x_go;lk;refine λf hf=>?_;ctx_has H f H1 S1 q1 aq hf;have ho1:=S1 _ _ ho;have vl:=a_ pt;lk;refine ba rfl ⟨o,vo,rfl,SqL.of ho1,λr hr1=>?_⟩;ctx_has H1 r H2 S2 q2 aq hr1;have S12:=S1.trans S2;have nrf:r≠f:=aI q1 hr1;refine⟨r,rfl,⟨_,SqL.of q2⟩,?_⟩;let I10:IvF:=λi O H'=>∃(kvs:List (Key × V)) (x2 x3:Option V),O=[some (.ref o),some (.ref f),x2,x3]/\av H H'/\H' r=some (.lst vo.reverse)/\H' f=some (.dK kvs)/\kvs.length<=i/\(∀n:Str,aW kvs (Sum.inr n:Key)=none\/∃b,aW kvs (Sum.inr n:Key)=some (sg b))/\∀t∈ts.reverse.take i,aW kvs (Sum.inr t.1:Key)≠none
 refine io (xs:=vo.reverse) I10
  ⟨[],_,_,rfl,S12,q2,S2 _ _ q1,Qi _,λn=>.inl rfl,λt ht=>by simp at ht⟩ (λi O H' _ pv=>?_) (λi v O H' hv pv=>?_) (λO H' pv=>?_)
 ·obtain⟨_,_,_,_,_,e,_⟩:=pv;exact SqL.of e
 ·obtain⟨kvs,x2,x3,rfl,S3,qr,qf,kl,k2,k3⟩:=pv;have il:=(Qf.mp hv).1;rw[List.length_reverse]at il;rw[List.getElem?_reverse (by omega)]at hv;obtain⟨t,et,ta⟩:=paired_get (pt) hv;obtain⟨b,rfl,hb⟩:=ta.kt (av.tups S3);have et':ts.reverse[i]?=some t:=by rw[List.getElem?_reverse (by omega),<-vl];exact et
  have tok:=bE.mp (pm.mem_iff.mp (QC et));refine⟨b,_,rfl,SqT.of hb,rfl,_,_,rfl,aC ⟨_,_,rfl,aC ⟨rfl,?_⟩⟩⟩;lk;refine cV ?_;lk;refine xB λp hp=>?_;refine⟨ah,o0,rfl,by decide,?_⟩;have Sp:av H' (upd (upd H' p (.dK [])) p (.dK (bS [] o0))):=bO (aN hp) hp;have hp':upd (upd H' p (.dK [])) p (.dK (bS [] o0)) p=some (.dK (bS [] o0)):=ah;generalize upd (upd H' p (.dK [])) p (.dK (bS [] o0))=H3 at Sp hp' ⊢;obtain⟨bb,gb⟩:=tP t.2 tok.2;lk;refine⟨p,sg bb,rfl,?_,?_⟩
  ·have z:=cL.k (k:=Sum.inr t.2) hp';rw[gb]at z;exact z
  lk;have qf3:=Sp _ _ qf;have qr3:=Sp _ _ qr;refine⟨f,_,rfl,eS.k (k:=Sum.inr t.1) qf3 (by omega),?_⟩;refine⟨bn kvs (Sum.inr t.1) (sg bb),_,_,rfl,bO (S3.trans Sp) hf,by rw[am nrf];exact qr3,ah,QR (br _ _ _) (Nat.succ_le_succ kl),λn=>?_,λu hu=>?_⟩
  ·rw[bt];by_cases c:(Sum.inr n:Key)=Sum.inr t.1
   ·rw[Qp c];exact .inr ⟨bb,rfl⟩
   rw[Qn c];exact k2 n
  rw[bt];by_cases c:(Sum.inr u.1:Key)=Sum.inr t.1
  ·rw[Qp c];exact λz=>nomatch z
  rw[Qn c];rw[XZ,et']at hu;rcases Qj.mp hu with hu|hu
  ·exact k3 u hu
  have:u=t:=by simpa using hu
  exact absurd (by rw[this]) c
 obtain⟨kvs,x2,x3,rfl,S3,qr,qf,kl,k2,k3⟩:=pv;rw[Q1 (by rw[List.length_reverse,List.length_reverse];omega)]at k3;lk;refine k f (λn=>decide (aW kvs (Sum.inr n:Key)=some (sg true))) H' S3 hf ⟨kvs,qf,λn hn=>?_⟩;have h1:=k3 (n, "+") (List.mem_reverse.mpr (pm.mem_iff.mpr (bE.mpr ⟨hn,.inl rfl⟩)));rcases k2 n with e|⟨b,e⟩
 ·exact absurd e h1
 show _=some (sg (decide (aW kvs (Sum.inr n:Key)=some (sg true))));rw[e];cases b
 ·rw[QE (by decide +kernel)]
 rw[QG rfl]
end
structure MkOk (as:List Arc) (ms:List Int):Prop where
 len:ms.length=as.length
 m:∀m∈ms,m=0\/m=1
theorem fZ:∀(ms:List Int),Paired (λv m=>v=V.int m) (ms.map V.int) ms
 | []=>.nil
 | _::ms=>.cons rfl (fZ ms)
section
end
structure Gd (r:Rg):Prop where
 ok:RgOk r
 full:BP r
 x:RgX r
 so:(r.arcs.map tkA).Pairwise leF
def vi:Sp:=λvs H Q _=>∃(D:Dk) (m:Int),vs=[.ref D.d,.int m]/\D.At H/\3<=m/\m<=5 /\
 ∀R a1 li1 lo1 l1 as1 (r1:Rg) a2 li2 lo2 l2 as2 (r2:Rg) (ws:List Str) H',Kp D H H'->H R=none->H' R=some (.lst [.ref a1,.ref a2])->RgA H' a1 li1 lo1 l1 as1 r1->RgA H' a2 li2 lo2 l2 as2 r2->Gd r1->Gd r2->(∀n∈r1.outs,n∉r2.outs)->ws.length<=5->(∀n∈r1.ws,n∈ws)->(∀n∈r2.ws,n∈ws)->(∀n∈ws,n∉cA)->(∀b∈[li1,lo1,l1],¬D.own b)->Q (.ref R) H'
theorem RgA.kp {as:List V} (DA:D.At H) (k:Kp D H H') (n:∀b∈[li,lo,l],¬D.own b) (h:RgA H a li lo l as r):RgA H' a li lo l as r :=
 have kt:=Kp.tups DA k
 ⟨kt _ _ h.ha,k.old _ _ h.hi (n _ (by simp)),k.old _ _ h.ho (n _ (by simp)),k.old _ _ h.arcs.h (n _ (by simp)),au (λ_ _ q=>q.kt kt) h.arcs.p⟩
theorem RgA.upd' {as:List V} {o:HO} (hL:H L=some (.lst ys)) (n:∀b∈[li,lo,l],b≠L) (h:RgA H a li lo l as r):RgA (upd H L o) a li lo l as r :=
 have kt:bI H (upd H L o):=bX hL
 ⟨kt _ _ h.ha,by rw[am (n _ (by simp))];exact h.hi,by rw[am (n _ (by simp))];exact h.ho,by rw[am (n _ (by simp))];exact h.arcs.h,au (λ_ _ q=>q.kt kt) h.arcs.p⟩
structure TwI (D:Dk) (H H':Hp) (wl ow Lr o fs:Addr) (ws:List Str) (os:List Int) (vo:List V) (ts:List Tu) (s:Str->Bool) (as:List V) (rs:List Rg):Prop where
 kp:Kp D H H'
 hw:H' wl=some (.lst (ws.map V.str))
 how:H' ow=some (.lst (os.map V.int))
 ho:H' o=some (.lst vo)
 pt:Paired (TuA H') vo ts
 pm:ts.Perm (bD ws)
 fs_:gm H' fs ws s
 nn:∀b∈[wl,ow,o,fs],¬D.own b/\b≠Lr
 nL:¬D.own Lr
 hl:H' Lr=some (.lst as)
 pr:Paired (λv r=>∃a li lo l asx,v=.ref a/\RgA H' a li lo l asx r/\∀b∈[li,lo,l],¬D.own b/\b≠Lr) as rs
section
variable {D:Dk} {H H' H2:Hp} {wl ow Lr o fs:Addr} {ws:List Str} {os:List Int} {vo:List V} {ts:List Tu} {s:Str->Bool} {as:List V} {rs:List Rg}
theorem TwI.draw (i:TwI D H H' wl ow Lr o fs ws os vo ts s as rs) (k:Kp D H' H2):TwI D H H2 wl ow Lr o fs ws os vo ts s as rs :=
 have kt:=Kp.tups i.kp.dk k
 ⟨i.kp.trans k,k.old _ _ i.hw (i.nn _ (by simp)).1,k.old _ _ i.how (i.nn _ (by simp)).1,k.old _ _ i.ho (i.nn _ (by simp)).1,au (fun _ _ q=>q.kt kt) i.pt,i.pm,i.fs_.keep fun u e=>k.old _ _ e (i.nn _ (by simp)).1,i.nn,i.nL,k.old _ _ i.hl i.nL,
  au (λ_ _ ⟨a,li,lo,l,asx,e,h,n⟩=>⟨a,li,lo,l,asx,e,h.kp i.kp.dk k λb hb=>(n b hb).1,n⟩) i.pr⟩
theorem TwI.same (i:TwI D H H' wl ow Lr o fs ws os vo ts s as rs) (S:av H' H2):TwI D H H2 wl ow Lr o fs ws os vo ts s as rs:=i.draw (Kp.of i.kp.dk S)
theorem TwI.turns {o2 fs2:Addr} {vo2:List V} {ts2:List Tu} {s2:Str->Bool} (i:TwI D H H' wl ow Lr o fs ws os vo ts s as rs) (ho:H' o2=some (.lst vo2)) (pt:Paired (TuA H') vo2 ts2) (pm:ts2.Perm (bD ws)) (f:gm H' fs2 ws s2) (n:∀b∈[o2,fs2],¬D.own b/\b≠Lr):TwI D H H' wl ow Lr o2 fs2 ws os vo2 ts2 s2 as rs :=
 ⟨i.kp,i.hw,i.how,ho,pt,pm,f,fun b hb=>by
  simp only[Qw,QY,or_false]at hb;rcases hb with rfl|rfl|rfl|rfl
  ·exact i.nn _ (by simp)
  ·exact i.nn _ (by simp)
  ·exact n _ (by simp)
  exact n _ (by simp),i.nL,i.hl,i.pr⟩
theorem TwI.ring {a li lo l:Addr} {asx:List V} {r:Rg} (DA:D.At H) (hL:H Lr=none) (i:TwI D H H' wl ow Lr o fs ws os vo ts s as rs) (h:RgA H' a li lo l asx r) (n:∀b∈[li,lo,l],¬D.own b/\b≠Lr):TwI D H (upd H' Lr (.lst (as++[.ref a]))) wl ow Lr o fs ws os vo ts s (as++[.ref a]) (rs++[r]) :=
 have kt:bI H' (upd H' Lr (.lst (as++[.ref a]))):=bX i.hl;have f:∀b∈[wl,ow,o,fs],∀u,H' b=some u->upd H' Lr (.lst (as++[.ref a])) b=some u:=λb hb u e=>by rw[am (i.nn b hb).2];exact e
 ⟨Kp.fresh DA hL i.kp,f _ (by simp) _ i.hw,f _ (by simp) _ i.how,f _ (by simp) _ i.ho,au (fun _ _ q=>q.kt kt) i.pt,i.pm,i.fs_.keep fun u e=>f _ (by simp) u e,i.nn,i.nL,ah,
  bV (au (λ_ _ ⟨a,li,lo,l,asx,e,h,n⟩=>⟨a,li,lo,l,asx,e,h.upd' i.hl λb hb=>(n b hb).2,n⟩) i.pr) ⟨a,li,lo,l,asx,rfl,h.upd' i.hl λb hb=>(n b hb).2,n⟩⟩
end
structure RgG (ws:List Str) (os:List Int) (j:Nat) (r:Rg):Prop where
 g:Gd r
 sub:∀n∈r.ws,n∈ws
 own:∀n∈r.outs,(n,(j:Int))∈ws.zip os
theorem oE {α:Type}:∀{ys:List V} {zs:List α},Paired (λv (_:α)=>∃r:Int,v=V.int r) ys zs->∃os:List Int,ys=os.map V.int/\os.length=zs.length
 | _,_,.nil=>⟨[],rfl,rfl⟩
 | _,_,.cons ⟨r,e⟩ t=>by
  obtain⟨os,h1,h2⟩:=oE t;exact⟨r::os,by rw[e,h1];rfl,by rw[Q2,Q2,h2]⟩
theorem tK {ws:List Str} {os:List Int} (l:os.length=ws.length):(ws.zip os).map (·.1)=ws:=by
 rw[List.map_fst_zip (by omega)]
theorem ng {ws:List Str} {os:List Int} (nd:ws.Nodup) (l:os.length=ws.length) {n:Str} {x y:Int} (h1:(n,x)∈ws.zip os) (h2:(n,y)∈ws.zip os):x=y:=by
 obtain⟨i,hi⟩:=XQ h1;obtain⟨j,hj⟩:=XQ h2;obtain⟨a1,a2⟩:=XV.mp hi;obtain⟨b1,b2⟩:=XV.mp hj;obtain⟨l1,e1⟩:=Qf.mp a1;obtain⟨l2,e2⟩:=Qf.mp b1;have:i=j:=(List.getElem_inj nd).mp (e1.trans e2.symm);subst this;rw[a2]at b2;exact QN b2
section
theorem mf:FnScope ["deck", "most", "wires", "order", "firsts", "rings", "owners", "k", "outputs", "inputs"] ["deck", "most"] (aA (top 47)):=by fin2
theorem xb {f:Addr} {fd:FuncData} (Fu:Fun K "_law_two" "_law_two" (top 47) f fd) (T:Txt K mg TT) (f_law_take:Fn P w K mg base "_law_take" ["deck", "many"] 1 eE) (f_law_wire_names:Fn P w K mg base "_law_wire_names" ["deck", "many"] 2 ky) (f_law_order:Fn P w K mg base "_law_order" ["deck", "wires"] 2 qV) (f_law_signs:Fn P w K mg base "_law_signs" ["order"] 1 iO) (f_law_ring:Fn P w K mg base "_law_ring" ["deck", "order", "firsts", "inputs", "outputs"] 2 kw):FnOk P w K mg base CX0 3 f fd ["deck", "most"] vi:=by
 have S:=mf;refine Fu.ok S (by room) (λcdv A outer s H vs Q E hr h=>?_);obtain⟨D,m,rfl,DA,m3,m5,k⟩:=h;have hu:=di hr;refine'⟨?_,?bb,?_⟩
 case bb =>
  walk_at "b";exact aZ 2 S.nd (bi f_law_wire_names hr (aa (pv 0) (aa (aP dB ae (bi f_law_take hr (aa (pv 0) (aa (aP gW (pv 1) ae) ad) ak))) ad) ak));exact(jC (bi f_law_order hr (aa (pv 0) (aa (pv 2) ad ak) ak)) (eJ rfl (aO (bu 3 S.nd) (aO (bu 4 S.nd) cq))));exact aZ 5 S.nd (pe_lst ad);exact aZ 6 S.nd (aP bJ (pe_lst (aa ae (aa ae ad aD) aD)) (iT "k" [("deck", 0)] (bU (by rfl) T.n_range (aa (aP gW (aQ aV (by rfl) T.n_len Xe (aa (pv 2) ad ak)) ae) ad)) (λ_ _ _ _=>(bi f_law_take hr (aa (pv 1) (aa ae ad aD) ak)))));walk_at "f";exact(bU (by rfl) T.n_range (aa ae ad aD));exact(bu 7 S.nd);walk_at "p";exact(nZ (j:=8) S.nd rfl (by z_go) (tgs:=["name", "owner"]) (cap:=[("k", 7)]) rfl ⟨rfl,rfl,rfl,rfl,rfl,rfl⟩ (n0 (by rfl) T.n_zip (aa (pv 2) (aa (pv 6) ad ak) ak)) (λ_ _ _ _=>(gq (K:=K) (n:=2) rfl rfl (aO (bK (i:=0) (show List.Nodup [("name" : Str),("owner" : Str),("k" : Str)] by decide +kernel) rfl (by z_go)) (aO (bK (i:=1) (show List.Nodup [("name" : Str),("owner" : Str),("k" : Str)] by decide +kernel) rfl (by z_go)) cq)))) (λ_ _ _ _=>(eZ (aE cW (pv 1) (pv 2) (aY _)))) (λ_ _ _ _=>(pv 0)));exact(nZ (j:=9) S.nd rfl (by z_go) (tgs:=["name", "owner"]) (cap:=[("k", 7),("deck", 0)]) rfl ⟨rfl,rfl,rfl,rfl,rfl,rfl⟩ (n0 (by rfl) T.n_zip (aa (pv 2) (aa (pv 6) ad ak) ak)) (λ_ _ _ _=>(gq (K:=K) (n:=2) rfl rfl (aO (bK (i:=0) (show List.Nodup [("name" : Str),("owner" : Str),("k" : Str),("deck" : Str)] by decide +kernel) rfl (by z_go)) (aO (bK (i:=1) (show List.Nodup [("name" : Str),("owner" : Str),("k" : Str),("deck" : Str)] by decide +kernel) rfl (by z_go)) cq)))) (λ_ _ _ _=>(eZ (PW.pt (cN (aE gX (pv 1) (pv 2) (aY _)) (cc (aE og (bi f_law_take hr (aa (pv 3) (aa ae ad aD) ak)) ae (aY _))))))) (λ_ _ _ _=>(pv 0)));exact(aE cW (bi f_law_take hr (aa (pv 0) (aa ae ad aD) ak)) ae (aY _));exact aZ 3 S.nd (az aM (bi f_law_order hr (aa (pv 0) (aa (pv 2) ad ak) ak)) ae);exact aZ 4 S.nd (bi f_law_signs hr (aa (pv 3) ad ak));exact(cE (cP QV XD XG bL (pv 5) (aa (bi f_law_ring hr (aa (pv 0) (aa (pv 3) (aa (pv 4) (aa (pv 9) (aa (pv 8) ad ak) ak) ak) ak) ak)) ad be)));exact(bj (pv 5))
 x_go;have kp0:Kp D H H:=Kp.of DA (av.refl _);lk;refine cG kp0 (by omega) (by omega) λr H1 r0 r1 _ _ kp1=>?_;lk;refine⟨D,(2+r).toNat,by rw[show (((2+r).toNat:Nat):Int)=2+r by omega],kp1.dk,by omega,λwl ws H2 wsl hwl qw wnd wlow kp2 wsp=>?_⟩;have HW:H wl=none:=kp1.free hwl;have nwl:¬D.own wl:=aw DA HW;have kp2:=kp1.trans kp2;lk;refine⟨D,wl,ws,rfl,kp2.dk,qw,nwl,wnd,by omega,λa o fs vo ts s H3 kp3 qa ho hfs nof qo pt pm fsa=>?_⟩;have HO:H o=none:=kp2.free ho;have HF:H fs=none:=kp2.free hfs;have no:¬D.own o:=aw DA HO;have nf:¬D.own fs:=aw DA HF;have qw3:=kp3.old _ _ qw nwl;have kp3:=kp2.trans kp3;refine⟨a,_,rfl,SqT.of qa,rfl,_,_,rfl,aC ⟨_,_,rfl,aC ⟨rfl,?_⟩⟩⟩;lk;refine⟨by simp[sizeLine],λLr hLr=>?_⟩;ctx_has H3 Lr H4 S4 q4 aq hLr;have HLr:H Lr=none:=kp3.free hLr;have nLr:¬D.own Lr:=aw DA HLr;have kp4:=kp3.trans (Kp.of kp3.dk S4);have w2:2<=ws.length:=by omega
 have w5:ws.length<=5:=by omega
 obtain⟨fkv,f1,_,f3⟩:=id fsa;have neo:o≠Lr:=(aI qo hLr).symm;have nef:fs≠Lr:=(aI f1 hLr).symm;have new_:wl≠Lr:=(aI qw3 hLr).symm;have fs4:gm H4 fs ws s:=(fsa.in_ λn h=>h).keep λu e=>S4 _ _ e;have qw4:=S4 _ _ qw3;have qo4:=S4 _ _ qo;have pt4:=au (λ_ _ h=>TuA.kt (av.tups S4) h) pt;clear S4 hLr f1 f3 fsa qo pt qw3 hfs ho qa qw hwl kp2 kp1 kp0;lk;refine⟨by simp[sizeLine],λp1 hp1=>?_⟩;ctx_has H4 p1 H5 S5 q5 aq hp1;have qw5:=S5 _ _ qw4;have np1:¬D.own p1:=aw DA (kp4.free hp1);have kp5:=kp4.trans (Kp.of kp4.dk S5);refine cX ?_;lk;rw[Qb];refine⟨by omega,by omega,λp2 hp2=>?_⟩;rw[show ((ws.length:Int)-2).toNat=ws.length-2 by omega];have np2:¬D.own p2:=aw DA (kp5.free hp2);refine cmD (K:=K) (D:=D) true (List.range (ws.length-2)) (λv (_:Nat)=>∃r:Int,v=.int r) kp5.dk hp2 (by rw[List.length_range];omega) (λi H _ hi=>by rw[List.length_range]at hi;exact hi) (λH _=>by rw[List.length_range];exact Qi _) (λi x H6 v H7 ex kpi y G N hG _=>?_) (λH6 ys zs kp6 hy _ al py=>?_)
 ·obtain⟨rfl,rfl⟩:=y;refine aC ⟨⟨rfl,trivial⟩,i_yes (iteT ?_)⟩;lk;refine cG (Kp.of kpi.dk (av.refl _)) (by omega) (by omega) λr H8 r0 r1 _ _ kp8=>?_;exact hG _ H8 kp8 ⟨r,rfl⟩
 have al:=al rfl;subst al;obtain⟨os,eos,ol⟩:=oE py;subst eos;rw[List.length_range]at ol;have q56:=kp6.old _ _ q5 np1;have kp56:=kp5.trans kp6;refine cJ q56 hy (by rw[Qb];show 2+_<=_;omega) λow how=>?_;rw[show ([V.int 0,V.int 1]++os.map V.int:List V)=(0::1::os).map V.int from rfl];have wos:(0::1::os:List Int).length=ws.length:=by show os.length+1+1=_;omega
 have o01:∃z1 z2 zs,ws=z1::z2::zs:=by
  cases ws with
  | nil=>simp at w2
  | cons z1 ws=>cases ws with
   | nil=>simp at w2
   | cons z2 ws=>exact⟨_,_,_,rfl⟩
 have has:∀j:Nat,j<2->∃n,(n,(j:Int))∈ws.zip (0::1::os):=λj hj=>by
  obtain⟨z1,z2,zs,e⟩:=o01;rw[e];have:j=0\/j=1:=by omega
  rcases this with rfl|rfl
  ·exact⟨z1,by simp⟩
  exact⟨z2,by simp⟩
 generalize (0::1::os:List Int)=oss at wos has;ctx_has H6 ow H7 S7 q7 aq how;have now:¬D.own ow:=aw DA (kp56.free how);have nL6:=kp6.old _ _ (S5 _ _ q4) nLr;have kp7:=kp56.trans (Kp.of kp6.dk S7);have k47:Kp D H4 H7:=(Kp.of kp4.dk S5).trans (kp6.trans (Kp.of kp6.dk S7))
 have tw:TwI D H H7 wl ow Lr o fs ws oss vo ts s [] [] :=
  ⟨kp7,k47.old _ _ qw4 nwl,q7,k47.old _ _ qo4 no,au (fun _ _ h=>TuA.kt (Kp.tups kp4.dk k47) h) pt4,pm,fs4.keep fun u e=>k47.old _ _ e nf,fun b hb=>by
   simp only[Qw,QY,or_false]at hb;rcases hb with rfl|rfl|rfl|rfl
   ·exact⟨nwl,new_⟩
   ·exact⟨now,aI nL6 how⟩
   ·exact⟨no,neo⟩
   exact⟨nf,nef⟩,nLr,k47.old _ _ q4 nLr,.nil⟩
 clear kp3 kp4 kp5 kp6 kp56 kp7 k47 S5 S7 nL6 q7 q4 q5 q56 hy hp2 hp1 how pt4 fs4 qw4 qo4 qw5 py;lk;refine⟨by omega,by omega,?_⟩;let I11:IvF:=λi O H'=>∃(o fs:Addr) (vo:List V) (ts:List Tu) (s:Str->Bool) (as:List V) (rs:List Rg) (x7 x8 x9:Option V),O=[some (.ref D.d),some (.int m),some (.ref wl),some (.ref o),some (.ref fs),some (.ref Lr),some (.ref ow),x7,x8,x9]/\TwI D H H' wl ow Lr o fs ws oss vo ts s as rs/\rs.length=i/\∀j r,rs[j]?=some r->RgG ws oss j r
 refine bY (n:=2) I11
  ⟨o,fs,vo,ts,s,[],[],_,_,_,rfl,tw,rfl,λj r e=>by simp at e⟩ (λi O H8 hi pv=>?_) (λO H8 pv=>?_)
 ·clear tw no neo nef nf;obtain⟨o,fs,vo,ts,s,as,rs,x7,x8,x9,rfl,tw,rl,rg⟩:=pv;refine aC ?_;lk;have hw8:=tw.hw;have how8:=tw.how;refine cX (i_cons (ba rfl (i_cons (ba rfl (bC ⟨wl,ow,false,false,rfl,⟨_,SqL.of hw8⟩,⟨_,SqL.of how8⟩,λLo hLo=>?_⟩)))));refine xG (λp:Str × Int=>decide (p.2=(i:Int))) (λH v p=>v=V.str p.1) hLo hw8 how8 (cI ws) (fZ oss) wos.symm (by omega) (λH H' v x k h=>h) (λv x u m' b H' ia im mx S' hb G N hG hN=>?_) (λH9 ys S9 hy9 py9=>?_)
  ·subst ia im;refine⟨b,_,rfl,SqT.of hb,rfl,_,_,rfl,aC ⟨_,_,rfl,aC ⟨rfl,⟨rfl,trivial⟩,?_⟩⟩⟩;lk;by_cases c:m'=(i:Int)
   ·refine ifT (QG (by rw[c,Int.zero_add])) ?_;lk;exact hG (QG c) _ H' (av.refl _) rfl
   refine ifF (QE (λe=>c (by have:=V.int.inj e;omega))) ?_;exact hN (QE c) H' (av.refl _)
  have eo:ys=(((ws.zip oss).filter λp:Str × Int=>decide (p.2=(i:Int))).map (·.1)).map V.str:=by rw[cQ py9,XA];rfl
  obtain⟨outs,houts⟩:∃outs,outs=((ws.zip oss).filter λp:Str × Int=>decide (p.2=(i:Int))).map (·.1):=⟨_,rfl⟩;rw[<-houts]at eo;subst eo;have nLo:¬D.own Lo:=aw tw.kp.dk hLo;have nLoL:Lo≠Lr:=aI tw.hl hLo;have tw9:=tw.same S9;clear py9;have hw9:=tw9.hw;have how9:=tw9.how;refine aC ?_;lk;refine cX (i_cons (ba rfl (i_cons (ba rfl (bC ⟨wl,ow,false,false,rfl,⟨_,SqL.of hw9⟩,⟨_,SqL.of how9⟩,λLi hLi=>?_⟩)))));have nw9:¬D.own wl:=(tw.nn _ (by simp)).1;have no9:¬D.own ow:=(tw.nn _ (by simp)).1;have lz:(ws.zip oss).length=ws.length:=by rw[List.length_zip];omega
  refine cmD (K:=K) (D:=D) false (ws.zip oss) (λv p=>v=V.str p.1/\p.2≠(i:Int)) tw9.kp.dk hLi (by omega) (λj H kj hj=>?_) (λH kj=>?_) (λj x Hx v Hy ex kj y G N hG hN=>?_) (λHz ys zs kz hyz sb _ pz=>?_)
  ·rw[lz]at hj;have q1:Sqv false H wl (ws.map V.str):=kj.old _ _ hw9 nw9;have q2:Sqv false H ow (oss.map V.int):=kj.old _ _ how9 no9;exact⟨⟨_,_,q1.of,by rw[Qy,Qd hj];rfl⟩,_,_,q2.of,by rw[Qy,Qd (by omega)];rfl⟩
  ·have q1:Sqv false H wl (ws.map V.str):=kj.old _ _ hw9 nw9;exact⟨_,q1.of,by rw[Qb,lz];exact Qi _⟩
  ·obtain⟨Tz,v',w',hT,e1,e2,y1,y2⟩:=y;have q1:Sqv false Hx wl (ws.map V.str):=kj.old _ _ hw9 nw9;have q2:Sqv false Hx ow (oss.map V.int):=kj.old _ _ how9 no9;obtain⟨n,u⟩:=x;obtain⟨g1,g2⟩:=XV.mp ex;have y1:=y1 _ q1.of;have y2:=y2 _ q2.of;rw[Qy,g1]at y1;rw[Qy,g2]at y2;cases y1;cases y2;subst e1 e2;have kj2:Kp D Hx (upd Hx Tz (.tup [V.str n,V.int u])):=Kp.of kj.dk (aN hT);refine⟨Tz,_,rfl,SqT.of ah,rfl,_,_,rfl,aC ⟨_,_,rfl,aC ⟨rfl,⟨rfl,rfl,trivial⟩,?_⟩⟩⟩;generalize upd Hx Tz (.tup [V.str n,V.int u])=Hu at kj2 ⊢;lk;by_cases c:u=(i:Int)
   ·refine ifF (by rw[c,Int.zero_add];simp) ?_;exact hN rfl _ kj2
   refine ifT (by rw[QE (λe=>c (by have:=V.int.inj e;omega))];rfl) ?_;lk;refine cG kj2 (by omega) (by omega) λr Hv r0 r1 _ _ kv=>?_;lk;by_cases c2:0<r
   ·refine ifT (QG c2) ?_;lk;exact hG _ Hv kv ⟨rfl,c⟩
   refine ifF (QE c2) ?_;exact hN rfl _ kv
  have ei:ys=(zs.map (·.1)).map V.str:=by rw[cQ (au (λ_ _ h=>h.1) pz),XA];rfl
  have inot:∀p∈zs,p.2≠(i:Int):=λp hp=>by
   obtain⟨j,hj⟩:=XQ hp;obtain⟨_,_,h⟩:=bW pz hj;exact h.2
  subst ei;clear pz;have nLi:¬D.own Li:=aw tw9.kp.dk hLi;have nLiL:Li≠Lr:=aI tw9.hl hLi;have twz:=tw9.draw kz;have hyo:=kz.old _ _ hy9 nLo;have zf:=tK wos;have insub:(zs.map (·.1)).Sublist ws:=by have:=sb.map (·.1);rwa [zf]at this
  have outsub:outs.Sublist ws:=by rw[houts];have:=(List.filter_sublist (p:=λp:Str × Int=>decide (p.2=(i:Int))) (l:=ws.zip oss)).map (·.1);rwa [zf]at this
  have outin:∀n,n∈outs↔(n,(i:Int))∈ws.zip oss:=λn=>by
   rw[houts]
   constructor
   ·intro h;obtain⟨⟨n',u⟩,h1,e⟩:=Qr.mp h;obtain⟨h2,h3⟩:=List.mem_filter.mp h1;have h3:u=(i:Int):=XX h3;have e:n'=n:=e;rw[<-e,<-h3];exact h2
   intro h;exact Qr.mpr ⟨_,List.mem_filter.mpr ⟨h,QG rfl⟩,rfl⟩
  have nodi:∀n∈zs.map (·.1),n∉outs:=λn h h2=>by
   obtain⟨⟨n',u⟩,h1,e⟩:=Qr.mp h;have e:n'=n:=e;subst e;exact inot _ h1 (ng wnd wos (sb.subset h1) ((outin _).mp h2))
  have nd:(zs.map (·.1)++outs).Nodup:=Xj.mpr ⟨insub.nodup wnd,outsub.nodup wnd,λa ha b hb e=>nodi a ha (e▸hb)⟩
  have sub:∀n∈zs.map (·.1)++outs,n∈ws:=λn h=>by
   rcases Qj.mp h with h|h
   ·exact insub.subset h
   exact outsub.subset h
  have o1:1<=outs.length:=by
   obtain⟨n,hn⟩:=has i hi;exact List.length_pos_of_mem ((outin n).mpr hn)
  have l5:(zs.map (·.1)++outs).length<=5:=by
   have:=Bf.eI _ _ nd sub;omega
  clear insub outsub nodi inot houts sb;generalize zs.map (·.1)=ins at *;refine aC ?_;let I12:IvJ:=λO G=>∃(o fs:Addr) (vo:List V) (ts:List Tu) (s:Str->Bool),O=[some (.ref D.d),some (.int m),some (.ref wl),some (.ref o),some (.ref fs),some (.ref Lr),some (.ref ow),some (.int (0+(i:Int))),some (.ref Lo),some (.ref Li)]/\TwI D H G wl ow Lr o fs ws oss vo ts s as rs/\G Lo=some (.lst (outs.map V.str))/\G Li=some (.lst (ins.map V.str));with_reducible refine cU I12 (λRR hJ=>?_) (λO G h=>?_)
  ·lk;refine cG twz.kp (by omega) (by omega) λr Ha r0 r1 oa kta kpa=>?_;have kza:Kp D Hz Ha:=⟨oa,kpa.dk⟩;have twa:=twz.draw kza;have hoa:=oa _ _ hyo nLo;have hia:=oa _ _ hyz nLi;lk;by_cases c:r=7
   ·refine ifT (QG (by rw[c])) ?_;lk;refine⟨D,wl,ws,rfl,twa.kp.dk,twa.hw,nw9,wnd,by omega,λa2 o2 fs2 vo2 ts2 s2 Hb kb qa2 ho2 _ _ qo2 pt2 pm2 _=>?_⟩;have no2:¬D.own o2:=aw twa.kp.dk ho2;have neo2:o2≠Lr:=aI twa.hl ho2;have twb:=twa.draw kb;have hob:=kb.old _ _ hoa nLo;have hib:=kb.old _ _ hia nLi;lk;refine⟨o2,vo2,ts2,ws,rfl,qo2,pt2,pm2,?_,λf3 s3 Hc Sc hf3 fs3=>?_⟩
    ·rw[pm2.length_eq];unfold bD;rw[Qh,Qb,Qb];omega
    have nf3:¬D.own f3:=aw twb.kp.dk hf3;have nef3:f3≠Lr:=aI twb.hl hf3;refine hJ _ _ ⟨o2,f3,vo2,ts2,s3,rfl,(twb.same Sc).turns (Sc _ _ qo2) (au (λ_ _ h=>TuA.kt (av.tups Sc) h) pt2) pm2 fs3 λb hb=>?_,Sc _ _ hob,Sc _ _ hib⟩;simp only[Qw,QY,or_false]at hb;rcases hb with rfl|rfl
    ·exact⟨no2,neo2⟩
    exact⟨nf3,nef3⟩
   refine ifF (QE (λe=>c (V.int.inj e))) ?_;exact s_next (hJ _ _ ⟨o,fs,vo,ts,s,rfl,twa,hoa,hia⟩)
  clear twz hyo hyz tw9 tw kz hy9 hw8 how8 hw9 how9;obtain⟨o,fs,vo,ts,s,rfl,tw,hyo,hyz⟩:=h;have al:=a_ tw.pr;have hlr:=tw.hl;lk;refine⟨D,o,fs,Li,Lo,vo,ts,s,ins,outs,rfl,tw.kp.dk,tw.ho,tw.pt,?_,qk wnd nd sub tw.pm,tw.fs_.sub sub,hyz,hyo,(tw.nn _ (by simp)).1,(tw.nn _ (by simp)).1,nLi,nLo,nd,o1,l5,λn hn=>wlow n (sub n hn),λra rla ras rg' Hr kr atr ei eo hra hrl ok full x so=>?_⟩
  ·rw[tw.pm.length_eq];unfold bD;rw[Qh,Qb,Qb];omega
  have nrl:¬D.own rla:=aw tw.kp.dk hrl;have nerl:rla≠Lr:=aI tw.hl hrl;have twr:=tw.draw kr;lk;refine ik twr.hl (by omega) ?_;refine⟨o,fs,vo,ts,s,_,rs++[rg'],_,_,_,rfl,twr.ring DA HLr atr λb hb=>?_,by rw[Qh,rl];rfl,λj r e=>?_⟩
  ·simp only[Qw,QY,or_false]at hb;rcases hb with rfl|rfl|rfl
   ·exact⟨nLi,nLiL⟩
   ·exact⟨nLo,nLoL⟩
   exact⟨nrl,nerl⟩
  by_cases c:j<rs.length
  ·rw[Xd c]at e;exact rg j r e
  rw[QZ (by omega)]at e
  have j0:j=rs.length:=by
   have:=(Qf.mp e).1;rw[XY]at this;omega
  subst j0;rw[Nat.sub_self]at e;cases e;have ews:rg'.ws=ins++outs:=by unfold Rg.ws;rw[ei,eo]
  exact⟨⟨ok,full,x,so⟩,λn hn=>sub n (by rw[<-ews];exact hn),λn hn=>by rw[rl];exact(outin n).mp (by rw[<-eo];exact hn)⟩
 obtain⟨o,fs,vo,ts,s,as,rs,x7,x8,x9,rfl,tw,rl,rg⟩:=pv
 obtain⟨ra,rb,rfl⟩:∃ra rb,rs=[ra,rb]:=by
  cases rs with
  | nil=>cases rl
  | cons ra rs=>cases rs with
   | nil=>cases rl
   | cons rb rs=>cases rs with
    | nil=>exact⟨_,_,rfl⟩
    | cons _ _=>simp at rl
 obtain⟨v1,v2,rfl,h1,h2⟩:∃v1 v2,as=[v1,v2]/\(∃a li lo l asx,v1=V.ref a/\RgA H8 a li lo l asx ra/\∀b∈[li,lo,l],¬D.own b/\b≠Lr)/\∃a li lo l asx,v2=V.ref a/\RgA H8 a li lo l asx rb/\∀b∈[li,lo,l],¬D.own b/\b≠Lr:=by
  have:=tw.pr
  cases this with
  | cons p1 t=>cases t with
   | cons p2 t=>cases t;exact⟨_,_,rfl,p1,p2⟩
 obtain⟨a1,li1,lo1,l1,as1,rfl,at1,no1⟩:=h1;obtain⟨a2,li2,lo2,l2,as2,rfl,at2,_⟩:=h2;have g1:=rg 0 ra rfl;have g2:=rg 1 rb rfl;lk;refine k Lr a1 li1 lo1 l1 as1 ra a2 li2 lo2 l2 as2 rb ws H8 tw.kp HLr tw.hl at1 at2 g1.g g2.g (λn h1 h2=>?_) w5 g1.sub g2.sub wsp λb hb=>(no1 b hb).1;have:=ng wnd wos (g1.own n h1) (g2.own n h2);omega
end
def sgB (row:Str) (i:Nat):Bool:=row.cps.getD i 0==49
theorem lg [DecidableEq α] {xs:List α} (nd:xs.Nodup) {x:α} (h1:xs[i]?=some x) (h2:xs[j]?=some x):i=j:=by
 obtain⟨l1,e1⟩:=Qf.mp h1;obtain⟨l2,e2⟩:=Qf.mp h2;have a:=nd.idxOf_getElem i l1;have b:=nd.idxOf_getElem j l2;rw[e1]at a;rw[e2]at b;exact a.symm.trans b
theorem t4 {y:Str} (hy:StOk n y) (hz:StOk n z) (h:∀i,i<n->sgB y i=sgB z i):y=z:=by
 have ly:=hy.len;have lz:=hz.len
 have e:y.cps=z.cps:=by
  refine Array.ext (ly.trans lz.symm) λi h1 h2=>?_;have:=h i (by omega);unfold sgB at this;have g1:y.cps.getD i 0=y.cps[i]:=by simp[Array.getD,h1]
  have g2:z.cps.getD i 0=z.cps[i]:=by simp[Array.getD,h2]
  rw[g1,g2]at this;rcases hy.signs _ (Array.getElem_mem_toList h1) with a|a <;> rcases hz.signs _ (Array.getElem_mem_toList h2) with b|b <;> rw[a,b]at this ⊢ <;> simp at this
 cases y;cases z;cases e;rfl
structure JArc (as bs:List Arc):Prop where
 so:(bs.map tkA).Pairwise leF
 nd:(bs.map prA).Nodup
 sub:∀b∈bs,b∈as
 min:∀a∈as,∃b∈bs,prA b=prA a/\b.mark<=a.mark
theorem rH {bs:List Arc} (nd:(bs.map prA).Nodup) (hx:x∈bs) (hy:y∈bs) (e:prA x=prA y):x=y:=by
 obtain⟨i,hi⟩:=XQ hx;obtain⟨j,hj⟩:=XQ hy;have h1:(bs.map prA)[i]?=some (prA x):=by rw[Qy,hi];rfl
 have h2:(bs.map prA)[j]?=some (prA x):=by rw[Qy,hj,e];rfl
 have:=lg nd h1 h2;subst this;rw[hi]at hj;exact QN hj
theorem JArc.mem {bs:List Arc} (h:JArc as bs) (b:Arc):b∈bs↔b∈as/\∀a∈as,prA a=prA b->b.mark<=a.mark:=by
 constructor
 ·intro hb;refine⟨h.sub b hb,λa ha e=>?_⟩;obtain⟨b',hb',e',le⟩:=h.min a ha;rw[<-rH h.nd hb' hb (e'.trans e)];exact le
 rintro⟨ha,le⟩;obtain⟨b',hb',e',le'⟩:=h.min b ha;have l2:=le b' (h.sub b' hb') e'
 have:b'=b:=by
  obtain⟨o,t,m⟩:=b';obtain⟨o',t',m'⟩:=b;have e1:o=o':=congrArg Prod.fst e';have e2:t=t':=congrArg Prod.snd e'
  have e3:m=m':=by
   have l2:m'<=m:=l2;have le':m<=m':=le';omega
  rw[e1,e2,e3]
 rw[<-this];exact hb'
def p4 (a:Arc):List Key:=[.inr a.one.1,.inr a.one.2,.inr a.two.1,.inr a.two.2]
theorem oJ (a:Arc):Tm.flat (tkA a)=p4 a++[.inl a.mark]:=rfl
theorem yn:p4 x=p4 y↔prA x=prA y:=by
 constructor
 ·intro h;have h:([Sum.inr x.one.1,Sum.inr x.one.2,Sum.inr x.two.1,Sum.inr x.two.2]:List Key)=[Sum.inr y.one.1,Sum.inr y.one.2,Sum.inr y.two.1,Sum.inr y.two.2]:=h;simp only[List.cons.injEq,Sum.inr.injEq,and_true]at h;obtain⟨h1,h2,h3,h4⟩:=h;exact Prod.ext (Prod.ext h1 h2) (Prod.ext h3 h4)
 intro h;have h1:x.one=y.one:=congrArg Prod.fst h;have h2:x.two=y.two:=congrArg Prod.snd h;unfold p4;rw[h1,h2]
theorem xM (x y:Arc):Tm.lb (Tm.flat (tkA x)) (Tm.flat (tkA y))=(Tm.lb (p4 x) (p4 y) || (decide (p4 x=p4 y)&&Tm.lb [.inl x.mark] [.inl y.mark])):=by
 rw[oJ,oJ];exact Tm.jK rfl
theorem uI (h:leF (tkA x) (tkA y)) (e:prA x=prA y):x.mark<=y.mark:=by
 have h:Tm.lb (Tm.flat (tkA y)) (Tm.flat (tkA x))=false:=h;rw[xM,yn.mpr e,QG rfl,Bool.true_and,Bool.or_eq_false_iff]at h;have h:=h.2;by_cases c:x.mark<=y.mark
 ·exact c
 exfalso
 have:Tm.lb [.inl y.mark] [.inl x.mark]=true:=by
  show (decide (y.mark<x.mark) || _)=true;rw[QG (by omega)];rfl
 rw[this]at h;cases h
structure Kept (ss:List Arc) (i:Nat) (ks:List Arc):Prop where
 so:(ks.map tkA).Pairwise leF
 nd:(ks.map prA).Nodup
 sub:∀b∈ks,b∈ss.take i
 min:∀a∈ss.take i,∃b∈ks,prA b=prA a/\b.mark<=a.mark
 last:∀a,ss[i-1]?=some a->0<i->∃b,ks.getLast?=some b/\prA b=prA a
 nil:i=0->ks=[]
theorem Kept.start (ss:List Arc):Kept ss 0 []:=⟨.nil,.nil,λb h=>(nomatch h),λa h=>by simp at h,λa _ h=>absurd h (by decide),λ_=>rfl⟩
theorem Kept.done {ks:List Arc} (pm:ss.Perm as) (k:Kept ss ss.length ks):JArc as ks:=by
 have s:=k.sub;have m:=k.min;rw[List.take_length]at s m;exact⟨k.so,k.nd,λb hb=>pm.mem_iff.mp (s b hb),λa ha=>m a (pm.mem_iff.mpr ha)⟩
theorem Kept.old {ks:List Arc} {a b:Arc} (so:(ss.map tkA).Pairwise leF) (k:Kept ss i ks) (ha:ss[i]?=some a) (hb:ks.getLast?=some b) (e:prA b=prA a):Kept ss (i+1) ks:=by
 have tk:ss.take (i+1)=ss.take i++[a]:=by rw[XZ,ha];rfl
 have il:=(Qf.mp ha).1;have mb:b∈ks:=List.mem_of_getLast? hb;refine⟨k.so,k.nd,λx hx=>by rw[tk];exact QH _ (k.sub x hx),λx hx=>?_,λx hx _=>?_,λh=>by cases h⟩
 ·rw[tk]at hx;rcases Qj.mp hx with h|h
  ·exact k.min x h
  rw[QF.mp h];refine⟨b,mb,e,uI ?_ e⟩;obtain⟨j,hj⟩:=XQ (k.sub b mb)
  have jl:j<i:=by
   have:=(Qf.mp hj).1;rw[QA]at this;omega
  rw[List.getElem?_take_of_lt jl]at hj;have so:=Xs.mp so;have:=XU.mp so j i (by omega) il jl;rw[(Qf.mp hj).2,(Qf.mp ha).2]at this;exact this
 have:x=a:=by
  rw[X4,ha]at hx;exact(QN hx).symm
 rw[this];exact⟨b,hb,e⟩
def bP (ms ns:List Str):List Str:=ns.foldl (λacc n=>if n∈ms\/n∈acc then acc else acc++[n]) []
theorem lD {ms:List Str}:∀(ns acc:List Str) (z:Str),z∈ns.foldl (λacc n=>if n∈ms\/n∈acc then acc else acc++[n]) acc↔z∈acc\/(z∈ns/\z∉ms)
 | [],acc,z=>by simp
 | n::ns,acc,z=>by
  rw[List.foldl_cons,lD ns _ z];by_cases c:n∈ms\/n∈acc
  ·rw[Qp c,Qw]
   constructor
   ·rintro(h|⟨h,g⟩)
    ·exact .inl h
    exact .inr ⟨.inr h,g⟩
   rintro(h|⟨h|h,g⟩)
   ·exact .inl h
   ·subst h;exact .inl (c.resolve_left g)
   exact .inr ⟨h,g⟩
  rw[Qn c,Qw,Qj,QF]
  constructor
  ·rintro((h|h)|⟨h,g⟩)
   ·exact .inl h
   ·subst h;exact .inr ⟨.inl rfl,λg=>c (.inl g)⟩
   exact .inr ⟨.inr h,g⟩
  rintro(h|⟨h|h,g⟩)
  ·exact .inl (.inl h)
  ·exact .inl (.inr h)
  exact .inr ⟨h,g⟩
theorem eL {ms:List Str}:∀(ns acc:List Str),acc.Nodup->(ns.foldl (λacc n=>if n∈ms\/n∈acc then acc else acc++[n]) acc).Nodup
 | [],acc,h=>h
 | n::ns,acc,h=>by
  rw[List.foldl_cons];by_cases c:n∈ms\/n∈acc
  ·rw[Qp c];exact eL ns acc h
  rw[Qn c];refine eL ns _ (Xj.mpr ⟨h,by simp,?_⟩);intro a ha b hb e;rw[QF]at hb;subst hb;subst e;exact c (.inr ha)
theorem dg:z∈bP ms ns↔z∈ns/\z∉ms:=by
 unfold bP;rw[lD];simp
theorem dP (ms ns:List Str):(bP ms ns).Nodup:=eL ns [] List.nodup_nil
theorem mQ (ms ns:List Str) (n:Str):bP ms (ns++[n])=if n∈ms\/n∈bP ms ns then bP ms ns else bP ms ns++[n]:=by
 unfold bP;rw[List.foldl_append];rfl
theorem jN {td ty tx:TE} (q:td O H λx H1=>∃a,x=.ref a/\IsD H1 a/\ty O H1 λy H2=>tx O H2 λz H3=>∃o,cL H3 a y o/\Q (o.getD z) H3):qO td ty tx O H Q:=q
theorem cM {k:Key}:∀{qs kvs:List (Key × V)},k∉qs.map (·.1)->aW (bx kvs qs) k=aW kvs k
 | [],kvs,_=>rfl
 | q::qs,kvs,h=>by
  simp only[Qu,Qw,not_or]at h;show aW (bx (bn kvs q.1 q.2) qs) k=_;rw[cM h.2,bt,Qn h.1]
theorem dL {k:Key} {v:V}:∀{qs kvs:List (Key × V)},(qs.map (·.1)).Nodup->(k,v)∈qs->aW (bx kvs qs) k=some v
 | [],kvs,_,h=>nomatch h
 | q::qs,kvs,nd,h=>by
  rw[Qu,Q4]at nd;show aW (bx (bn kvs q.1 q.2) qs) k=_;rcases Qw.mp h with e|h
  ·subst e;rw[cM nd.1,bt,Qp rfl]
  exact dL nd.2 h
theorem rZ (kvs:List (Key × V)) (k:Key) (v:V) (h:(kvs.map (·.1)).Nodup):((bn kvs k v).map (·.1)).Nodup:=by
 cases e:aW kvs k with
 | none =>
  rw[kM v e,QO];exact jF h (eW e)
 | some u =>
 have:(bn kvs k v).map (·.1)=kvs.map (·.1):=by
  unfold bn;rw[b9,e];rw[Qp (show (some u).isSome=true from rfl),XA];refine List.map_congr_left λx _=>?_;show (if x.1=k then (x.1,v) else x).1=x.1
  split <;> rfl
 rw[this];exact h
theorem fN:∀(qs kvs:List (Key × V)),(kvs.map (·.1)).Nodup->((bx kvs qs).map (·.1)).Nodup
 | [],kvs,h=>h
 | q::qs,kvs,h=>fN qs (bn kvs q.1 q.2) (rZ kvs q.1 q.2 h)
theorem e_:∀(qs kvs:List (Key × V)),bS kvs qs=bx kvs qs
 | [],kvs=>rfl
 | q::qs,kvs=>e_ qs (bn kvs q.1 q.2)
theorem fW (ns:List Str) (z:Str):(bR ns z).map (·.1)=ns.map Sum.inr:=by
 unfold bR;rw[XA];have e:((λx:Key × V=>x.1)∘λp:Str × Nat=>((Sum.inr p.1:Key),dM z p.2))=(λp:Str × Nat=>(Sum.inr p.1:Key)):=rfl;rw[e];have e2:(λp:Str × Nat=>(Sum.inr p.1:Key))=(Sum.inr:Str->Key)∘Prod.fst:=rfl;rw[e2,<-XA,List.zipIdx_map_fst]
theorem iU (h:ns.Nodup):(ns.map (Sum.inr:Str->Key)).Nodup:=by
 induction ns with
 | nil=>exact List.nodup_nil
 | cons a r ih =>
 rw[Q4]at h;rw[Qu,Q4];refine⟨λm=>?_,ih h.2⟩;obtain⟨x,hx,e⟩:=Qr.mp m;cases e;exact h.1 hx
structure SgD (kvs:List (Key × V)) (ns:List Str) (f:Str->Bool):Prop where
 nd:(kvs.map (·.1)).Nodup
 val:∀n∈ns,aW kvs (Sum.inr n:Key)=some (sg (f n))
 out:∀k:Key,k∉ns.map Sum.inr->aW kvs k=none
theorem wy {a b:Bool} (h:sg a=sg b):a=b:=by
 cases a <;> cases b <;> first|rfl|(exfalso;revert h;decide +kernel)
def rwB (ws:List Str) (z:Str) (n:Str):Bool:=sgB z (ws.idxOf n)
theorem SgD.zip (nd:ns.Nodup) (st:StOk ns.length z):SgD (bx [] (bR ns z)) ns (rwB ns z):=by
 refine⟨fN _ _ List.nodup_nil,λn hn=>?_,λk hk=>?_⟩
 ·have hi:ns.idxOf n<ns.length:=X7 hn;have e:=ig hn
  have hm:((Sum.inr n:Key),dM z (ns.idxOf n))∈bR ns z:=by
   unfold bR;refine Qr.mpr ⟨(n,ns.idxOf n),?_,rfl⟩;rw[List.mem_zipIdx_iff_getElem?];exact e
  rw[dL (by rw[fW];exact iU nd) hm,nO st hi];rfl
 rw[cM (by rw[fW];exact hk)];rfl
theorem SgD.mem {kvs:List (Key × V)} (d:SgD kvs ns f) {k:Key} (h:k∈kvs.map (·.1)):∃n∈ns,k=Sum.inr n:=by
 by_cases c:k∈ns.map (Sum.inr:Str->Key)
 ·obtain⟨n,hn,e⟩:=Qr.mp c;exact⟨n,hn,e.symm⟩
 exact absurd h (eW (d.out k c))
theorem SgD.len {kvs:List (Key × V)} {ws:List Str} (d:SgD kvs ns f) (sub:∀n∈ns,n∈ws):kvs.length<=ws.length:=by
 have:=Bf.eI (kvs.map (·.1)) (ws.map (Sum.inr:Str->Key)) d.nd λk hk=>by
  obtain⟨n,hn,rfl⟩:=d.mem hk;exact Qr.mpr ⟨n,sub n hn,rfl⟩
 rwa [Qb,Qb]at this
theorem jm {k:Key}:∀{qs kvs:List (Key × V)},(qs.map (·.1)).Nodup->aW (bx kvs qs) k=(aW qs k).or (aW kvs k)
 | [],kvs,_=>rfl
 | q::qs,kvs,nd=>by
  rw[Qu,Q4]at nd;show aW (bx (bn kvs q.1 q.2) qs) k=_;rw[jm nd.2,bt];by_cases c:q.1=k
  ·rw[bA (p:=q) c,Qp c.symm]
   have:aW qs k=none:=by
    cases e:aW qs k with
    | none=>rfl
    | some u=>exact absurd (eX e) (by rw[<-c];exact nd.1)
   rw[this];rfl
  rw[bB (p:=q) c,Qn (λz=>c z.symm)]
theorem SgD.merge {kvs more:List (Key × V)} {g:Str->Bool} (d:SgD kvs ns f) (e:SgD more ms g):SgD (bS kvs more) (ns++ms) (λn=>if n∈ms then g n else f n):=by
 rw[e_];refine⟨fN _ _ d.nd,λn hn=>?_,λk hk=>?_⟩
 ·rw[jm e.nd];by_cases c:n∈ms
  ·rw[e.val n c,Qp c];rfl
  rw[e.out _ (λz=>c (by obtain⟨x,hx,q⟩:=Qr.mp z;cases q;exact hx)),Qn c];exact d.val n ((Qj.mp hn).resolve_right c)
 rw[QO,Qj,not_or]at hk;rw[jm e.nd,e.out k hk.2];exact d.out k hk.1
def mj (ns:List Str) (f:Str->Bool):Str:=PySem.Txt.join Str.empty (ns.map λn=>sgS (f n))
theorem pE (f:Str->Bool) (ns:List Str):(mj ns f).cps.toList=ns.map λn=>if f n=true then 49 else 48:=by
 unfold mj;rw[i0,XA]
 induction ns with
 | nil=>rfl
 | cons n ns ih =>
 rw[Qu,List.flatten_cons,ih,Qu];cases h:f n
 ·have:((λx:Str=>x.cps.toList)∘λn=>sgS (f n)) n=[48]:=by show (sgS (f n)).cps.toList=_;rw[h];decide +kernel
  rw[this];rfl
 have:((λx:Str=>x.cps.toList)∘λn=>sgS (f n)) n=[49]:=by show (sgS (f n)).cps.toList=_;rw[h];decide +kernel
 rw[this];rfl
theorem nR {f:Str->Bool} {n:Str} (h:n∈ns):sgB (mj ns f) (ns.idxOf n)=f n:=by
 have hi:=X7 h;have g:∀(w:Str) k,w.cps.getD k 0=w.cps.toList.getD k 0:=λw k=>by simp[Array.getD_eq_getD_getElem?,QQ]
 unfold sgB;rw[g,pE,QQ,Qy,ig h];cases e:f n <;> simp[e]
theorem t8:StOk ns.length (mj ns f):=nH f ns
theorem wE (nd:ns.Nodup) (st:StOk ns.length z) (h:∀n∈ns,f n=rwB ns z n):mj ns f=z:=by
 refine t4 t8 st λi hi=>?_;have m:ns[i]∈ns:=XT _;have a:=nR (f:=f) m;rw[h _ m]at a;unfold rwB at a;rw[nd.idxOf_getElem i hi]at a;exact a
def ju:Sp:=λvs H Q _=>∃(d l:Addr) (kvs:List (Key × V)) (ns:List Str) (f:Str->Bool),vs=[.ref d,.ref l]/\H d=some (.dK kvs)/\H l=some (.lst (ns.map V.str))/\(∀n∈ns,aW kvs (Sum.inr n:Key)=some (sg (f n)))/\ns.length<=100/\∀H',av H H'->Q (.str (mj ns f)) H'
def qW:Sp:=λvs H Q _=>∃(l m:Addr) (ns ms:List Str),vs=[.ref l,.ref m]/\H l=some (.lst (ns.map V.str))/\H m=some (.lst (ms.map V.str))/\ns.length<=1000 /\
 ∀q H',av H H'->H q=none->H' q=some (.lst ((bP ms ns).map V.str))->Q (.ref q) H'
def Agr (r1 r2:Rg):Prop:=∀n∈r1.ws,n∈r2.ws->rwB r1.ws r1.z n=rwB r2.ws r2.z n
section
theorem pD:FnScope ["signs", "wires"] ["signs", "wires"] (aA (top 10)):=by fin2
theorem rV {f:Addr} {fd:FuncData} (Fu:Fun K "row_of" "row_of" (top 10) f fd) (T:Txt K mg TT):FnOk P w K mg base CX0 1 f fd ["signs", "wires"] ju:=by
 have S:=pD;refine Fu.ok S (by room) (λcdv A outer s H vs Q E hr h=>?_);obtain⟨d,l,kvs,ns,f,rfl,hd,hl,val,few,k⟩:=h;have hu:=di hr;have big:10000<sizeLine:=by decide
 refine⟨_,(pss_one (bj (cP PySem.F.plainAttrs_str PySem.F.slot_str_join PySem.F.type_str_join ou aG (aa (iT "wire" [("signs", 0)] (cF (pv 1)) (λ_ _ _ _=>(cr hu (pv 1) (pv 0)))) ad)))),?_⟩;x_go;lk;refine⟨vQ,?_⟩;lk;refine cX (s_list (ba rfl ⟨l,rfl,⟨_,SqL.of hl⟩,λD hD=>?_⟩));refine fq (I:=λv n=>v=V.str n) (λ_=>true) (λH v (n:Str)=>v=V.str (sgS (f n))) hD hl (cI _) (by omega) (λH H' v x k h=>h) (λv x H2 ev mx S2 G N hG _=>?_) (λHe y1 Se hy1 py1=>?_)
 ·subst ev;refine aC ⟨⟨rfl,trivial⟩,i_yes (iteT ?_)⟩;refine ba rfl (ba rfl ⟨d,sg (f x),rfl,?_,hG rfl _ H2 (av.refl _) (jv _)⟩);have z:=cL.k (k:=Sum.inr x) (S2 _ _ hd);rw[val _ mx]at z;exact z
 rw[cR]at py1
 have hy1:He D=some (.lst ((ns.map λn=>sgS (f n)).map V.str)):=by
  rw[hy1,cQ (f:=λn=>V.str (sgS (f n))) py1,XA];rfl
 have e0:("" : Str).length=0:=by decide +kernel
 have ee:("" : Str)=Str.empty:=by decide +kernel
 refine bC (sL hy1 ?_ ?_)
 ·have z:=jJ (m:=1) (ns.map λn=>sgS (f n)) λn hn=>by
   obtain⟨x,_,rfl⟩:=Qr.mp hn;cases f x <;> decide +kernel
  rw[e0];rw[Qb]at z ⊢;omega
 rw[ee];exact k _ Se
theorem gL:FnScope ["names", "made", "left", "name"] ["names", "made"] (aA (top 13)):=by fin2
theorem uA {f:Addr} {fd:FuncData} (Fu:Fun K "inputs_left" "inputs_left" (top 13) f fd) (T:Txt K mg TT):FnOk P w K mg base CX0 1 f fd ["names", "made"] qW:=by
 have S:=gL;refine Fu.ok S (by room) (λcdv A outer s H vs Q E hr h=>?_);obtain⟨l,m,ns,ms,rfl,hl,hm,few,k⟩:=h;have hu:=di hr;have big:10000<sizeLine:=by decide
 refine'⟨?_,?bb,?_⟩
 case bb =>
  walk_at "b";exact aZ 2 S.nd (pe_lst ad);walk_at "f";exact(cF (pv 0));exact(bu 3 S.nd);walk_at "p";exact(PW.pt (cN (aE dA (pv 3) (pv 1) rfl) (cc (aE dA (pv 3) (pv 2) rfl))));exact(cE (cP QV XD XG bL (pv 2) (aa (pv 3) ad ak)));exact(bj (pv 2))
 x_go;lk;refine⟨by simp[sizeLine],λq hq=>?_⟩;ctx_has H q H1 S1 q1 aq hq;lk;refine⟨l,rfl,⟨_,SqL.of (S1 _ _ hl)⟩,?_⟩
 have ll:∀i,(bP ms (ns.take i)).length<=i:=λi=>by
  refine QR (Bf.eI _ (ns.take i) (dP _ _) λn h=>(dg.mp h).1) ?_;rw[QA];omega
 refine io (xs:=ns.map V.str) (λi O H'=>∃(x3:Option V),O=[some (.ref l),some (.ref m),some (.ref q),x3]/\av H H'/\H' q=some (.lst ((bP ms (ns.take i)).map V.str)))
  ⟨_,rfl,S1,q1⟩ (λi O H' _ pv=>?_) (λi v O H' hv pv=>?_) (λO H' pv=>?_)
 ·obtain⟨_,_,S2,_⟩:=pv;exact SqL.of (S2 _ _ hl)
 ·obtain⟨x3,rfl,S2,hq2⟩:=pv;rw[Qy]at hv;obtain⟨n,hn,rfl⟩:=Xy.mp hv;have il:=(Qf.mp hn).1;have l2:=ll i;have tk:ns.take (i+1)=ns.take i++[n]:=by rw[XZ,hn];rfl
  rw[tk,mQ];refine aC ?_;lk;refine⟨m,_,rfl,.inl (SqL.of (S2 _ _ hm)),rfl,bZ _,_,rfl,?_⟩;by_cases c1:n∈ms
  ·refine ifF (by rw[bH.mpr c1];rfl) ?_;refine ifF rfl ?_;rw[Qp (.inl c1)];exact s_next ⟨_,rfl,S2,hq2⟩
  refine ifT (by rw[show inV (.str n) (ms.map V.str)=false from Xu.mpr λz=>c1 (bH.mp z)];rfl) ?_;lk;refine⟨q,_,rfl,.inl (SqL.of hq2),rfl,bZ _,_,rfl,?_⟩;by_cases c2:n∈bP ms (ns.take i)
  ·refine ifF (by rw[bH.mpr c2];rfl) ?_;rw[Qp (.inr c2)];exact s_next ⟨_,rfl,S2,hq2⟩
  refine ifT (by rw[show inV (.str n) ((bP ms (ns.take i)).map V.str)=false from Xu.mpr λz=>c2 (bH.mp z)];rfl) ?_;rw[Qn (λh=>h.elim c1 c2)];lk;refine ik hq2 (by rw[Qb];omega) ?_;exact⟨_,rfl,bO S2 hq,by rw[ah,QO];rfl⟩
 obtain⟨x3,rfl,S2,hq2⟩:=pv;rw[Qb,List.take_length]at hq2;lk;exact k q H' S2 hq hq2
theorem kH:FnScope ["one", "other", "signs", "name", "sign"] ["one", "other"] (aA (top 50)):=by fin2
end
def nN:Sp:=λvs H Q _=>∃(l:Addr) (ys:List V) (as:List Arc) (ws:List Str),vs=[.ref l]/\H l=some (.lst ys)/\Paired (ArA H) ys as/\(∀a∈as,ArOk ws a)/\ws.length<=5/\as.length<=1000 /\
 ∀q (zs:List V) (bs:List Arc) H',av H H'->H q=none->H' q=some (.lst zs)->Paired (ArA H') zs bs->(bs.map tkA).Pairwise leF->(bs.map prA).Nodup->bs.length<=100->(∀b∈bs,b∈as)->(∀a∈as,∃b∈bs,prA b=prA a/\b.mark<=a.mark)->Q (.ref q) H'
section
theorem gM:FnScope ["arcs", "marks", "one", "other", "mark"] ["arcs"] (aA (top 33)):=by fin2
theorem rY {f:Addr} {fd:FuncData} (Fu:Fun K "arcs_joined" "arcs_joined" (top 33) f fd) (T:Txt K mg TT):FnOk P w K mg base CX0 1 f fd ["arcs"] nN:=by
 have S:=gM;refine Fu.ok S (by room) (λcdv A outer s H vs Q E hr h=>?_);obtain⟨l,ys,as,ws,rfl,hl,pa,aok,w5,a1000,k⟩:=h;have hu:=di hr;have big:10000<sizeLine:=by decide
 have yl:=a_ pa;refine'⟨?_,?bb,?_⟩
 case bb =>
  walk_at "b";exact aZ 1 S.nd kU;walk_at "f";exact(cF (pv 0));exact(eJ rfl (aO (bu 2 S.nd) (aO (bu 3 S.nd) (aO (bu 4 S.nd) cq))));walk_at "p";exact(ce hu (pv 1) (pe_tup (aa (pv 2) (aa (pv 3) ad ak) ak)) (aQ (i_ rfl) (by rfl) T.n_min PyProof.Rows.boot_min (aa (pv 4) (aa (kW hu (pv 1) (pe_tup (aa (pv 2) (aa (pv 3) ad ak) ak)) (pv 4) ⟨rfl,rfl,rfl,rfl⟩) ad be) ak)) rfl)
  with_reducible refine' bj ?e
  case e =>
   exact(aQ (eP rfl hu) (by rfl) T.n_sorted PyProof.Rows.boot_sorted (aa (rE (iT "turns" [("marks", 1)] (kQ (pv 1)) (λ_ _ _ _=>(pe_tup (aa (az (cZ (K:=K) rfl) (pv 0) ae) (aa (az (cZ (K:=K) rfl) (pv 0) ae) (aa (cr hu (pv 1) (pv 0)) ad))))))) ad))
 x_go;lk;refine λM hM=>?_;ctx_has H M H1 S1 q1 aq hM;lk;refine⟨l,rfl,⟨_,SqL.of (S1 _ _ hl)⟩,?_⟩;let I13:IvF:=λi O H'=>∃(kvs:List (ay × V)) (x2 x3 x4:Option V),O=[some (.ref l),some (.ref M),x2,x3,x4]/\av H H'/\MkD H' M ws kvs i/\(∀(p:Pr) (m:Int),aW kvs (tkR p)=some (.int m)->∃a∈as.take i,prA a=p/\a.mark=m)/\∀a∈as.take i,∃m:Int,aW kvs (tkR (prA a))=some (.int m)/\m<=a.mark
 refine io (xs:=ys) I13
  ⟨[],_,_,_,rfl,S1,⟨q1,Qi _,(λkv h=>nomatch h),List.nodup_nil⟩,(λp m e=>nomatch e),λa ha=>by simp at ha⟩ (λi O H' _ pv=>?_) (λi v O H' hv pv=>?_) (λO H' pv=>?_)
 ·obtain⟨_,_,_,_,_,S2,_⟩:=pv;exact SqL.of (S2 _ _ hl)
 ·obtain⟨kvs,x2,x3,x4,rfl,S2,md,snd,lst⟩:=pv;obtain⟨a,ea,ar⟩:=paired_get pa hv;obtain⟨b,v1,v2,rfl,hb,t1,t2⟩:=ar.kt (av.tups S2);have il:=(Qf.mp ea).1;have ao:=aok a (QC ea);have tk:as.take (i+1)=as.take i++[a]:=by rw[XZ,ea];rfl
  have mdl:=md.l;refine⟨b,_,rfl,SqT.of hb,rfl,_,_,rfl,aC ⟨_,_,rfl,aC ⟨_,_,rfl,aC ⟨rfl,?_⟩⟩⟩⟩;lk;refine cV ?_;lk;refine jN (ba rfl ⟨M,rfl,.inr ⟨_,.inl md.h⟩,?_⟩);lk;refine⟨by simp[sizeLine],λp1 hp1=>?_⟩;ctx_has H' p1 H3 S3 q3 aq hp1;have pr3:PrA H3 (.ref p1) (prA a):=⟨p1,v1,v2,rfl,q3,t1.kt (av.tups S3),t2.kt (av.tups S3)⟩;have md3:=md.same (H':=H3) λo e=>S3 _ _ e;lk;refine⟨_,cL.t md3.h pr3.tk,?_⟩
  obtain⟨m1,em1,hm1,mb,mle⟩:∃m1:Int,(aW kvs (tkR (prA a))).getD (.int a.mark)=.int m1/\(m1=0\/m1=1)/\(m1=a.mark\/∃a'∈as.take i,prA a'=prA a/\a'.mark=m1)/\∀m,aW kvs (tkR (prA a))=some (.int m)->m1=m:=by
   cases e:aW kvs (tkR (prA a)) with
   | none=>exact⟨a.mark,rfl,ao.m,.inl rfl,λm h=>nomatch h⟩
   | some u =>
   obtain⟨_,m,ev,hm⟩:=md.val (p:=prA a) (eX e);rw[e]at ev;cases ev;exact⟨m,rfl,hm,.inr (snd _ _ e),λm' h=>by cases h;rfl⟩
  rw[em1];refine bC ⟨_,_,rfl,?_⟩
  obtain⟨m2,em2,hm2,m2a,m21,m2or⟩:∃m2:Int,(if m1<a.mark then m1 else a.mark)=m2/\(m2=0\/m2=1)/\m2<=a.mark/\m2<=m1/\(m2=a.mark\/m2=m1):=by
   have:=ao.m;by_cases c:m1<a.mark
   ·rw[Qp c];exact⟨m1,rfl,hm1,by omega,Int.le_refl _,.inr rfl⟩
   rw[Qn c];exact⟨a.mark,rfl,ao.m,Int.le_refl _,by omega,.inl rfl⟩
  rw[em2];lk;refine⟨by simp[sizeLine],λp2 hp2=>?_⟩;ctx_has H3 p2 H4 S4 q4 aq hp2;have S34:=S3.trans S4;have pr4:PrA H4 (.ref p2) (prA a):=⟨p2,v1,v2,rfl,q4,t1.kt (av.tups S34),t2.kt (av.tups S34)⟩;have md4:=md3.same (H':=H4) λo e=>S4 _ _ e;refine⟨M,_,rfl,eS.t md4.h pr4.tk (by omega),?_⟩;refine⟨bn kvs (tkR (prA a)) (.int m2),_,_,_,rfl,bO (S2.trans S34) hM,md4.put (p:=prA a) ⟨ao.o,ao.t,ao.ne⟩ hm2 ah,λp m e=>?_,λx hx=>?_⟩
  ·rw[bt]at e;rw[tk];by_cases c:tkR p=tkR (prA a)
   ·rw[Qp c]at e;cases e;have c:=dX c;subst c;rcases m2or with e|e
    ·exact⟨a,by simp,rfl,e.symm⟩
    rcases mb with e'|⟨a',h1,h2,h3⟩
    ·exact⟨a,by simp,rfl,by rw[e,e']⟩
    exact⟨a',QH _ h1,h2,by rw[h3,e]⟩
   rw[Qn c]at e;obtain⟨a',h1,h2⟩:=snd p m e;exact⟨a',QH _ h1,h2⟩
  rw[tk]at hx;rw[bt];by_cases c:tkR (prA x)=tkR (prA a)
  ·rw[Qp c];refine⟨m2,rfl,?_⟩;rcases Qj.mp hx with h|h
   ·obtain⟨m,e1,e2⟩:=lst x h;rw[c]at e1;have:=mle m e1;omega
   rw[QF.mp h];exact m2a
  rw[Qn c];rcases Qj.mp hx with h|h
  ·exact lst x h
  exact absurd (by rw[QF.mp h]) c
 obtain⟨kvs,x2,x3,x4,rfl,S2,md,snd,lst⟩:=pv;rw[Q1 (by omega)]at snd lst;have f100:=lI md w5;obtain⟨ps,eps⟩:=h_ (f:=tkR) (kvs.map (·.1)) md.keys;have lps:ps.length=kvs.length:=by have:=congrArg List.length eps;rw[Qb,Qb]at this;exact this.symm
 lk;refine⟨M,_,.inl md.h,trivial,λob=>?_⟩;refine cX (ba rfl ⟨M,ob,kvs,rfl,ah,λLc hLc=>?_⟩);have ktz:bI H' (upd H' M (.frz ob (.dT kvs))):=eM md.h;refine oR (λ_=>true) (λH v kv=>∀p,kv.1=tkR p->ArA H v (ft kvs p)) hLc ah (by omega) (λ_ _ _ _ kt h p e=>(h p e).kt kt) (λkv bb H2 mkv tb S2 GG N hG _=>?_) (λH2 ys S3 hy pz=>?_)
 ·obtain⟨p,ek,pok,_⟩:=md.ok kv mkv;have hp:Has kvs p:=Qr.mpr ⟨kv,mkv,ek⟩;obtain⟨_,ev,_⟩:=e9 md hp;rw[ek]at tb;have prb:=PrA.of tb;obtain⟨_,v1,v2,e,hb,h1,h2⟩:=id prb;cases e;refine aC ⟨⟨rfl,trivial⟩,i_yes (iteT ?_)⟩;lk;refine⟨M,.int (fO kvs p),rfl,.inr ⟨kvs,tkR p,bb,.inr ⟨ob,S2 _ _ ah⟩,rfl,prb.tk,ev.symm⟩,?_⟩;lk;refine⟨by simp[sizeLine],λc hc=>?_⟩;have Sc:=aN (o:=.tup [v1,v2,.int (fO kvs p)]) hc;refine hG rfl _ _ Sc λp' e'=>?_;rw[<-dX (ek.symm.trans e')];exact⟨c,v1,v2,rfl,ah,h1.kt (av.tups Sc),h2.kt (av.tups Sc)⟩
 rw[cR]at pz;have ncm:Lc≠M:=λz=>by rw[z,ah]at hLc;cases hLc
 have hHL:H Lc=none:=by
  have e:H' Lc=none:=by rw[am ncm]at hLc;exact hLc
  exact cY S2 e
 have S0:av H' (back H' M H2):=iP S3
 have ktb:bI H2 (back H' M H2):=λb xs e=>by
  by_cases c:b=M
  ·rw[c,S3 _ _ ah]at e;cases e
  rw[bz c];exact e
 refine⟨S3 _ _ ah,?_⟩;have hyb:back H' M H2 Lc=some (.lst ys):=by rw[bz ncm];exact hy
 have pab:=au (λ_ _ h=>ArA.kt ktb h) (fK pz eps);have mdb:=md.same (H':=back H' M H2) λo e=>S0 _ _ e;have S2b:=S2.trans S0;generalize back H' M H2=Hb at *;clear pz S3 hy ktz hLc S0 ktb;refine bC (gG hyb pab (by rw[Qb];omega) λp9 vs9 ars hp9 pars pmA so=>?_);ctx_has Hb p9 Hc Sc qc aq hp9;obtain⟨mk1,mk2⟩:=gN mdb eps;refine k p9 vs9 ars Hc (S2b.trans Sc) (cY S2b hp9) qc (au (λ_ _ h=>ArA.kt (av.tups Sc) h) pars) so ((pmA.map prA).nodup_iff.mpr mk2) (by rw[pmA.length_eq,Qb];omega) (λb hb=>?_) (λa ha=>?_)
 ·obtain⟨p,hp,rfl⟩:=Qr.mp (pmA.mem_iff.mp hb);obtain⟨_,ev,_⟩:=e9 md (p:=p) (by rw[eps];exact Qr.mpr ⟨p,hp,rfl⟩);obtain⟨a,h1,h2,h3⟩:=snd p _ ev
  have:a=ft kvs p:=by
   obtain⟨o,t,m⟩:=a;have e1:o=p.1:=congrArg Prod.fst h2;have e2:t=p.2:=congrArg Prod.snd h2;have e3:m=fO kvs p:=h3;rw[e1,e2,e3];rfl
  rw[<-this];exact h1
 obtain⟨m,e1,e2⟩:=lst a ha;have hk:tkR (prA a)∈kvs.map (·.1):=eX e1;rw[eps]at hk;obtain⟨p,hp,e⟩:=Qr.mp hk;have e:=dX e;subst e;refine⟨ft kvs (prA a),pmA.mem_iff.mpr (Qr.mpr ⟨_,hp,rfl⟩),rfl,?_⟩;show fO kvs (prA a)<=a.mark;unfold fO;rw[e1];exact e2
end
def sgJ (r1 r2:Rg) (n:Str):Bool:=if n∈r2.ws then rwB r2.ws r2.z n else rwB r1.ws r1.z n
theorem tZ (agr:Agr r1 r2) {n:Str} (h:n∈r1.ws):sgJ r1 r2 n=rwB r1.ws r1.z n:=by
 unfold sgJ;by_cases c:n∈r2.ws
 ·rw[Qp c,agr n h c]
 rw[Qn c]
theorem tY {n:Str} (h:n∈r2.ws):sgJ r1 r2 n=rwB r2.ws r2.z n:=by unfold sgJ;rw[Qp h]
theorem t7 (h:mj r1.ws (sgJ r1 r2)=r1.z):Agr r1 r2:=λn h1 h2=>by
 have a:=nR (f:=sgJ r1 r2) h1;rw[h,tY h2]at a;exact a
def qU (C:Addr):Sp:=λvs H Q E=>∃(a1 li1 lo1 l1 a2 li2 lo2 l2:Addr) (as1 as2:List V) (r1 r2:Rg),vs=[.ref a1,.ref a2]/\RgA H a1 li1 lo1 l1 as1 r1/\RgA H a2 li2 lo2 l2 as2 r2/\RgOk r1/\RgOk r2 /\
 (Agr r1 r2->∀d (kvs:List (Key × V)) H',av H H'->H' d=some (.dK kvs)->SgD kvs (r1.ws++r2.ws) (sgJ r1 r2)->Q (.ref d) H')/\(¬Agr r1 r2->∀H' e,cH C H H' e->E (.ref C) (some e) H')
section
theorem gf:FnScope ["one", "other", "signs"] ["one", "other"] (aA (top 34)):=by fin2
theorem rT {f:Addr} {fd:FuncData} (Fu:Fun K "signs_joined" "signs_joined" (top 34) f fd) (T:Txt K mg TT) {C0 NE:Addr} (N0:ExcB K mg "NoFit" C0 NE) (f_row_of:Fn P w K mg base "row_of" ["signs", "wires"] 1 ju):FnOk P w K mg base (CX1 P w) 2 f fd ["one", "other"] (qU C0):=by
 have S:=gf;obtain⟨oc,od,kV,doc,pm,an,cdv,ct,osl,rfl,lk,hcd⟩:=Fu.ex;refine lH lk hcd S (λvs H Q E h=>?_) (λA outer s H vs Q E hr h=>?_)
 ·obtain⟨a1,li1,lo1,l1,a2,li2,lo2,l2,as1,as2,r1,r2,rfl,_⟩:=h;rfl
 obtain⟨a1,li1,lo1,l1,a2,li2,lo2,l2,as1,as2,r1,r2,rfl,at1,at2,ok1,ok2,k,kx⟩:=h;have hu:=di hr;have big:10000<sizeLine:=by decide
 have ha1:=at1.ha;have hi1:=at1.hi;have ho1:=at1.ho;have w51:r1.ins.length+r1.outs.length<=5:=by have:=ok1.w5;unfold Rg.ws at this;rwa [Qh]at this
 have w52:r2.ins.length+r2.outs.length<=5:=by have:=ok2.w5;unfold Rg.ws at this;rwa [Qh]at this
 refine⟨_,(pss_cons (aZ 2 S.nd (jD rfl (by rfl) T.n_dict (by rfl) T.n_zip (aa (aP bJ (az aM (pv 0) ae) (az aM (pv 0) ae)) (aa (az aM (pv 0) ae) ad))))
  (pss_cons (cE (cP PySem.F.plainAttrs_dict PySem.F.slot_dict_update PySem.F.type_dict_update pU (pv 2) (aa (jD rfl (by rfl) T.n_dict (by rfl) T.n_zip (aa (aP bJ (az aM (pv 1) ae) (az aM (pv 1) ae)) (aa (az aM (pv 1) ae) ad))) ad be)))
  (pss_cons (ps_if (aE gX (bi f_row_of hr (aa (pv 2) (aa (aP bJ (az aM (pv 0) ae) (az aM (pv 0) ae)) ad) ak)) (az aM (pv 0) ae) (aY _)) (pss_one (kN (R:=λe d H1=>E (.ref C0) (some e) (upd H1 e (XO e C0 d false))) N0.xm rfl (iS N0.xm N0.init (by rfl) N0.m (aa aG ad)) (λ_ _ _ _ _ _ I eo r=>fD I eo r))) pss_nil)
  (pss_one (bj (pv 2)))))),?_⟩
 x_go;lk;show dG _ _ _ _ _;lk;refine cJ hi1 ho1 (by rw[Qb,Qb];omega) λlw hlw=>?_;rw[<-QO];ctx_has H lw H1 S1 q1 aq hlw;have q1:H1 lw=some (.lst (r1.ws.map V.str)):=q1;have ha11:=S1 _ _ ha1;lk;refine⟨lw,r1.ws,r1.z,rfl,SqL.of q1,by rw[ok1.st.len];exact Qi _,by have:=ok1.w5;omega,λd hd=>?_⟩;have D1:=SgD.zip ok1.nd ok1.st;have dl1:=D1.len (ws:=r1.ws) λn h=>h;generalize bx [] (bR r1.ws r1.z)=kv1 at D1 dl1 ⊢;ctx_has H1 d H2 S2 q2 aq hd;have Hd:H d=none:=cY S1 hd;have S12:=S1.trans S2;have ha2':=S12 _ _ at2.ha;have hi2:=S12 _ _ at2.hi;have ho2:=S12 _ _ at2.ho;lk;refine⟨.inr (.inr (.inl ⟨rfl,.inl ⟨_,q2⟩⟩)),?_⟩;lk;show dG _ _ _ _ _;lk;refine cJ hi2 ho2 (by rw[Qb,Qb];omega) λlw2 hlw2=>?_;rw[<-QO];ctx_has H2 lw2 H3 S3 q3 aq hlw2;have q3:H3 lw2=some (.lst (r2.ws.map V.str)):=q3;have ha23:=S3 _ _ ha2';lk;refine⟨lw2,r2.ws,r2.z,rfl,SqL.of q3,by rw[ok2.st.len];exact Qi _,by have:=ok2.w5;omega,λd2 hd2=>?_⟩;have D2:=SgD.zip ok2.nd ok2.st;have dl2:=D2.len (ws:=r2.ws) λn h=>h;generalize bx [] (bR r2.ws r2.z)=kv2 at D2 dl2 ⊢;ctx_has H3 d2 H4 S4 q4 aq hd2;have q24:=S4 _ _ (S3 _ _ q2);have ne:d≠d2:=(aI (S3 _ _ q2) hd2).symm;have o1:=ok1.w5;have o2:=ok2.w5;have S04:=S12.trans (S3.trans S4);refine bC ⟨d,d2,kv1,kv2,rfl,rfl,ne,q24,q4,by omega,?_⟩;have D:=D1.merge D2;generalize bS kv1 kv2=kvs at D ⊢;have S5:av H (upd H4 d (.dK kvs)):=bO S04 Hd;have q5:upd H4 d (.dK kvs) d=some (.dK kvs):=ah;generalize upd H4 d (.dK kvs)=H5 at S5 q5 ⊢;have ha15:=S5 _ _ ha1;have hi15:=S5 _ _ hi1;have ho15:=S5 _ _ ho1;lk;refine cJ hi15 ho15 (by rw[Qb,Qb];omega) λlw3 hlw3=>?_;rw[<-QO];ctx_has H5 lw3 H6 S6 q6 aq hlw3;have q6:H6 lw3=some (.lst (r1.ws.map V.str)):=q6;have q56:=S6 _ _ q5;lk;refine⟨d,lw3,kvs,r1.ws,sgJ r1 r2,rfl,q56,q6,λn h=>D.val n (QH _ h),by omega,λH7 S7=>?_⟩;have ha17:=S7 _ _ (S6 _ _ ha15);have S07:=S5.trans (S6.trans S7);lk;by_cases c:Agr r1 r2
 ·rw[wE ok1.nd ok1.st λn h=>tZ c h];refine ifF (by simp) ?_;lk;exact k c d kvs H7 S07 (S7 _ _ q56) D
 refine ifT (by
  rw[Bool.not_eq_true',decide_eq_false_iff_not];intro e
  exact c (t7 (V.str.inj e))) ?_
 exact ii (i_cons (i_c (bC ⟨by simp[sizeLine],λx hx=>⟨x,none,rfl,ah,kx c _ x (eG S07 hx)⟩⟩)))
end
theorem gU {α β:Type} {F:α->β->Prop}:∀{xs us:List α} {ys ws:List β},Paired F xs ys->Paired F us ws->Paired F (xs++us) (ys++ws)
 | _,_,_,_,.nil,h=>h
 | _,_,_,_,.cons r t,h=>.cons r (gU t h)
theorem ArOk.sub {ws us:List Str} {a:Arc} (h:ArOk ws a) (s:∀n∈ws,n∈us):ArOk us a:=⟨⟨s _ h.o.1,h.o.2⟩,⟨s _ h.t.1,h.t.2⟩,h.ne,h.m⟩
theorem SgD.count {kvs:List (Key × V)} {f:Str->Bool} (d:SgD kvs ns f):kvs.length=(bP [] ns).length:=by
 refine Nat.le_antisymm (d.len λn h=>dg.mpr ⟨h,QY⟩) ?_
 have:=Bf.eI ((bP [] ns).map (Sum.inr:Str->Key)) (kvs.map (·.1)) (iU (dP [] ns)) λk hk=>by
  obtain⟨n,hn,rfl⟩:=Qr.mp hk;exact eX (d.val n (dg.mp hn).1)
 rwa [Qb,Qb]at this
def Fit (r1 r2:Rg):Prop:=Agr r1 r2/\(∀n∈r1.outs,n∉r2.outs)/\(bP [] (r1.ws++r2.ws)).length<=5
def ma (C:Addr):Sp:=λvs H Q E=>∃(a1 li1 lo1 l1 a2 li2 lo2 l2:Addr) (as1 as2:List V) (r1 r2:Rg),vs=[.ref a1,.ref a2]/\RgA H a1 li1 lo1 l1 as1 r1/\RgA H a2 li2 lo2 l2 as2 r2/\RgOk r1/\RgOk r2/\r1.arcs.length<=190/\r2.arcs.length<=190 /\
 (Fit r1 r2->∀v H',av H H'->Q v H')/\(¬Fit r1 r2->∀H' e,cH C H H' e->E (.ref C) (some e) H')
section
theorem gg:FnScope ["one", "other", "outputs", "inputs", "signs"] ["one", "other"] (aA (top 35)):=by fin2
theorem uw {f:Addr} {fd:FuncData} (Fu:Fun K "rings_joined" "rings_joined" (top 35) f fd) (T:Txt K mg TT) {C0 NE:Addr} (N0:ExcB K mg "NoFit" C0 NE) (f_inputs_left:Fn P w K mg base "inputs_left" ["names", "made"] 1 qW) (f_signs_joined:Fn1 P w K mg base "signs_joined" ["one", "other"] 2 (qU C0)) (f_row_of:Fn P w K mg base "row_of" ["signs", "wires"] 1 ju) (f_arcs_joined:Fn P w K mg base "arcs_joined" ["arcs"] 1 nN):FnOk P w K mg base (CX1 P w) 3 f fd ["one", "other"] (ma C0):=by
 have S:=gg;obtain⟨oc,od,kV,doc,pm,an,cdv,ct,osl,rfl,lk,hcd⟩:=Fu.ex;refine lH lk hcd S (λvs H Q E h=>?_) (λA outer s H vs Q E hr h=>?_)
 ·obtain⟨a1,li1,lo1,l1,a2,li2,lo2,l2,as1,as2,r1,r2,rfl,_⟩:=h;rfl
 obtain⟨a1,li1,lo1,l1,a2,li2,lo2,l2,as1,as2,r1,r2,rfl,at1,at2,ok1,ok2,x1,x2,k,kx⟩:=h;have hu:=di hr;have big:10000<sizeLine:=by decide
 obtain⟨_,gMW⟩:=T.mWIRES;have ha1:=at1.ha;have ha2:=at2.ha;have w51:r1.ins.length+r1.outs.length<=5:=by have:=ok1.w5;unfold Rg.ws at this;rwa [Qh]at this
 have w52:r2.ins.length+r2.outs.length<=5:=by have:=ok2.w5;unfold Rg.ws at this;rwa [Qh]at this
 have n1:=ok1.nd;have n2:=ok2.nd;unfold Rg.ws at n1 n2
 refine⟨_,(pss_cons (aZ 2 S.nd (aP bJ (az aM (pv 0) ae) (az aM (pv 1) ae)))
  (pss_cons (aZ 3 S.nd (bi f_inputs_left hr (aa (aP bJ (az aM (pv 0) ae) (az aM (pv 1) ae)) (aa (pv 2) ad ak))))
  (pss_cons (aZ 4 S.nd (rF f_signs_joined (hr.mono (by first|decide|omega)) (by rfl) n9 (aa (pv 0) (aa (pv 1) ad ak) ak)))
  (pss_cons (ps_if (PW.pt (nY (aE gX (pJ rfl (by rfl) T.n_len (by rfl) T.n_set (aa (pv 2) ad ak)) (aQ aV (by rfl) T.n_len Xe (aa (pv 2) ad ak)) (aY _)) (jB (aE og (aQ ja (by rfl) T.n_len Xe (aa (pv 4) ad ak)) (dw (v:=.int 5) (by rfl) gMW ⟨_,rfl⟩) (aY _))))) (pss_one (kN (R:=λe d H1=>E (.ref C0) (some e) (upd H1 e (XO e C0 d false))) N0.xm rfl (iS N0.xm N0.init (by rfl) N0.m (aa aG ad)) (λ_ _ _ _ _ _ I eo r=>fD I eo r))) pss_nil)
  (pss_one (bj (pe_tup (aa (pv 3) (aa (pv 2) (aa (bi f_row_of hr (aa (pv 4) (aa (aP bJ (pv 3) (pv 2)) ad) ak)) (aa (bi f_arcs_joined hr (aa (aP bJ (az aM (pv 0) ae) (az aM (pv 1) ae)) ad)) ad be) be) ak) ak)))))))),?_⟩
 x_go;lk;refine cJ at1.ho at2.ho (by rw[Qb,Qb];omega) λlo hlo=>?_;rw[<-QO];ctx_has H lo H1 S1 q1 aq hlo;have at11:=at1.same S1;have at21:=at2.same S1;have ha11:=at11.ha;have ha21:=at21.ha;lk;refine cJ at11.hi at21.hi (by rw[Qb,Qb];omega) λlp hlp=>?_;rw[<-QO];ctx_has H1 lp H2 S2 q2 aq hlp;have q12:=S2 _ _ q1;lk;refine⟨lp,lo,r1.ins++r2.ins,r1.outs++r2.outs,rfl,q2,q12,by rw[Qh];omega,λli H3 S3 hli q3=>?_⟩;have lnd:=dP (r1.outs++r2.outs) (r1.ins++r2.ins);have lmem:∀n,n∈bP (r1.outs++r2.outs) (r1.ins++r2.ins)↔n∈r1.ins++r2.ins/\n∉r1.outs++r2.outs:=λn=>dg;generalize hls:bP (r1.outs++r2.outs) (r1.ins++r2.ins)=ls at q3 lnd lmem;have S13:=S2.trans S3;have at13:=at11.same S13;have at23:=at21.same S13;have q13:=S13 _ _ q1;lk;refine⟨a1,li1,lo1,l1,a2,li2,lo2,l2,as1,as2,r1,r2,rfl,at13,at23,ok1,ok2,λagr d kvs H4 S4 qd D=>?_,λna H' e r=>kx (λf=>na f.1) H' e (r.pre (S1.trans S13))⟩;have q14:=S4 _ _ q13;have q34:=S4 _ _ q3;have at14:=at13.same S4;have at24:=at23.same S4;have ha14:=at14.ha;have ha24:=at24.ha;have S04:=S1.trans (S13.trans S4);have kl:=D.count;have lol:(r1.outs++r2.outs).length<=10:=by rw[Qh];omega
 have n1:li≠lo:=λz=>by rw[z,q12]at hli;cases hli
 have SF1:av H H:=av.refl H;have hlo0:=hlo;have SF3:av H H2:=S1.trans S2;have hli0:=hli;clear S1 S2 S3 S13 S4 q1 q2 q12 q3 q13 hli hlp hlo at11 at21 ha11 ha21 at13 at23 ha1 ha2;refine aC ?_;lk;refine xw (i_cons (ba rfl (bC ⟨lo,r1.outs++r2.outs,rfl,SqL.of q14,by omega,?_⟩)));by_cases ndo:(r1.outs++r2.outs).Nodup
 case neg =>
  have nu:o_ (r1.outs++r2.outs)≠(r1.outs++r2.outs).length:=λe=>ndo (kh.mp e)
  have nf:¬Fit r1 r2:=λf=>ndo (by
   have n1:=ok1.nd;have n2:=ok2.nd;unfold Rg.ws at n1 n2
   exact Xj.mpr ⟨(Xj.mp n1).2.1,(Xj.mp n2).2.1,λa ha b hb e=>f.2.1 a ha (e▸hb)⟩)
  lk
  refine ifT (by
   rw[Qb,Bool.not_eq_true',decide_eq_false_iff_not];intro e;injection e with e
   exact nu (by omega)) ?_
  refine iteT ?_;exact ii (i_cons (i_c (bC ⟨by simp[sizeLine],λx hx=>⟨x,none,rfl,ah,kx nf _ x (eG S04 hx)⟩⟩)))
 rw[kh.mpr ndo];lk;refine ifF (by rw[Qb];simp) ?_;lk;refine⟨d,kvs,rfl,qd,?_⟩;lk;have dis:∀n∈r1.outs,n∉r2.outs:=λn h1 h2=>(Xj.mp ndo).2.2 n h1 n h2 rfl;by_cases c5:(bP [] (r1.ws++r2.ws)).length<=5
 case neg =>
  refine ifT (QG (by omega)) ?_;exact ii (i_cons (i_c (bC ⟨by simp[sizeLine],λx hx=>⟨x,none,rfl,ah,kx (λf=>c5 f.2.2) _ x (eG S04 hx)⟩⟩)))
 refine ifF (QE (by omega)) ?_;lk
 have ewl:∀n,n∈ls++(r1.outs++r2.outs)↔n∈r1.ws\/n∈r2.ws:=λn=>by
  unfold Rg.ws;rw[Qj,lmem,Qj,Qj,Qj,Qj];by_cases c1:n∈r1.outs <;> by_cases c2:n∈r2.outs <;> by_cases c3:n∈r1.ins <;> by_cases c4:n∈r2.ins <;> simp[c1,c2,c3,c4]
 have nd0:(ls++(r1.outs++r2.outs)).Nodup:=Xj.mpr ⟨lnd,ndo,λa ha b hb e=>((lmem a).mp ha).2 (e▸hb)⟩
 have w05:(ls++(r1.outs++r2.outs)).length<=5:=by
  have:=Bf.eI _ (bP [] (r1.ws++r2.ws)) nd0 λn h=>dg.mpr ⟨Qj.mpr ((ewl n).mp h),QY⟩;omega
 have lsl:ls.length+(r1.outs++r2.outs).length<=5:=by rw[<-Qh];exact w05
 refine cJ q34 q14 (by rw[Qb,Qb];omega) λlw hlw=>?_;rw[<-QO];ctx_has H4 lw H5 S5 q5 aq hlw;lk;refine⟨d,lw,kvs,ls++(r1.outs++r2.outs),sgJ r1 r2,rfl,S5 _ _ qd,q5,λn h=>D.val n (Qj.mpr ((ewl n).mp h)),by omega,λH6 S6=>?_⟩;have S46:=S5.trans S6;have at16:=at14.same S46;have at26:=at24.same S46;have ha16:=at16.ha;have ha26:=at26.ha;have p1:=a_ at16.arcs.p;have p2:=a_ at26.arcs.p;lk;refine cJ at16.arcs.h at26.arcs.h (by omega) λla hla=>?_;ctx_has H6 la H7 S7 q7 aq hla;have pp:=gU (au (λ_ _ h=>ArA.kt (av.tups S7) h) at16.arcs.p) (au (λ_ _ h=>ArA.kt (av.tups S7) h) at26.arcs.p)
 have aok:∀a∈r1.arcs++r2.arcs,ArOk (ls++(r1.outs++r2.outs)) a:=λa ha=>by
  rcases Qj.mp ha with h|h
  ·exact(ok1.arcs a h).sub λn hn=>(ewl n).mpr (.inl hn)
  exact(ok2.arcs a h).sub λn hn=>(ewl n).mpr (.inr hn)
 lk;refine⟨la,_,r1.arcs++r2.arcs,ls++(r1.outs++r2.outs),rfl,q7,pp,aok,w05,by rw[Qh];omega,λq zs bs H8 S8 hq8 q8 pz so pnd b100 bin bcov=>?_⟩;have SF7:av H H7:=S04.trans (S46.trans S7);lk;refine⟨by simp[sizeLine],λa0 h0=>?_⟩;ctx_has H8 a0 H9 S9 q9 aq h0;have S49:=S46.trans (S7.trans (S8.trans S9));exact k ⟨agr,dis,c5⟩ _ H9 (S04.trans S49)
end
def nK:Sp:=λvs H Q _=>∃(a1 li1 lo1 l1 a2 li2 lo2 l2:Addr) (as1 as2:List V) (r1 r2:Rg),vs=[.ref a1,.ref a2]/\RgA H a1 li1 lo1 l1 as1 r1/\RgA H a2 li2 lo2 l2 as2 r2/\RgOk r1/\RgOk r2/\∀(b:Bool) H',av H H'->(b=true↔Fit r1 r2)->Q (.bl b) H'
section
theorem rX {f:Addr} {fd:FuncData} (Fu:Fun K "_law_fits" "_law_fits" (top 50) f fd) (T:Txt K mg TT):FnOk P w K mg base CX0 1 f fd ["one", "other"] nK:=by
 have S:=kH;refine Fu.ok S (by room) (λcdv A outer s H vs Q E hr h=>?_);obtain⟨a1,li1,lo1,l1,a2,li2,lo2,l2,as1,as2,r1,r2,rfl,at1,at2,ok1,ok2,k⟩:=h;have hu:=di hr;have big:10000<sizeLine:=by decide
 have ha1:=at1.ha;have ha2:=at2.ha;have hi1:=at1.hi;have ho1:=at1.ho;have w51:r1.ins.length+r1.outs.length<=5:=by have:=ok1.w5;unfold Rg.ws at this;rwa [Qh]at this
 have w52:r2.ins.length+r2.outs.length<=5:=by have:=ok2.w5;unfold Rg.ws at this;rwa [Qh]at this
 refine'⟨?_,?bb,?_⟩
 case bb =>
  walk_at "b";exact aZ 2 S.nd (jD rfl (by rfl) T.n_dict (by rfl) T.n_zip (aa (aP bJ (az aM (pv 0) ae) (az aM (pv 0) ae)) (aa (az aM (pv 0) ae) ad)));walk_at "f";exact(wL (by rfl) T.n_zip (aa (aP bJ (az aM (pv 1) ae) (az aM (pv 1) ae)) (aa (az aM (pv 1) ae) ad)));exact(eJ rfl (aO (bu 3 S.nd) (aO (bu 4 S.nd) cq)));walk_at "p";exact(PW.pt (nY (PW.pt (cN (aE d7 (pv 3) (az aM (pv 0) ae) rfl) (cc (aE d7 (pv 3) (az aM (pv 1) ae) rfl)))) (jB (aE gX (kW hu (pv 2) (pv 3) (pv 4) ⟨rfl,rfl,rfl,rfl⟩) (pv 4) (aY _)))));exact(bj kY);exact(ce hu (pv 2) (pv 3) (pv 4) rfl);exact(bj (dy rK (aQ ja (by rfl) T.n_len Xe (aa (pv 2) ad ak)) ae (aY _)))
 x_go;lk;show dG _ _ _ _ _;lk;refine cJ hi1 ho1 (by rw[Qb,Qb];omega) λlw hlw=>?_;rw[<-QO];ctx_has H lw H1 S1 q1 aq hlw;have q1:H1 lw=some (.lst (r1.ws.map V.str)):=q1;have ha11:=S1 _ _ ha1;lk;refine⟨lw,r1.ws,r1.z,rfl,SqL.of q1,by rw[ok1.st.len];exact Qi _,by have:=ok1.w5;omega,λd hd=>?_⟩;have D1:=SgD.zip ok1.nd ok1.st;have dl1:=D1.len (ws:=r1.ws) λn h=>h;generalize bx [] (bR r1.ws r1.z)=kv1 at D1 dl1 ⊢;ctx_has H1 d H2 S2 q2 aq hd;have Hd:H d=none:=cY S1 hd;have S12:=S1.trans S2;have ha2':=S12 _ _ ha2;have hi2:=S12 _ _ at2.hi;have ho2:=S12 _ _ at2.ho;lk;show dG _ _ _ _ _;lk;refine cJ hi2 ho2 (by rw[Qb,Qb];omega) λlw2 hlw2=>?_;rw[<-QO];ctx_has H2 lw2 H3 S3 q3 aq hlw2;have q3:H3 lw2=some (.lst (r2.ws.map V.str)):=q3;have ndl:lw2≠d:=aI q2 hlw2;have ha23:=S3 _ _ ha2';lk;refine⟨lw2,r2.z,rfl,⟨_,SqL.of q3⟩,?_⟩;let I14:IvF:=λi O H'=>∃(kvs:List (Key × V)) (x3 x4:Option V),O=[some (.ref a1),some (.ref a2),some (.ref d),x3,x4]/\av H H'/\H' lw2=some (.lst (r2.ws.map V.str))/\H' d=some (.dK kvs)/\kvs.length<=5+i/\(kvs.map (·.1)).Nodup/\(∀x:Key,x∉(r1.ws++r2.ws).map Sum.inr->aW kvs x=none)/\(∀n∈r1.ws,aW kvs (Sum.inr n:Key)=some (sg (rwB r1.ws r1.z n)))/\(∀n,n∉r1.ws->n∉r2.ws.take i->aW kvs (Sum.inr n:Key)=none)/\(∀n∈r2.ws.take i,n∈r1.ws->rwB r1.ws r1.z n=rwB r2.ws r2.z n)/\(∀n∈r2.ws.take i,n∈r1.outs->n∉r2.outs)/\∀n∈r2.ws.take i,aW kvs (Sum.inr n:Key)=some (sg (rwB r2.ws r2.z n))
 refine uT (xs:=r2.ws.map V.str) (by rw[Qb,ok2.st.len];exact Qi _) I14
  ⟨kv1,_,_,rfl,S12.trans S3,q3,S3 _ _ q2,by have:=ok1.w5;omega,D1.nd,λx h=>D1.out _ λz=>h (by obtain⟨y,hy,e⟩:=Qr.mp z;exact Qr.mpr ⟨y,QH _ hy,e⟩),D1.val,λn h _=>D1.out _ λz=>h (by obtain⟨x,hx,e⟩:=Qr.mp z;cases e;exact hx),λn hn=>by simp at hn,λn hn=>by simp at hn,λn hn=>by simp at hn⟩ (λi O H' _ pv=>?_) (λi x O H' t hx pv ht=>?_) (λO H' pv=>?_)
 ·obtain⟨_,_,_,_,_,e,_⟩:=pv;exact SqL.of e
 ·obtain⟨kvs,x3,x4,rfl,S4,ql,qd,kl,knd,v3,v1,v2,ag,dis,v4⟩:=pv;rw[Qy]at hx;obtain⟨n,hn,rfl⟩:=Xy.mp hx;have il:=(Qf.mp hn).1;have l5:=ok2.w5;have tk:r2.ws.take (i+1)=r2.ws.take i++[n]:=by rw[XZ,hn];rfl
  have sn:dM r2.z i=sg (rwB r2.ws r2.z n):=by
   rw[nO ok2.st il];unfold rwB sgB
   have:r2.ws.idxOf n=i:=by
    have:=ok2.nd.idxOf_getElem i il;rw[(Qf.mp hn).2]at this;exact this
   rw[this]
  have mn:n∈r2.ws:=QC hn
  have new:n∉r2.ws.take i:=λm=>by
   obtain⟨j,hj⟩:=XQ m
   have jl:j<i:=by
    have:=(Qf.mp hj).1;rw[QA]at this;omega
   rw[List.getElem?_take_of_lt jl]at hj;have:=lg ok2.nd hj hn;omega
  rw[sn];ctx_has H' t H4 S5 q5 aq ht;have qd4:=S5 _ _ qd;have ql4:=S5 _ _ ql;have S05:=S4.trans S5;have ha14:=S05 _ _ ha1;have ha24:=S05 _ _ ha2;have ho14:=S05 _ _ ho1;have ho24:=S05 _ _ at2.ho;refine⟨t,_,rfl,SqT.of q5,rfl,?_⟩;refine⟨_,_,rfl,aC ⟨_,_,rfl,aC ⟨rfl,?_⟩⟩⟩;obtain⟨y2,e2⟩:∃y,sg (rwB r2.ws r2.z n)=V.str y:=⟨_,jv _⟩
  have get:∀(O:St),∃y,(aW kvs (Sum.inr n:Key)).getD (sg (rwB r2.ws r2.z n))=V.str y/\((aW kvs (Sum.inr n:Key)).getD (sg (rwB r2.ws r2.z n))=sg (rwB r2.ws r2.z n)↔(n∈r1.ws->rwB r1.ws r1.z n=rwB r2.ws r2.z n)):=λ_=>by
   by_cases c:n∈r1.ws
   ·rw[v1 n c];refine⟨_,jv _,λh _=>wy h,λh=>by rw[h c];rfl⟩
   rw[v2 n c new];exact⟨y2,e2,λ_ h=>absurd h c,λ_=>rfl⟩
  obtain⟨y1,e1,giff⟩:=get [];let I15:IvJ:=λO G=>O=[some (.ref a1),some (.ref a2),some (.ref d),some (.str n),some (sg (rwB r2.ws r2.z n))]/\G=H4/\(n∈r1.ws->rwB r1.ws r1.z n=rwB r2.ws r2.z n)/\(n∈r1.outs->n∉r2.outs);with_reducible refine cU I15 (λRR hJ=>?_) (λO G h=>?_)
  ·lk;refine⟨lo1,_,rfl,.inl (SqL.of ho14),rfl,bZ _,_,rfl,?_⟩;rcases Classical.em (n∈r1.outs) with c1|c1
   ·refine ifT (bH.mpr c1) ?_;lk;refine⟨lo2,_,rfl,.inl (SqL.of ho24),rfl,bZ _,_,rfl,?_⟩;rcases Classical.em (n∈r2.outs) with c2|c2
    ·refine ifT (bH.mpr c2) ?_;refine iteT ?_;lk;exact k false H4 S05 ⟨λh=>(nomatch h),λf=>absurd c2 (f.2.1 n c1)⟩
    refine ifF (by rw[show inV (.str n) (r2.outs.map V.str)=false from Xu.mpr λz=>c2 (bH.mp z)];rfl) ?_;lk;refine jN (ba rfl ⟨d,rfl,.inl ⟨_,.inl qd4⟩,ba rfl (ba rfl ⟨_,cL.k (k:=Sum.inr n) qd4,?_⟩)⟩);lk;refine i_ne (by rw[e1,e2];rfl) ?_;refine⟨_,rfl,?_⟩;by_cases g:n∈r1.ws->rwB r1.ws r1.z n=rwB r2.ws r2.z n
    ·refine ifF (by rw[giff.mpr g];simp) ?_;exact s_next (hJ _ _ ⟨rfl,rfl,g,λ_=>c2⟩)
    refine ifT (by rw[QE λz=>g (giff.mp z)];rfl) ?_;lk;exact k false H4 S05 ⟨λh=>(nomatch h),λf=>absurd (λh=>f.1 n h mn) g⟩
   refine ifF (by rw[show inV (.str n) (r1.outs.map V.str)=false from Xu.mpr λz=>c1 (bH.mp z)];rfl) ?_;lk;refine jN (ba rfl ⟨d,rfl,.inl ⟨_,.inl qd4⟩,ba rfl (ba rfl ⟨_,cL.k (k:=Sum.inr n) qd4,?_⟩)⟩);lk;refine i_ne (by rw[e1,e2];rfl) ?_;refine⟨_,rfl,?_⟩;by_cases g:n∈r1.ws->rwB r1.ws r1.z n=rwB r2.ws r2.z n
   ·refine ifF (by rw[giff.mpr g];simp) ?_;exact s_next (hJ _ _ ⟨rfl,rfl,g,λh=>absurd h c1⟩)
   refine ifT (by rw[QE λz=>g (giff.mp z)];rfl) ?_;lk;exact k false H4 S05 ⟨λh=>(nomatch h),λf=>absurd (λh=>f.1 n h mn) g⟩
  obtain⟨rfl,rfl,g,dn⟩:=h;refine cV ?_;lk;refine⟨d,_,rfl,eS.k (k:=Sum.inr n) qd4 (by omega),?_⟩;refine⟨bn kvs (Sum.inr n) (sg (rwB r2.ws r2.z n)),_,_,rfl,bO S05 Hd,by rw[am ndl];exact ql4,ah,QR (br _ _ _) (by omega),rZ _ _ _ knd,λx hx=>?_,λx hx=>?_,λx h1 h2=>?_,λx h1 h2=>?_,λx h1 h2=>?_,λx h1=>?_⟩
  ·rw[bt,Qn (λc=>hx (by rw[c];exact Qr.mpr ⟨n,QJ _ mn,rfl⟩))];exact v3 x hx
  ·rw[bt];by_cases c:(Sum.inr x:Key)=Sum.inr n
   ·cases c;rw[Qp rfl,g hx]
   rw[Qn c];exact v1 x hx
  ·rw[tk,Qj,not_or]at h2;rw[bt,Qn (λc=>h2.2 (by cases c;simp))];exact v2 x h1 h2.1
  ·rw[tk]at h1;rcases Qj.mp h1 with h|h
   ·exact ag x h h2
   have e:=QF.mp h;subst e;exact g h2
  ·rw[tk]at h1;rcases Qj.mp h1 with h|h
   ·exact dis x h h2
   have e:=QF.mp h;subst e;exact dn h2
  rw[bt];by_cases c:(Sum.inr x:Key)=Sum.inr n
  ·cases c;rw[Qp rfl]
  rw[Qn c];rw[tk]at h1;rcases Qj.mp h1 with h|h
  ·exact v4 x h
  exact absurd (congrArg _ (QF.mp h)) c
 obtain⟨kvs,x3,x4,rfl,S4,ql,qd,kl,knd,v3,v1,v2,ag,dis,v4⟩:=pv;rw[Qb,List.take_length]at ag dis v4;lk;refine⟨d,kvs,rfl,qd,?_⟩;lk
 have cn:kvs.length=(bP [] (r1.ws++r2.ws)).length:=SgD.count (f:=λn=>if n∈r1.ws then rwB r1.ws r1.z n else rwB r2.ws r2.z n) ⟨knd,λn hn=>by
  by_cases c:n∈r1.ws
  ·rw[Qp c];exact v1 n c
  rw[Qn c];exact v4 n ((Qj.mp hn).resolve_left c),λx hx=>v3 x hx⟩
 refine k _ H' S4 ⟨λe=>⟨λn h1 h2=>ag n h2 h1,λn h1 h2=>dis n (QJ _ h2) h1 h2,?_⟩,λf=>QG ?_⟩
 ·have e:=XX e;omega
 have:=f.2.2;omega
end
def qX (C:Addr):Sp:=λvs H Q E=>∃(a1 li1 lo1 l1 a2 li2 lo2 l2:Addr) (as1 as2:List V) (r1 r2:Rg),vs=[.ref a1,.ref a2]/\RgA H a1 li1 lo1 l1 as1 r1/\RgA H a2 li2 lo2 l2 as2 r2/\RgOk r1/\RgOk r2/\r1.arcs.length<=190/\r2.arcs.length<=190/\¬Fit r1 r2/\∀H' e,cH C H H' e->E (.ref C) (some e) H'
section
theorem fI:FnScope ["one", "other", "ring_sheet", "start", "found", "here", "turn"] ["one", "other"] (aA (top 38)):=by fin2
theorem uB {f:Addr} {fd:FuncData} (Fu:Fun K "first_refused" "first_refused" (top 38) f fd) (T:Txt K mg TT) {C0:Addr} (f_rings_joined:Fn1 P w K mg base "rings_joined" ["one", "other"] 3 (ma C0)):FnOk P w K mg base (CX1 P w) 6 f fd ["one", "other"] (qX C0):=by
 have S:=fI;obtain⟨oc,od,kV,doc,pm,an,cdv,ct,osl,rfl,lk,hcd⟩:=Fu.ex;refine lH lk hcd S (λvs H Q E h=>?_) (λA outer s H vs Q E hr h=>?_)
 ·obtain⟨a1,li1,lo1,l1,a2,li2,lo2,l2,as1,as2,r1,r2,rfl,_⟩:=h;rfl
 obtain⟨a1,li1,lo1,l1,a2,li2,lo2,l2,as1,as2,r1,r2,rfl,at1,at2,ok1,ok2,x1,x2,nf,k⟩:=h;refine⟨_,(pss_cons (ud (E:=E) rfl rfl xS rfl (rp (pe_tup (aa (pv 0) (aa (pv 1) (aa (rF f_rings_joined (hr.mono (by first|decide|omega)) (by rfl) tM (aa (pv 0) (aa (pv 1) ad))) ad))))) (bu 2 S.nd) iR) iR),?_⟩;x_go;kt_k;refine s_for (vj (i_tup (i_cons (ba rfl (i_cons (ba rfl (i_cons (i_call (i_cons (ba rfl (i_cons (ba rfl (bC ?_)))))))))))));exact⟨a1,li1,lo1,l1,a2,li2,lo2,l2,as1,as2,r1,r2,rfl,at1,at2,ok1,ok2,x1,x2,λf=>absurd f nf,λ_=>k⟩
end
def gC:Sp:=λvs H Q _=>∃(way:Nat) (a1 li1 lo1 l1 a2 li2 lo2 l2:Addr) (as1 as2:List V) (r1 r2:Rg),vs=[.int (way:Int),.ref a1,.ref a2]/\RgA H a1 li1 lo1 l1 as1 r1/\RgA H a2 li2 lo2 l2 as2 r2/\RgOk r1/\RgOk r2/\r1.arcs.length<=190/\r2.arcs.length<=190/\way<=1/\(way=1->¬Fit r1 r2) /\
 (Fit r1 r2->∀H',av H H'->Q (.str "told") H')/\(¬Fit r1 r2->∀H',av H H'->Q (.str "NoFit") H')
structure KinW (K:PySem.W.Frag) (C NE c0 c1 c3 c4 c5:Addr):Prop where
 kO:PySem.W.kitAny K (.ref C) ([c4,c5,c0,c1,c3].map Value.ref)=some false
 k2:PySem.W.kitOne K (.ref C) (.ref C)=some true
 kV:PySem.W.kitOne K (.ref C) (.type "ValueError")=some true
 ex:PySem.W.exmOne K (.ref C) (.ref NE)=some true
 kl:XE.XKl K C NE
section
theorem kB:FnScope ["way", "one", "other", "caught", "e"] ["way", "one", "other"] (aA (top 53)):=by fin2
theorem pM {f:Addr} {fd:FuncData} (Fu:Fun K "_law_word" "_law_word" (top 53) f fd) (T:Txt K mg TT) {CS NE c0 c2 c3 c4 c5:Addr} (N:NmE mg CS NE) (KD:KindsM mg c0 c2 c3 c4 c5) (Z:KinW K c2 NE c0 CS c3 c4 c5) (f_rings_joined:Fn1 P w K mg base "rings_joined" ["one", "other"] 3 (ma c2)) (f_first_refused:Fn1 P w K mg base "first_refused" ["one", "other"] 6 (qX c2)):FnOk P w K mg base CX0 7 f fd ["way", "one", "other"] gC:=by
 have S:=kB;refine Fu.ok S (by room) (λcdv A outer s H vs Q E hr h=>?_);obtain⟨way,a1,li1,lo1,l1,a2,li2,lo2,l2,as1,as2,r1,r2,rfl,at1,at2,ok1,ok2,x1,x2,w1,wf,k,kx⟩:=h;have hu:=di hr;have big:10000<sizeLine:=by decide
 refine⟨_,(pss_cons (mB (i:=3) S.nd rfl (by z_go) rC)
  (pss_cons (ub (i:=4) (yi (aE cW (pv 0) ae (aY _)) (rh f_rings_joined (hr.mono (by first|decide|omega)) (by rfl) (aa (pv 1) (aa (pv 2) ad))) (rh f_first_refused (hr.mono (by first|decide|omega)) (by rfl) (aa (pv 1) (aa (pv 2) ad)))) (by rfl) N.mE S.nd rfl (by rfl) (λ_=>(pss_one (aZ 3 S.nd (pv 4)))) rfl)
  (pss_cons (ps_if (aE wV (pv 3) rC rfl) (pss_one (bj aG)) pss_nil)
  (pss_cons (ps_if (PW.pt (nY (gO (aQ iI (by rfl) T.n_isinstance PyProof.Rows.boot_isinstance (aa (pv 3) (aa (pe_tup (aa (dw (v:=.ref c4) (by rfl) KD.m4 rfl) (aa (dw (v:=.ref c5) (by rfl) KD.m5 rfl) (aa (dw (v:=.ref c0) (by rfl) KD.m0 rfl) (aa (dw (v:=.ref CS) (by rfl) N.mS rfl) (aa (dw (v:=.ref c3) (by rfl) KD.m3 rfl) ad)))))) ad)))) (jB (rm (gO (aQ eB (by rfl) T.n_isinstance PyProof.Rows.boot_isinstance (aa (pv 3) (aa (um (v:=.ty "ValueError") (by rfl) KD.mV PyProof.Rows.Boot.«ValueError» rfl) ad)))))))) (pss_one (bj aG)) pss_nil)
  (pss_one (bj (az bh (pe_lst (aa aG (aa aG ad))) (bw dq (by rfl) T.n_int XJ (aa (aQ eB (by rfl) T.n_isinstance PyProof.Rows.boot_isinstance (aa (pv 3) (aa (dw (v:=.ref c2) (by rfl) KD.m2 rfl) ad))) ad))))))))),?_⟩
 x_go;kt_k;with_reducible refine s_asg ?_
 with_reducible refine i_c ?_
 kt_k;kt_k;with_reducible refine xv ?_
 generalize hTS:(λ(cls:Value) (ea:Option Addr) (H2:Hp)=>_)=EE
 have after:¬Fit r1 r2->∀H' e,cH c2 H H' e->EE (.ref c2) (some e) H':=λnf H' e r=>by
  subst hTS;have S1:=r.1;have hd:=r.held;refine⟨e,rfl,Z.ex,?_⟩;refine s_asg (ba rfl (aC ?_));dsimp only;lk;refine⟨rfl,_,rfl,ifF (by simp) ?_⟩;lk;refine⟨by simp[sizeLine],λp hp=>?_⟩;ctx_has H' p H1 S2 q2 aq hp;lk;refine xy (cs:=[c4,c5,c0,CS,c3]) (hd.same S2) Z.kl q2 Z.kO ?_;refine⟨_,rfl,iteF ?_⟩;lk;refine sM (hd.same S2) Z.kl (.inr ⟨_,rfl⟩) Z.kV ?_;refine⟨_,rfl,iteF ?_⟩;refine s_next ?_;lk;refine⟨by simp[sizeLine],λp2 hp2=>?_⟩;ctx_has H1 p2 H2 S3 q3 aq hp2;lk;refine sM ((hd.same S2).same S3) Z.kl (.inl ⟨_,rfl⟩) Z.k2 ?_;lk;exact kx nf H2 (S1.trans (S2.trans S3))
 clear hTS;refine Br ?_;lk;by_cases w0:way=0
 ·subst w0;refine ifT (by decide) (oF ?_);lk;refine⟨a1,li1,lo1,l1,a2,li2,lo2,l2,as1,as2,r1,r2,rfl,at1,at2,ok1,ok2,x1,x2,λf v H' S1=>?_,λnf H' e r=>after nf H' e r⟩;dsimp only;lk;refine⟨rfl,_,rfl,ifT (by simp) ?_⟩;lk;exact k f H' S1
 have nf:=wf (by omega)
 refine ifF (by
  rw[decide_eq_false_iff_not];intro q;injection q with q
  omega) (oF ?_)
 lk;exact⟨a1,li1,lo1,l1,a2,li2,lo2,l2,as1,as2,r1,r2,rfl,at1,at2,ok1,ok2,x1,x2,nf,after nf⟩
end
theorem xA (st:StOk n z) (hi:i<n) {G:VK} (g:G (.str (c7 z i)) H):(λ(xs:List V) (H:Hp) (Q:VK)=>∃z n,xs=[V.str z]/\PySem.intText? z=some n/\z.length<=640/\Q (V.int n) H) [V.str ⟨#[z.cps.getD i 0]⟩] H (λy H2=>mw (V.str "10") y H2 G):=by
 have sgns:z.cps.getD i 0=48\/z.cps.getD i 0=49:=by
  have hl:=st.len;have e:z.cps.getD i 0=z.cps[i]'(by omega):=by simp[Array.getD,hl,hi]
  rw[e];exact st.signs _ (by simp)
 have ef:c7 z i=if (z.cps.getD i 0==49)=true then ("0" : Str) else ("1" : Str):=rfl;rcases sgns with e|e
 ·rw[e];rw[e]at ef;refine⟨_,0,rfl,by decide +kernel,by decide,?_⟩;refine⟨"10", 0,49,rfl,rfl,by decide,by decide +kernel,?_⟩;rw[show (⟨#[49]⟩:Str) = "1" by decide +kernel,show ("1" : Str)=c7 z i from by rw[ef];rfl];exact g
 rw[e];rw[e]at ef;refine⟨_,1,rfl,by decide +kernel,by decide,?_⟩;refine⟨"10", 1,48,rfl,rfl,by decide,by decide +kernel,?_⟩;rw[show (⟨#[48]⟩:Str) = "0" by decide +kernel,show ("0" : Str)=c7 z i from by rw[ef];rfl];exact g
theorem uH (st:StOk n z) {p:Nat} (hi:i<n) (hp:p<n):StOk n ((Txt.slice (Txt.slice z none (some (i:Int))++Txt.slice z (some ((i:Int)+1)) none) none (some (p:Int))++⟨#[z.cps.getD i 0]⟩)++Txt.slice (Txt.slice z none (some (i:Int))++Txt.slice z (some ((i:Int)+1)) none) (some (p:Int)) none)/\(Txt.slice z none (some (i:Int))++Txt.slice z (some ((i:Int)+1)) none).length=n-1:=by
 have hl:=st.len;have a:=gH (z:=z) (j:=i) (by omega);have b:=eF (z:=z) (a:=i+1) (by omega);rw[show ((i+1:Nat):Int)=(i:Int)+1 from by omega]at b
 have e1:(Txt.slice z none (some (i:Int))++Txt.slice z (some ((i:Int)+1)) none).cps.toList=z.cps.toList.take i++z.cps.toList.drop (i+1):=by
  show (_++_:Array Nat).toList=_;rw[QK,a,b]
 have m1:∀c∈(Txt.slice z none (some (i:Int))++Txt.slice z (some ((i:Int)+1)) none).cps.toList,c=48\/c=49:=λc hc=>by
  rw[e1]at hc;rcases Qj.mp hc with h|h
  ·exact st.signs c (List.mem_of_mem_take h)
  exact st.signs c (List.mem_of_mem_drop h)
 have n1:(Txt.slice z none (some (i:Int))++Txt.slice z (some ((i:Int)+1)) none).cps.size=n-1:=by
  rw[<-Qg,e1,Qh,QA,Q3,Qg];omega
 generalize (Txt.slice z none (some (i:Int))++Txt.slice z (some ((i:Int)+1)) none)=y at m1 n1
 have sg:z.cps.getD i 0=48\/z.cps.getD i 0=49:=by
  have e:z.cps.getD i 0=z.cps[i]'(by omega):=by simp[Array.getD,hl,hi]
  rw[e];exact st.signs _ (by simp)
 have c:=gH (z:=y) (j:=p) (by omega);have d:=eF (z:=y) (a:=p) (by omega)
 have e:((Txt.slice y none (some (p:Int))++⟨#[z.cps.getD i 0]⟩)++Txt.slice y (some (p:Int)) none).cps.toList=(y.cps.toList.take p++[z.cps.getD i 0])++y.cps.toList.drop p:=by
  show ((_++_)++_:Array Nat).toList=_;rw[QK,QK,c,d]
 refine⟨⟨?_,λu hu=>?_⟩,n1⟩
 ·rw[<-Qg,e,Qh,Qh,QA,Q3,Qg];simp;omega
 rw[e]at hu;rcases Qj.mp hu with h|h
 ·rcases Qj.mp h with h|h
  ·exact m1 u (List.mem_of_mem_take h)
  rw[QF.mp h];exact sg
 exact m1 u (List.mem_of_mem_drop h)
theorem pV {xs ys:List Str} {k q:Nat} (h:k<xs.length):(xs.eraseIdx k++(ys.take q++xs[k]::ys.drop q)).Perm (xs++ys):=by
 refine(List.Perm.append_left _ List.perm_middle).trans ?_;rw[QX];exact List.perm_middle.trans (List.Perm.append_right ys (dv xs k h))
theorem nX {K:PySem.W.Frag} (hl:H l=some (.lst us)) (q:∀H',av H H'->Q (.bl (!(us.length==0))) H'):wu pq O H λy H2=>t_ K true (.ref l) y H2 Q:=by
 refine i_lst (bC ⟨by simp[sizeLine],λp hp=>?_⟩);refine⟨l,p,us,[],λ_=>true,rfl,rfl,SqL.of (aN hp _ _ hl),SqL.of ah,(λj x y _ h=>by simp at h),?_⟩;rw[Qp rfl,show (us.length==([]:List V).length&&(List.range us.length).all λ_=>true)=(us.length==0) by simp];exact q _ (aN hp)
def gE:Sp:=λvs H Q _=>∃(a li lo l:Addr) (as:List V) (r:Rg),vs=[.ref a]/\RgA H a li lo l as r/\RgOk r/\∀a' li' lo' l' H',H li'=none->H lo'=none->H l'=none->lo'≠li'->l'≠li'->l'≠lo'->av H H'->RgA H' a' li' lo' l' as r->Q (.ref a') H'
section
theorem kJ:FnScope ["ring"] ["ring"] (aA (top 51)):=by fin2
theorem pQ {f:Addr} {fd:FuncData} (Fu:Fun K "_law_copy" "_law_copy" (top 51) f fd) (T:Txt K mg TT):FnOk P w K mg base CX0 1 f fd ["ring"] gE:=by
 have S:=kJ;refine Fu.ok S (by room) (λcdv A outer s H vs Q E hr h=>?_);obtain⟨a,li,lo,l,as,r,rfl,at_,ok,k⟩:=h;refine⟨_,(pss_one (bj (pe_tup (aa (bw dF (by rfl) T.n_list PyProof.Rows.boot_list (aa (az aM (pv 0) ae) ad)) (aa (bw dF (by rfl) T.n_list PyProof.Rows.boot_list (aa (az aM (pv 0) ae) ad)) (aa (az aM (pv 0) ae) (aa (bw dF (by rfl) T.n_list PyProof.Rows.boot_list (aa (az aM (pv 0) ae) ad)) ad be)) be) be)))),?_⟩;x_go;have ha:=at_.ha;have hi:=at_.hi;lk;have step:∀{H':Hp} {p:Addr},H' p=none->∀(o:HO),RgA H' a li lo l as r->RgA (upd H' p o) a li lo l as r/\av H' (upd H' p o):=λ{H' p} hp o h=>⟨h.same (aN hp),aN hp⟩;refine λl1 h1=>?_;obtain⟨at1,S1⟩:=step h1 (.lst (r.ins.map V.str)) at_;have q1:upd H l1 (.lst (r.ins.map V.str)) l1=some (.lst (r.ins.map V.str)):=ah;generalize upd H l1 (.lst (r.ins.map V.str))=H1 at *;have ha1:=at1.ha;have ho1:=at1.ho;lk;refine λl2 h2=>?_;obtain⟨at2,S2⟩:=step h2 (.lst (r.outs.map V.str)) at1;have q2:upd H1 l2 (.lst (r.outs.map V.str)) l2=some (.lst (r.outs.map V.str)):=ah;generalize upd H1 l2 (.lst (r.outs.map V.str))=H2 at *;have ha2:=at2.ha;have hl2:=at2.arcs.h;lk;refine λl3 h3=>?_;obtain⟨at3,S3⟩:=step h3 (.lst as) at2;have q3:upd H2 l3 (.lst as) l3=some (.lst as):=ah;generalize upd H2 l3 (.lst as)=H3 at *;lk;refine⟨by simp[sizeLine],λa4 h4=>?_⟩;ctx_has H3 a4 H4 S4 q4 aq h4;exact k a4 l1 l2 l3 H4 h1 (av.free S1 h2) (av.free (S1.trans S2) h3) (aI q1 h2) (aI (S2 _ _ q1) h3) (aI q2 h3) ((S1.trans S2).trans (S3.trans S4)) ⟨q4,S4 _ _ (S3 _ _ (S2 _ _ q1)),S4 _ _ (S3 _ _ q2),S4 _ _ q3,(at3.same S4).arcs.p⟩
end
theorem wG {kvs:List (Key × V)} {ws:List Str} (nd:ws.Nodup) (sp:∀n∈ws,n∉cA) (kv:∀j n,j<ws.length->ws[j]?=some n->∃u,aW kvs (Sum.inr n:Key)=some (.str u)/\(u=n\/cA[j]?=some u)):∃g:Str->Str,(∀n∈ws,aW kvs (Sum.inr n:Key)=some (.str (g n)))/\∀x y,x∈ws->y∈ws->g x=g y->x=y:=by
 have key:∀n∈ws,∃(j:Nat) (u:Str),ws[j]?=some n/\aW kvs (Sum.inr n:Key)=some (.str u)/\(u=n\/cA[j]?=some u):=λn hn=>by
  obtain⟨j,hj,e⟩:=Q6.mp hn;have e':ws[j]?=some n:=by rw[Qd hj,e]
  obtain⟨u,h1,h2⟩:=kv j n hj e';exact⟨j,u,e',h1,h2⟩
 refine⟨λn=>match aW kvs (Sum.inr n:Key) with|some (.str u)=>u|_=>n,λn hn=>?_,λx y hx hy e=>?_⟩
 ·obtain⟨j,u,_,h,_⟩:=key n hn;simp only[h]
 obtain⟨j,u,ej,h,c⟩:=key x hx;obtain⟨j2,u2,ej2,h2,c2⟩:=key y hy;simp only[h,h2]at e;subst e;rcases c with c|c <;> rcases c2 with c2|c2
 ·rw[<-c,c2]
 ·exact absurd (QC c2) (by rw[c];exact sp x hx)
 ·exact absurd (QC c) (by rw[c2];exact sp y hy)
 have:j=j2:=(List.getElem?_inj (Qf.mp c).1 (by decide +kernel:cA.Nodup)).mp (c.trans c2.symm);subst this;rw[ej]at ej2;exact QN ej2
def tuR (g:Str->Str) (t:Tu):Tu:=(g t.1,t.2)
def BI (g:Str->Str) (a:Arc):Arc:=⟨tuR g a.one,tuR g a.two,a.mark⟩
theorem oG {K:PySem.W.Frag} {ws:List Str} {kvs:List (Key × V)} {g:Str->Str} (hv:O[i]?=some (some (.ref q))) (hj:O[j]?=some (some (.ref d))) (hq:H q=some (.lst (ws.map V.str))) (hd:H d=some (.dK kvs)) (nm:∀n∈ws,aW kvs (Sum.inr n:Key)=some (.str (g n))) (few:ws.length<=100)
  (k:∀p H2,av H H2->H p=none->H2 p=some (.lst ((ws.map g).map V.str))->Q (.ref p) H2):km (sO K (cT i)) (dH 0) tT (qP (cT 1) (cT 0)) (bv ["name"] [("names", j)]) O H Q:=by
 have e:bv ["name"] [("names", j)] O=[none,some (.ref d)]:=by show [none,O[j]?.join]=_;rw[hj];rfl
 refine cX (s_list (ba hv ⟨q,rfl,⟨_,SqL.of hq⟩,λD hD=>?_⟩));rw[e];refine fq (I:=λv n=>v=V.str n) (λ_=>true) (λH v (n:Str)=>v=V.str (g n)) hD hq (cI ws) (by omega) (λH H' v x k h=>h) (λv x H2 ev mx S2 G N hG _=>?_) (λH6 y1 S6 hy1 py1=>?_)
 ·subst ev;refine aC ⟨⟨rfl,trivial⟩,i_yes (iteT ?_)⟩;refine ba rfl (ba rfl ⟨d,_,rfl,?_,hG rfl _ H2 (av.refl _) rfl⟩);have z:=cL.k (k:=Sum.inr x) (S2 _ _ hd);rw[nm x mx]at z;exact z
 rw[cR]at py1;refine k D H6 S6 hD ?_;rw[hy1,cQ (f:=λn=>V.str (g n)) py1,XA];rfl
def kq:Sp:=λvs H Q _=>∃(D:Dk) (a1 li1 lo1 l1 a2 li2 lo2 l2:Addr) (as1 as2:List V) (r1 r2:Rg),vs=[.ref D.d,.ref a1,.ref a2]/\D.At H/\RgA H a1 li1 lo1 l1 as1 r1/\RgA H a2 li2 lo2 l2 as2 r2/\(∀b∈[li1,lo1,l1],¬D.own b)/\RgOk r1/\RgOk r2/\r2.arcs.length<=190/\(∀n∈r2.ws,n∉cA) /\
 ∀a li lo l as (r:Rg) H',Kp D H H'->(∀b∈[li,lo,l],H b=none)->RgA H' a li lo l as r->RgOk r->r.arcs.length<=190->Q (.ref a) H'
section
theorem iE:FnScope ["deck", "one", "other", "inputs", "outputs", "first", "arcs", "both", "way", "name", "at", "place", "sign", "names", "stay", "k"] ["deck", "one", "other"] (aA (top 52)):=by fin2
theorem pN {f:Addr} {fd:FuncData} (Fu:Fun K "_law_spoilt" "_law_spoilt" (top 52) f fd) (T:Txt K mg TT) (f_law_take:Fn P w K mg base "_law_take" ["deck", "many"] 1 eE) (f_law_copy:Fn P w K mg base "_law_copy" ["ring"] 1 gE):FnOk P w K mg base CX0 2 f fd ["deck", "one", "other"] kq:=by
 have S:=iE;refine Fu.ok S (by room) (λcdv A outer s H vs Q E hr h=>?_);obtain⟨D,a1,li1,lo1,l1,a2,li2,lo2,l2,as1,as2,r1,r2,rfl,DA,at1,at2,no1,ok1,ok2,few,sp2,k⟩:=h;have hu:=di hr;have big:10000<sizeLine:=by decide
 refine'⟨?_,?bb,?_⟩
 case bb =>
  walk_at "b";exact(jC (bi f_law_copy hr (aa (pv 2) ad ak)) (eJ rfl (aO (bu 3 S.nd) (aO (bu 4 S.nd) (aO (bu 5 S.nd) (aO (bu 6 S.nd) cq))))));exact(nZ (j:=7) S.nd rfl (by z_go) (tgs:=["name"]) (cap:=[("one", 1)]) rfl ⟨rfl,rfl,rfl,rfl,rfl,rfl⟩ (cF (pv 3)) (λ_ _ _ _=>(bK (i:=0) (show List.Nodup [("name" : Str),("one" : Str)] by decide +kernel) rfl (by z_go))) (λ_ _ _ _=>(eZ (aE (gY (K:=K) rfl) (pv 0) (az (cZ (K:=K) rfl) (pv 1) ae) rfl))) (λ_ _ _ _=>(pv 0)));exact aZ 8 S.nd (bi f_law_take hr (aa (pv 0) (aa ae ad aD) ak));exact(PW.pt (cN (aE cW (pv 8) ae (aY _)) (cc (aE (jE hr.units) (pv 7) (pe_lst ad) (aY _)))));exact aZ 9 S.nd (az bh (pv 7) (bi f_law_take hr (aa (pv 0) (aa (aQ aV (by rfl) T.n_len Xe (aa (pv 7) ad ak)) ad be) ak)));exact aZ 10 S.nd (cP QV PySem.F.slot_list_index PySem.F.type_list_index lq (pv 3) (aa (pv 9) ad ak));exact aZ 11 S.nd (aP dB (aP gW (aQ aV (by rfl) T.n_len Xe (aa (pv 3) ad ak)) ae) (bi f_law_take hr (aa (pv 0) (aa (aP dB (aQ aV (by rfl) T.n_len Xe (aa (pv 4) ad ak)) ae) ad) ak)));exact aZ 12 S.nd (az eO (pv 5) (pv 10));exact aZ 5 S.nd (aP cB (df fG (pv 5) d5 (dZ (pv 10))) (df fG (pv 5) (dZ (aP dB (pv 10) ae)) d5));exact(cE (cP QV PySem.F.slot_list_remove PySem.F.type_list_remove (mI hr.units) (pv 3) (aa (pv 9) ad ak)));exact(cE (cP QV PySem.F.slot_list_insert PySem.F.type_list_insert mJ (pv 4) (aa (aP gW (pv 11) (aQ aV (by rfl) T.n_len Xe (aa (pv 3) ad ak))) (aa (pv 9) ad ak))));refine' bj ?e
  case e =>
   walk_at "q";exact(pv 3);exact(pv 4);exact(aP cB (aP cB (df fG (pv 5) d5 (dZ (pv 11))) (pv 12)) (df fG (pv 5) (dZ (pv 11)) d5));exact(pv 6)
  exact(PW.pt (cN (aE cW (pv 8) ae (aY _)) (cc (aE (jE hr.units) (pv 7) (pe_lst ad) (aY _)))));exact aZ 10 S.nd (cP QV PySem.F.slot_list_index PySem.F.type_list_index lq (pv 3) (aa (az bh (pv 7) (bi f_law_take hr (aa (pv 0) (aa (aQ aV (by rfl) T.n_len Xe (aa (pv 7) ad ak)) ad be) ak))) ad));refine' bj ?e
  case e =>
   walk_at "q";exact(pv 3);exact(pv 4);exact(aP cB (aP cB (df fG (pv 5) d5 (dZ (pv 10))) (az eO aG (bw db (by rfl) T.n_int XJ (aa (az eO (pv 5) (pv 10)) ad)))) (df fG (pv 5) (dZ (aP dB (pv 10) ae)) d5));exact(pv 6)
  exact aZ 13 S.nd gR;exact aZ 14 S.nd (bi f_law_take hr (aa (pv 0) (aa ae ad aD) ak));walk_at "f";exact(uf (by rfl) T.n_enumerate (aa (aP bJ (pv 3) (pv 4)) ad));exact(eJ rfl (aO (bu 15 S.nd) (aO (bu 9 S.nd) cq)));walk_at "p";exact(ce hu (pv 13) (pv 9) (az bh (pe_lst (aa aG (aa aG (aa aG (aa aG (aa aG ad aD) aD) aD) aD) aD)) (pv 15)) rfl);exact(PW.pt (cN (aE cW (pv 14) ae (aY _)) (cN (aE d7 (pv 9) (aP bJ (az aM (pv 1) ae) (az aM (pv 1) ae)) rfl) (cc (aE og (bi f_law_take hr (aa (pv 0) (aa ae ad aD) ak)) ae (aY _))))));exact(ce hu (pv 13) (pv 9) (pv 9) rfl);exact aZ 6 S.nd (aQ (eP rfl hu) (by rfl) T.n_sorted PyProof.Rows.boot_sorted (aa (rD (tgs:=["u", "v", "mark"]) (cap:=[("names", 13)]) rfl ⟨rfl,rfl,rfl,rfl,rfl,rfl⟩ (cF (pv 6)) (λ_ _ _ _=>(gq (K:=K) (n:=3) rfl rfl (aO (bK (i:=0) (show List.Nodup [("u" : Str),("v" : Str),("mark" : Str),("names" : Str)] by decide +kernel) rfl (by z_go)) (aO (bK (i:=1) (show List.Nodup [("u" : Str),("v" : Str),("mark" : Str),("names" : Str)] by decide +kernel) rfl (by z_go)) (aO (bK (i:=2) (show List.Nodup [("u" : Str),("v" : Str),("mark" : Str),("names" : Str)] by decide +kernel) rfl (by z_go)) cq))))) (λ_ _ _ _=>gQ) (λ_ _ _ _=>(pe_tup (aa (pe_tup (aa (cr hu (pv 3) (az (cZ (K:=K) rfl) (pv 0) ae)) (aa (az (cZ (K:=K) rfl) (pv 0) ae) ad))) (aa (pe_tup (aa (cr hu (pv 3) (az (cZ (K:=K) rfl) (pv 1) ae)) (aa (az (cZ (K:=K) rfl) (pv 1) ae) ad))) (aa (pv 2) ad ak) se_tup) se_tup)))) ad));refine' bj ?e
  case e =>
   walk_at "q";exact(iT "name" [("names", 13)] (cF (pv 3)) (λ_ _ _ _=>(cr hu (pv 1) (pv 0))));exact(iT "name" [("names", 13)] (cF (pv 4)) (λ_ _ _ _=>(cr hu (pv 1) (pv 0))));exact(pv 5);exact(pv 6)
 x_go;have o1:=ok1.w5;have o2:=ok2.w5;have w52:r2.ins.length+r2.outs.length<=5:=by unfold Rg.ws at o2;rwa [Qh]at o2
 lk;refine⟨a2,li2,lo2,l2,as2,r2,rfl,at2,ok2,λa li lo l H1 fi fo fl0 n1 n2 n3 S1 at_=>?_⟩;refine⟨a,_,rfl,SqT.of at_.ha,rfl,?_⟩;refine⟨_,_,rfl,aC ⟨_,_,rfl,aC ⟨_,_,rfl,aC ⟨_,_,rfl,aC ⟨rfl,?_⟩⟩⟩⟩⟩;have at11:=at1.same S1;have ha11:=at11.ha;have ho11:=at11.ho;have hi_:=at_.hi;lk;refine cX (s_list (ba rfl ⟨li,rfl,⟨_,SqL.of hi_⟩,λL hL=>?_⟩));let I16:IvC:=λm H' us=>av H1 H'/\H' L=some (.lst us)/\us=((r2.ins.take m).filter λn=>decide (n∈r1.outs)).map V.str;refine m9 (xs:=r2.ins.map V.str) I16 ⟨aN hL,ah,by simp⟩ (λm H' ys p=>⟨p.2.1,SqL.of (p.1 _ _ hi_)⟩) (λm v H' us e p=>?_) (λH2 us p=>?_)
 ·obtain⟨Sm,hd,rfl⟩:=p;rw[Qy]at e;obtain⟨n,hn,rfl⟩:=Xy.mp e;have hm:m<r2.ins.length:=(Qf.mp hn).1;have tk:(r2.ins.take (m+1)).filter (λn=>decide (n∈r1.outs))=(r2.ins.take m).filter (λn=>decide (n∈r1.outs))++[n].filter (λn=>decide (n∈r1.outs)):=by rw[XZ,hn,List.filter_append];rfl
  refine aC ⟨by repeat' (first|exact trivial|refine⟨rfl,?_⟩),?_⟩;refine i_test (i_op (ba rfl (i_op (ba rfl (i_c (i_ixT (Sm _ _ ha11) rfl ⟨lo1,_,rfl,.inl (SqL.of (Sm _ _ ho11)),rfl,bZ _,⟨_,rfl,?_⟩⟩))))));by_cases c:n∈r1.outs
  ·refine ifT (bH.mpr c) ?_;refine ba rfl (oX.mk hd (by rw[Qb];exact hm) ?_ ⟨bO Sm hL,ah,?_⟩)
   ·rw[Qb];have:=List.length_filter_le (λn=>decide (n∈r1.outs)) (r2.ins.take m);rw[QA]at this;omega
   rw[tk,QO,List.filter_cons_of_pos (by simpa using c)];rfl
  refine ifF (by rw[show inV (.str n) (r1.outs.map V.str)=false from Xu.mpr λz=>c (bH.mp z)];rfl) ?_;rw[Qb];refine⟨r2.ins.length-(m+1),by omega,rfl,by omega,Sm,hd,?_⟩;rw[tk,List.filter_cons_of_neg (by simpa using c),List.filter_nil,X0]
 obtain⟨S2,hb,rfl⟩:=p;rw[Qb,Q1 (Qi _)]at hb;have bmem:∀n,n∈(r2.ins.filter λn=>decide (n∈r1.outs))↔n∈r2.ins/\n∈r1.outs:=λn=>by rw[List.mem_filter];simp
 have blen:=List.length_filter_le (λn=>decide (n∈r1.outs)) r2.ins;generalize (r2.ins.filter λn=>decide (n∈r1.outs))=bo at hb bmem blen;have kp2:Kp D H H2:=Kp.of DA (S1.trans S2);have ni:=aw DA fi;have no_:=aw DA fo;have nl:=aw DA fl0;have nL:¬D.own L:=aw DA (cY S1 hL);have at2:=at_.same S2;refine aC ?_;kt_k;lk;refine⟨D,3,rfl,kp2.dk,by omega,by omega,λway H3 w0 w1 k3=>?_⟩;have kp3:=kp2.trans k3;have at3:RgA H3 a li lo l as2 r2:=at2.kp kp2.dk k3 (by simp[ni,no_,nl]);have hb3:=k3.old _ _ hb nL;refine aC ?_;let I17:IvJ:=λO G=>O=[some (.ref D.d),some (.ref a1),some (.ref a2),some (.ref li),some (.ref lo),some (.str r2.z),some (.ref l),some (.ref L),some (.int way),none,none,none,none,none,none,none]/\av H3 G/\(way=0->bo=[]);with_reducible refine cU I17 (λRR hJ=>?_) (λO G h=>?_)
 ·lk;by_cases c0:way=0
  case neg =>
   refine ifF (QE λe=>c0 (by injection e)) ?_;refine iteF ?_;exact s_next (hJ _ _ ⟨rfl,av.refl _,λe=>absurd e c0⟩)
  refine ifT (QG (by rw[c0])) ?_;refine i_test (i_op (ba rfl (nX hb3 λH4 S4=>⟨_,rfl,?_⟩)));rw[Qb];by_cases cb:bo=[]
  ·refine ifF (by rw[cb];rfl) ?_;exact s_next (hJ _ _ ⟨rfl,S4,λ_=>cb⟩)
  refine ifT (by cases bo with
   | nil=>exact absurd rfl cb
   | cons x y=>rfl) ?_
  have kp4:=kp3.trans (Kp.of k3.dk S4);have at4:=at3.same S4;have hb4:=S4 _ _ hb3
  have b1:1<=bo.length:=by cases bo with
   | nil=>exact absurd rfl cb
   | cons x y=>simp
  lk;refine⟨D,(bo.length:Int),by rw[Qb],kp4.dk,by omega,by omega,λr H6 r0' r1' k6=>?_⟩;have kp6:=kp4.trans k6;have at6:RgA H6 a li lo l as2 r2:=at4.kp kp4.dk k6 (by simp[ni,no_,nl]);have hb6:=k6.old _ _ hb4 nL;have hi6:=at6.hi;have ho6:=at6.ho;obtain⟨j,ej⟩:∃j:Nat,r=(j:Int):=⟨r.toNat,by omega⟩;subst ej;have hj:j<bo.length:=by omega
  have mem:=(bmem bo[j]).mp (XT hj);have eb:(bo.map V.str)[j]?=some (.str bo[j]):=by rw[Qy,Qd hj];rfl
  generalize bo[j]=nm at mem eb;have hix:r2.ins.idxOf nm<r2.ins.length:=X7 mem.1;have hk:r2.ins.idxOf nm<r2.ws.length:=by unfold Rg.ws;rw[Qh];omega
  refine i_ixL (v:=.str nm) (SqL.of hb6) (bQ eb) ?_;lk;refine⟨li,r2.ins,nm,r2.ins.idxOf nm,rfl,rfl,hi6,ig mem.1,fR,by omega,?_⟩;lk;refine⟨D,(r2.outs.length:Int)+1,by rw[Qb],kp6.dk,by omega,by omega,λq H7 q0 q1 k7=>?_⟩;obtain⟨p,ep⟩:∃p:Nat,q=(p:Int):=⟨q.toNat,by omega⟩;subst ep;have kp7:=kp6.trans k7;have at7:RgA H7 a li lo l as2 r2:=at6.kp kp6.dk k7 (by simp[ni,no_,nl]);have hi7:=at7.hi;have ho7:=at7.ho;have zl:=ok2.st.len;have zl':r2.z.length=r2.z.cps.size:=rfl;have s1:=Txt.slice_le r2.z none (some ((r2.ins.idxOf nm:Nat):Int));have s2:=Txt.slice_le r2.z (some (((r2.ins.idxOf nm:Nat):Int)+1)) none;have wsl:r2.ws.length=r2.ins.length+r2.outs.length:=by unfold Rg.ws;rw[Qh]
  obtain⟨mv,ml⟩:=uH ok2.st (p:=r2.ins.length-1+p) hk (by omega);rw[Qb];refine⟨_,_,rfl,rfl,?_⟩;dsimp only;rw[show ((r2.ins.length:Int)-1+(p:Int))=((r2.ins.length-1+p:Nat):Int) by omega];lk;refine ij (by omega) (oU ok2.st hk) ?_;lk;refine iZ (by omega) ?_;lk;refine iZ (by omega) ?_;refine⟨_,_,rfl,rfl,by omega,?_⟩;lk;generalize (Txt.slice r2.z none (some ((r2.ins.idxOf nm:Nat):Int))++Txt.slice r2.z (some (((r2.ins.idxOf nm:Nat):Int)+1)) none)=y at mv ml ⊢
  have ef:∀v∈r2.ins.map V.str,EqD K H7 8 v (.str nm) (eqV v (.str nm)):=λv hv=>by
   obtain⟨u,_,rfl⟩:=Qr.mp hv;exact EqD.flat (K:=K) (H:=H7) (n:=8) (x:=.str u) (y:=.str nm) rfl rfl
  refine⟨li,r2.ins.map V.str,.str nm,λv=>eqV v (.str nm),r2.ins.idxOf nm,.str nm,rfl,rfl,hi7,ef,by rw[Qy,ig mem.1];rfl,?_,λm v hm e=>?_,?_⟩
  ·show (nm==nm)=true;simp
  ·rw[Qy]at e;obtain⟨u,hu',rfl⟩:=Xy.mp e;show (u==nm)=false;exact beq_eq_false_iff_ne.mpr λc=>fR m hm (by rw[hu',c])
  rw[d_];generalize hE:upd H7 li _=H8;have i8:H8 li=some (.lst ((r2.ins.eraseIdx (r2.ins.idxOf nm)).map V.str)):=by rw[<-hE,ah]
  have o8:H8 lo=some (.lst (r2.outs.map V.str)):=by rw[<-hE,am n1];exact ho7
  have l8:H8 l=some (.lst as2):=by rw[<-hE,am n2];exact at7.arcs.h
  have kp8:Kp D H H8:=by rw[<-hE];exact Kp.fresh DA fi kp7
  have kt8:bI H7 H8:=by rw[<-hE];exact bX hi7
  clear hE;have el:(r2.ins.eraseIdx (r2.ins.idxOf nm)).length=r2.ins.length-1:=by rw[List.length_eraseIdx,Qp hix]
  lk;refine⟨lo,r2.outs.map V.str,.str nm,p,rfl,?_,by rw[Qb];omega,by omega,o8,by rw[Qb];omega,?_⟩
  ·rw[Qb,el];simp only[List.cons.injEq,V.int.injEq,and_true];omega
  rw[show (r2.outs.map V.str).take p++V.str nm::(r2.outs.map V.str).drop p=(r2.outs.take p++nm::r2.outs.drop p).map V.str by simp[List.map_take,List.map_drop]];generalize hE:upd H8 lo _=H9;have i9:H9 li=some (.lst ((r2.ins.eraseIdx (r2.ins.idxOf nm)).map V.str)):=by rw[<-hE,am n1.symm];exact i8
  have o9:H9 lo=some (.lst ((r2.outs.take p++nm::r2.outs.drop p).map V.str)):=by rw[<-hE,ah]
  have l9:H9 l=some (.lst as2):=by rw[<-hE,am n3];exact l8
  have kp9:Kp D H H9:=by rw[<-hE];exact Kp.fresh DA fo kp8
  have kt9:bI H8 H9:=by rw[<-hE];exact bX o8
  clear hE;have s3:=Txt.slice_le y none (some ((r2.ins.length-1+p:Nat):Int));have s4:=Txt.slice_le y (some ((r2.ins.length-1+p:Nat):Int)) none;have l2:(Txt.slice y none (some ((r2.ins.length-1+p:Nat):Int))++⟨#[r2.z.cps.getD (r2.ins.idxOf nm) 0]⟩).length=(Txt.slice y none (some ((r2.ins.length-1+p:Nat):Int))).length+1:=Xr;have l3:(⟨#[r2.z.cps.getD (r2.ins.idxOf nm) 0]⟩:Str).length=1:=rfl;lk;refine iZ (by omega) ?_;lk;refine⟨_,_,rfl,rfl,by omega,?_⟩;lk;refine iZ (by omega) ?_;refine⟨_,_,rfl,rfl,by rw[l2];omega,?_⟩;lk;refine⟨by simp[sizeLine],λa9 h9=>?_⟩;ctx_has H9 a9 H10 S10 q10 aq h9;have pm:=pV (xs:=r2.ins) (ys:=r2.outs) (q:=p) hix;rw[List.getElem_idxOf hix]at pm;have pw:(r2.ins.eraseIdx (r2.ins.idxOf nm)++(r2.outs.take p++nm::r2.outs.drop p)).Perm r2.ws:=pm;have pl:=pw.length_eq;have o5:=ok2.w5;have o1':=ok2.w1;refine k a9 li lo l as2 ⟨r2.ins.eraseIdx (r2.ins.idxOf nm),r2.outs.take p++nm::r2.outs.drop p,_,r2.arcs⟩ H10 (kp9.trans (Kp.of kp9.dk S10)) (by simp[fi,fo,fl0]) ⟨q10,S10 _ _ i9,S10 _ _ o9,⟨S10 _ _ l9,au (λ_ _ h=>ArA.kt (av.tups S10) (ArA.kt kt9 (ArA.kt kt8 h))) at7.arcs.p⟩⟩ ⟨pw.nodup_iff.mpr ok2.nd,?_,?_,?_,ok2.few,λx hx=>(ok2.arcs x hx).sub λn hn=>pw.mem_iff.mpr hn⟩ few
  ·exact QR o1' (Nat.le_of_eq pl.symm)
  ·exact QR (Nat.le_of_eq pl) o5
  show StOk (r2.ins.eraseIdx (r2.ins.idxOf nm)++(r2.outs.take p++nm::r2.outs.drop p)).length _;rw[pl];exact mv
 obtain⟨rfl,S4,cw⟩:=h;have kp4:=kp3.trans (Kp.of k3.dk S4);have at4:=at3.same S4;have hb4:=S4 _ _ hb3
 try dsimp only
 let I18:IvJ:=λO G'=>O=[some (.ref D.d),some (.ref a1),some (.ref a2),some (.ref li),some (.ref lo),some (.str r2.z),some (.ref l),some (.ref L),some (.int way),none,none,none,none,none,none,none]/\av G G';with_reducible refine cU I18 (λRR hJ=>?_) (λO G' h=>?_)
 ·lk;by_cases c0:way=1
  case neg =>
   refine ifF (QE λe=>c0 (by injection e)) ?_;refine iteF ?_;exact s_next (hJ _ _ ⟨rfl,av.refl _⟩)
  refine ifT (QG (by rw[c0])) ?_;refine i_test (i_op (ba rfl (nX hb4 λH5 S5=>⟨_,rfl,?_⟩)));rw[Qb];by_cases cb:bo=[]
  ·refine ifF (by rw[cb];rfl) ?_;exact s_next (hJ _ _ ⟨rfl,S5⟩)
  refine ifT (by cases bo with
   | nil=>exact absurd rfl cb
   | cons x y=>rfl) ?_
  have kp5:=kp4.trans (Kp.of kp4.dk S5);have at5:=at4.same S5;have hi5:=at5.hi;have hb5:=S5 _ _ hb4
  have b1:1<=bo.length:=by cases bo with
   | nil=>exact absurd rfl cb
   | cons x y=>simp
  lk;refine⟨D,(bo.length:Int),by rw[Qb],kp5.dk,by omega,by omega,λr H6 r0' r1' k6=>?_⟩;have kp6:=kp5.trans k6;have at6:RgA H6 a li lo l as2 r2:=at5.kp kp5.dk k6 (by simp[ni,no_,nl]);have hb6:=k6.old _ _ hb5 nL;have hi6:=at6.hi;obtain⟨j,ej⟩:∃j:Nat,r=(j:Int):=⟨r.toNat,by omega⟩;subst ej;have hj:j<bo.length:=by omega
  have mem:=(bmem bo[j]).mp (XT hj);have eb:(bo.map V.str)[j]?=some (.str bo[j]):=by rw[Qy,Qd hj];rfl
  generalize bo[j]=nm at mem eb;have hix:r2.ins.idxOf nm<r2.ins.length:=X7 mem.1;have hk:r2.ins.idxOf nm<r2.ws.length:=by unfold Rg.ws;rw[Qh];omega
  refine i_ixL (v:=.str nm) (SqL.of hb6) (bQ eb) (bC ⟨li,r2.ins,nm,r2.ins.idxOf nm,rfl,rfl,hi6,ig mem.1,fR,by omega,?_⟩);lk;have zl:=ok2.st.len;have zl':r2.z.length=r2.z.cps.size:=rfl;have s1:=Txt.slice_le r2.z none (some ((r2.ins.idxOf nm:Nat):Int));have s2:=Txt.slice_le r2.z (some (((r2.ins.idxOf nm:Nat):Int)+1)) none
  have fl:(c7 r2.z (r2.ins.idxOf nm)).length=1:=by
   unfold c7
   split
   ·decide +kernel
   decide +kernel
  have l1:(Txt.slice r2.z none (some ((r2.ins.idxOf nm:Nat):Int))++c7 r2.z (r2.ins.idxOf nm)).length=(Txt.slice r2.z none (some ((r2.ins.idxOf nm:Nat):Int))).length+(c7 r2.z (r2.ins.idxOf nm)).length:=Xr;refine iZ (by omega) ?_;refine i_op (i_c ?_);refine i_cb (i_cons (i_op (ba rfl (ba rfl (ij (by omega) (oU ok2.st hk) ?_)))));refine bC (xA ok2.st hk ?_);refine⟨_,_,rfl,rfl,by omega,?_⟩;lk;refine iZ (by omega) ?_;refine⟨_,_,rfl,rfl,by rw[l1];omega,?_⟩;lk;refine⟨by simp[sizeLine],λa9 h9=>?_⟩;ctx_has H6 a9 H9 S9 q9 aq h9;have at9:=at6.same S9;refine k a9 li lo l as2 ⟨r2.ins,r2.outs,nr r2.z (r2.ins.idxOf nm),r2.arcs⟩ H9 (kp6.trans (Kp.of kp6.dk S9)) (by simp[fi,fo,fl0]) ⟨q9,at9.hi,at9.ho,at9.arcs⟩ ⟨ok2.nd,ok2.w1,ok2.w5,tR ok2.st hk,ok2.few,ok2.arcs⟩ few
 obtain⟨rfl,S5⟩:=h;have kp5:=kp4.trans (Kp.of kp4.dk S5);have at5:=at4.same S5;have DB:=kp5.dk;have kp0:=kp5;have at15:RgA G' a1 li1 lo1 l1 as1 r1:=at1.kp DA kp5 no1;clear S4 S5 kp4 kp3 k3 kp2 at4 at3 hb4 hb3 hb bmem blen at11 ha11 ho11 hi_ at_ S1 S2 at2 at1 cw DA;lk;refine λM hM=>?_;have nM:¬D.own M:=aw DB hM;ctx_has G' M H6 S6 q6 aq hM;have kp6:Kp D G' H6:=Kp.of DB S6;lk;refine⟨D,2,rfl,kp6.dk,by omega,by omega,λstay H7 s0 s1 k7=>?_⟩;have kp7:=kp6.trans k7;have q7:=k7.old _ _ q6 nM;have at7:RgA H7 a li lo l as2 r2:=at5.kp DB kp7 (by simp[ni,no_,nl]);refine aC ?_
 try dsimp only
 have hi7:=at7.hi;have ho7:=at7.ho;lk;show dG _ _ _ _ _;lk;refine cJ hi7 ho7 (by rw[Qb,Qb];omega) λLw hLw=>?_;rw[<-QO];ctx_has H7 Lw H8 S8 q8 aq hLw;have q8:H8 Lw=some (.lst (r2.ws.map V.str)):=q8;have nLM:Lw≠M:=aI q7 hLw;have nLw:¬D.own Lw:=aw kp7.dk hLw;have kp8:=kp7.trans (Kp.of kp7.dk S8);have q78:=S8 _ _ q7;clear S8 hLw hi7 ho7 at7 q7 k7 kp7 S6 q6 kp6;lk;refine⟨Lw,rfl,⟨_,SqL.of q8⟩,?_⟩;let I19:IvF:=λi O H'=>∃(y9 y15:Option V) (kvs:List (Key × V)),O=[some (.ref D.d),some (.ref a1),some (.ref a2),some (.ref li),some (.ref lo),some (.str r2.z),some (.ref l),some (.ref L),some (.int way),y9,none,none,none,some (.ref M),some (.int stay),y15]/\Kp D G' H'/\H' Lw=some (.lst (r2.ws.map V.str))/\H' M=some (.dK kvs)/\kvs.length<=2*i/\∀j n,j<i->r2.ws[j]?=some n->∃u,aW kvs (Sum.inr n:Key)=some (.str u)/\(u=n\/cA[j]?=some u);refine sR (xs:=r2.ws.map V.str) I19 ⟨_,_,[],rfl,kp8,q8,q78,Qi _,λj n h=>absurd h (Nat.not_lt_zero _)⟩ (λi O H' _ ⟨_,_,_,_,_,h,_⟩=>SqL.of h) (λi x O H' t hx pv ht=>?_) (λO H' pv=>?_)
 ·obtain⟨y9,y15,kvs,rfl,kp,hw,hm,kl,kv⟩:=pv;rw[Qy]at hx;obtain⟨n,hn,rfl⟩:=Xy.mp hx;have hi5:i<r2.ws.length:=(Qf.mp hn).1;have S9:=aN (o:=.tup [.int (i:Nat),.str n]) ht;refine⟨t,_,rfl,SqT.of ah,rfl,?_⟩;refine⟨_,_,rfl,aC ⟨_,_,rfl,aC ⟨rfl,?_⟩⟩⟩;have kp9:=kp.trans (Kp.of kp.dk S9);have hw9:=S9 _ _ hw;have hm9:=S9 _ _ hm;generalize upd H' t (.tup [.int (i:Nat),.str n])=H9 at *;clear S9 hm hw kp ht;lk;refine cV ?_;lk;refine⟨by simp[sizeLine],λp hp=>?_⟩;ctx_has H9 p H10 S10 q10 aq hp;have hm10:=S10 _ _ hm9;have hw10:=S10 _ _ hw9;have kp10:=kp9.trans (Kp.of kp9.dk S10);clear S10 hm9 hw9 kp9 hp
  obtain⟨u,eu,ea⟩:∃u,cA[i]?=some u/\atI [V.str "c", V.str "de", V.str "fgh", V.str "reqc", V.str "zzzzzzzy"] (i:Nat)=some (V.str u):=by
   have:i=0\/i=1\/i=2\/i=3\/i=4:=by omega
   rcases this with rfl|rfl|rfl|rfl|rfl <;> exact⟨_,rfl,rfl⟩
  refine ba rfl (i_ixL (v:=.str u) (SqL.of q10) ea ?_);lk;refine⟨M,_,rfl,eS.k (k:=Sum.inr n) hm10 (by omega),?_⟩
  have kv2:∀j m,j<i+1->r2.ws[j]?=some m->∃u',aW (bn kvs (Sum.inr n:Key) (.str u)) (Sum.inr m:Key)=some (.str u')/\(u'=m\/cA[j]?=some u'):=λj m hj em=>by
   rw[bt];by_cases e:m=n
   ·subst e;rw[Qp rfl];have:i=j:=(List.getElem?_inj hi5 ok2.nd).mp (hn.trans em.symm);subst this;exact⟨u,rfl,.inr eu⟩
   rw[Qn λz=>e (Sum.inr.inj z)];have:j≠i:=λz=>e (by rw[z,hn]at em;exact(QN em).symm);exact kv j m (by omega) em
  have kl2:(bn kvs (Sum.inr n:Key) (.str u)).length<=2*i+1:=QR (br _ _ _) (by omega);generalize bn kvs (Sum.inr n:Key) (.str u)=kvs2 at kv2 kl2;generalize hE:upd H10 M (.dK kvs2)=H11;have hm11:H11 M=some (.dK kvs2):=by rw[<-hE];exact ah
  have hw11:H11 Lw=some (.lst (r2.ws.map V.str)):=by rw[<-hE,am nLM];exact hw10
  have kp11:Kp D G' H11:=by rw[<-hE];exact Kp.fresh DB hM kp10
  clear hE hm10 hw10 kp10 q10 kv kl;lk;by_cases c0:stay=1
  case neg =>
   refine ifF (QE λe=>c0 (by injection e)) ?_;refine iteF ?_;exact s_next ⟨_,_,kvs2,rfl,kp11,hw11,hm11,by omega,kv2⟩
  refine ifT (QG (by rw[c0])) ?_;have at1b:=at15.kp DB kp11 no1;have ha1b:=at1b.ha;have hi1b:=at1b.hi;have ho1b:=at1b.ho;lk;refine cJ hi1b ho1b (by rw[Qb,Qb];unfold Rg.ws at o1;rw[Qh]at o1;omega) λLc hLc=>?_;rw[<-QO];ctx_has H11 Lc H12 S12 q12 aq hLc;have hm12:=S12 _ _ hm11;have hw12:=S12 _ _ hw11;have kp12:=kp11.trans (Kp.of kp11.dk S12);clear S12 hm11 hw11 kp11 hLc at1b ha1b hi1b ho1b;refine⟨Lc,_,rfl,.inl (SqL.of q12),rfl,bZ _,_,rfl,?_⟩;by_cases c1:inV (.str n) ((r1.ins++r1.outs).map V.str)=true
  case neg =>
   refine ifF (Xu.mpr c1) ?_;refine iteF ?_;exact s_next ⟨_,_,kvs2,rfl,kp12,hw12,hm12,by omega,kv2⟩
  refine ifT c1 ?_;lk;refine⟨D,3,rfl,kp12.dk,by omega,by omega,λr Hr r0 r1' kr=>?_⟩;have kpr:=kp12.trans kr;have hmr:=kr.old _ _ hm12 nM;have hwr:=kr.old _ _ hw12 nLw;clear kr hm12 hw12 kp12 q12;lk;by_cases c2:0<r
  case neg =>
   refine ifF (QE c2) ?_;exact s_next ⟨_,_,kvs2,rfl,kpr,hwr,hmr,by omega,kv2⟩
  refine ifT (QG c2) ?_;lk;refine cV ?_;lk;refine⟨M,_,rfl,eS.k (k:=Sum.inr n) hmr (by omega),?_⟩;refine⟨_,_,bn kvs2 (Sum.inr n:Key) (.str n),rfl,Kp.fresh DB hM kpr,by rw[am nLM];exact hwr,ah,?_,λj m hj em=>?_⟩
  ·have:=br kvs2 (Sum.inr n:Key) (.str n);omega
  rw[bt];by_cases e:m=n
  ·subst e;rw[Qp rfl];exact⟨m,rfl,.inl rfl⟩
  rw[Qn λz=>e (Sum.inr.inj z)];exact kv2 j m hj em
 obtain⟨y9,y15,kvs,rfl,kp,hw,hm,kl,kv⟩:=pv;rw[Qb]at kl kv;obtain⟨g,hg,inj⟩:=wG ok2.nd sp2 kv;have atz:RgA H' a li lo l as2 r2:=at5.kp DB kp (by simp[ni,no_,nl]);clear kv hw at15 at5 q8 q78;lk
 have dget:∀{H2:Hp} {n:Str},av H' H2->n∈r2.ws->cL H2 M (.str n) (some (.str (g n))):=λ{H2 n} S' hn=>by
  have z:=cL.k (k:=Sum.inr n) (S' _ _ hm);rw[hg n hn]at z;exact z
 refine cX (s_list (ba rfl ⟨l,rfl,⟨_,SqL.of atz.arcs.h⟩,λDl hDl=>?_⟩));refine fq (λ_=>true) (λH v (a:Arc)=>ArA H v (BI g a)) hDl atz.arcs.h atz.arcs.p (by omega) (λH H' v x k h=>h.kt k) (λv x H2 ia mx S' G N hG _=>?_) (λH5 ys S5 hy p=>?_)
 ·obtain⟨b,v1,v2,rfl,hb,t1,t2⟩:=ia.kt (av.tups S');obtain⟨b1,rfl,hb1⟩:=t1;obtain⟨b2,rfl,hb2⟩:=t2;have ao:=ok2.arcs x mx;refine⟨b,_,rfl,SqT.of hb,rfl,_,_,rfl,aC ⟨_,_,rfl,aC ⟨_,_,rfl,aC ⟨rfl,⟨rfl,trivial⟩,i_yes (iteT ?_)⟩⟩⟩⟩;lk;refine⟨M,_,rfl,dget S' ao.o.1,?_⟩;lk;refine⟨by simp[sizeLine],λc1 hc1=>?_⟩;ctx_has H2 c1 G1 T1 g1 aq hc1;have hb2':=T1 _ _ hb2;lk;refine⟨M,_,rfl,dget (S'.trans T1) ao.t.1,?_⟩;lk;refine⟨by simp[sizeLine],λc2 hc2=>?_⟩;ctx_has G1 c2 G2 T2 g2 aq hc2;lk;refine⟨by simp[sizeLine],λc3 hc3=>?_⟩;ctx_has G2 c3 G3 T3 g3 aq hc3;exact hG rfl _ _ ((T1.trans T2).trans T3) ⟨c3,_,_,rfl,g3,⟨c1,rfl,T3 _ _ (T2 _ _ g1)⟩,c2,rfl,T3 _ _ g2⟩
 rw[cR]at p;have p:=gT (f:=BI g) p;have kp5:=kp.trans (Kp.of kp.dk S5);refine bC (gG hy p (by rw[Qb];exact few) λps vs9 ars hps pars pm so=>?_);ctx_has H5 ps H6 S6 q6 aq hps;have at6:=(atz.same S5).same S6;have hm6:=S6 _ _ (S5 _ _ hm);have fps:H ps=none:=kp0.free (kp5.free hps);lk;refine oG rfl rfl at6.hi hm6 (λn h=>hg n (QH _ h)) (by omega) λpi H7 S7 hpi q7=>?_;have at7:=at6.same S7;have hm7:=S7 _ _ hm6;have kp6:=kp5.trans (Kp.of kp5.dk S6);have kp7:=kp6.trans (Kp.of kp6.dk S7);lk;refine oG rfl rfl at7.ho hm7 (λn h=>hg n (QJ _ h)) (by omega) λpo H8 S8 hpo q8=>?_;lk;refine⟨by simp[sizeLine],λa9 h9=>?_⟩;ctx_has H8 a9 H9 S9 q9 aq h9;have kp8:=kp7.trans (Kp.of kp7.dk S8);have ew:r2.ins.map g++r2.outs.map g=r2.ws.map g:=by rw[<-QO];rfl
 have tk:∀t,fV r2.ws t->fV (r2.ws.map g) (tuR g t):=λt h=>⟨List.mem_map_of_mem h.1,h.2⟩;have lw:(r2.ws.map g).length=r2.ws.length:=Qb ..;have o1':=ok2.w1;refine k a9 pi po ps vs9 ⟨r2.ins.map g,r2.outs.map g,r2.z,ars⟩ H9 (kp0.trans (kp8.trans (Kp.of kp8.dk S9))) ?_ ⟨q9,S9 _ _ (S8 _ _ q7),S9 _ _ q8,⟨S9 _ _ (S8 _ _ (S7 _ _ q6)),au (λ_ _ h=>ArA.kt (av.tups ((S6.trans S7).trans (S8.trans S9))) h) pars⟩⟩ ⟨?_,?_,?_,?_,?_,λx hx=>?_⟩ ?_
 ·intro b hb;simp only[Qw,QY,or_false]at hb;rcases hb with rfl|rfl|rfl
  ·exact kp0.free (kp6.free hpi)
  ·exact kp0.free (kp7.free hpo)
  exact fps
 ·show (r2.ins.map g++r2.outs.map g).Nodup;rw[ew];exact Xs.mpr (List.Pairwise.imp_of_mem (λha hb ne e=>ne (inj _ _ ha hb e)) ok2.nd)
 ·show 1<=(r2.ins.map g++r2.outs.map g).length;rw[ew,lw];exact o1'
 ·show (r2.ins.map g++r2.outs.map g).length<=5;rw[ew,lw];exact o2
 ·show StOk (r2.ins.map g++r2.outs.map g).length r2.z;rw[ew,lw];exact ok2.st
 ·show ars.length<=1000;rw[pm.length_eq,Qb];omega
 ·obtain⟨y,hy,rfl⟩:=Qr.mp (pm.mem_iff.mp hx);have ao:=ok2.arcs y hy;show ArOk (r2.ins.map g++r2.outs.map g) _;rw[ew];refine⟨tk _ ao.o,tk _ ao.t,λe=>ao.ne ?_,ao.m⟩;have e:tuR g y.one=tuR g y.two:=e;have e1:(tuR g y.one).1=(tuR g y.two).1:=congrArg Prod.fst e;have e2:(tuR g y.one).2=(tuR g y.two).2:=congrArg Prod.snd e;exact Prod.ext (inj _ _ ao.o.1 ao.t.1 e1) e2
 show ars.length<=190;rw[pm.length_eq,Qb];exact few
end
inductive Al (H:Hp):Nat->V->V->Prop where
 | str {n:Nat} {z:Str}:Al H (n+1) (.str z) (.str z)
 | int {n:Nat} {i:Int}:Al H (n+1) (.int i) (.int i)
 | tup {n:Nat} {a b:Addr} {xs ys:List V}:H a=some (.tup xs)->H b=some (.tup ys)->xs.length=ys.length->ys.length<=1000->(∀(j:Nat) x y,xs[j]?=some x->ys[j]?=some y->Al H n x y)->Al H (n+1) (.ref a) (.ref b)
 | lst {n:Nat} {a b:Addr} {xs ys:List V}:H a=some (.lst xs)->H b=some (.lst ys)->xs.length=ys.length->ys.length<=1000->(∀(j:Nat) x y,xs[j]?=some x->ys[j]?=some y->Al H n x y)->Al H (n+1) (.ref a) (.ref b)
theorem Al.eqd {K:PySem.W.Frag} (h:Al H n v u):EqD K H n v u true:=by
 induction h with
 | @str n z =>
  have h:=EqD.flat (K:=K) (H:=H) (n:=n+1) (x:=.str z) (y:=.str z) rfl rfl;have e:eqV (.str z) (.str z)=true:=by simp[eqV]
  rw[e]at h;exact h
 | @int n i =>
  have h:=EqD.flat (K:=K) (H:=H) (n:=n+1) (x:=.int i) (y:=.int i) rfl rfl;have e:eqV (.int i) (.int i)=true:=by simp[eqV]
  rw[e]at h;exact h
 | @tup n a b xs ys h1 h2 h3 h4 _ ih =>
  by_cases c:a=b
  ·subst c;exact .same
  have h:=EqD.tups (e:=λ_=>true) (SqT.of h1) (SqT.of h2) (λj x y e1 e2=>ih j x y e1 e2) c;have e:((List.range (min xs.length ys.length)).all (λ_=>true)&&xs.length==ys.length)=true:=by simp[h3]
  rw[e]at h;exact h
 | @lst n a b xs ys h1 h2 h3 h4 _ ih =>
 by_cases c:a=b
 ·subst c;exact .same
 have h:=EqD.lists (e:=λ_=>true) (SqL.of h1) (SqL.of h2) h3 (λj x y e1 e2=>ih j x y e1 e2) c;have e:(List.range xs.length).all (λ_=>true)=true:=by simp
 rw[e]at h;exact h
theorem rG {A:V->V->Prop} {x y:V} (h1:A x u) (h2:A y v):∀(j:Nat) a b,[x,y][j]?=some a->[u,v][j]?=some b->A a b:=λj a b e1 e2=>by
 match j with
 | 0=>cases e1;cases e2;exact h1
 | 1=>cases e1;cases e2;exact h2
 | j+2=>simp at e1
theorem wR {A:V->V->Prop} {x y z t:V} (h1:A x u) (h2:A y v) (h3:A z t):∀(j:Nat) a b,[x,y,z][j]?=some a->[u,v,t][j]?=some b->A a b:=λj a b e1 e2=>by
 match j with
 | 0=>cases e1;cases e2;exact h1
 | 1=>cases e1;cases e2;exact h2
 | 2=>cases e1;cases e2;exact h3
 | j+3=>simp at e1
theorem oV (ns:List Str):∀(j:Nat) x y,(ns.map V.str)[j]?=some x->(ns.map V.str)[j]?=some y->Al H (n+1) x y:=λj x y e1 e2=>by
 rw[e1]at e2;cases e2;rw[Qy]at e1
 cases h:ns[j]? with
 | none=>rw[h]at e1;cases e1
 | some z=>rw[h]at e1;cases e1;exact .str
theorem Al.le (h:Al H n v u):∀{m:Nat},n<=m->Al H m v u:=by
 induction h with
 | str =>
  intro m hm;obtain⟨k,rfl⟩:∃k,m=k+1:=⟨m-1,by omega⟩;exact .str
 | int =>
  intro m hm;obtain⟨k,rfl⟩:∃k,m=k+1:=⟨m-1,by omega⟩;exact .int
 | tup h1 h2 h3 h4 _ ih =>
  intro m hm;obtain⟨k,rfl⟩:∃k,m=k+1:=⟨m-1,by omega⟩;exact .tup h1 h2 h3 h4 λj x y e1 e2=>ih j x y e1 e2 (by omega)
 | lst h1 h2 h3 h4 _ ih =>
 intro m hm;obtain⟨k,rfl⟩:∃k,m=k+1:=⟨m-1,by omega⟩;exact .lst h1 h2 h3 h4 λj x y e1 e2=>ih j x y e1 e2 (by omega)
theorem uN (S:av H H1) (hD:H D.d=none) (k:Kp D H1 H2):av H H2:=λb o e=>k.old b o (S _ _ e) λz=>by
 have z:b=D.d:=z;rw[z,hD]at e;cases e
theorem wQ {A:V->V->Prop} {x y z w t s:V} (h1:A x u) (h2:A y v) (h3:A z t) (h4:A w s):∀(j:Nat) a b,[x,y,z,w][j]?=some a->[u,v,t,s][j]?=some b->A a b:=λj a b e1 e2=>by
 match j with
 | 0=>cases e1;cases e2;exact h1
 | 1=>cases e1;cases e2;exact h2
 | 2=>cases e1;cases e2;exact h3
 | 3=>cases e1;cases e2;exact h4
 | j+4=>simp at e1
theorem vZ {t:Tu} (h1:TuA H u t) (h2:TuA H v t):Al H (n+2) u v:=by
 obtain⟨a,rfl,h1⟩:=h1;obtain⟨b,rfl,h2⟩:=h2;exact .tup h1 h2 rfl (by simp) (rG .str .str)
theorem xP (h1:ArA H u x) (h2:ArA H v x):Al H (n+3) u v:=by
 obtain⟨a,u1,u2,rfl,h1,s1,s2⟩:=h1;obtain⟨b,v1,v2,rfl,h2,t1,t2⟩:=h2;exact .tup h1 h2 rfl (by simp) (wR (vZ s1 t1) (vZ s2 t2) .int)
theorem u3 (p1:Paired (ArA H) xs as) (p2:Paired (ArA H) ys as):∀(j:Nat) a b,xs[j]?=some a->ys[j]?=some b->Al H (n+3) a b:=λj a b e1 e2=>by
 obtain⟨x,ex,h1⟩:=paired_get p1 e1;obtain⟨y,ey,h2⟩:=paired_get p2 e2;rw[ex]at ey;cases ey;exact xP h1 h2
theorem oW {a' li' lo' l':Addr} {as:List V} (h1:RgA H a li lo l as r) (h2:RgA H a' li' lo' l' as' r) (ok:RgOk r):Al H 6 (.ref a) (.ref a'):=by
 have w5:r.ins.length+r.outs.length<=5:=by have:=ok.w5;unfold Rg.ws at this;rw[Qh]at this;exact this
 have l1:=a_ h1.arcs.p;have l2:=a_ h2.arcs.p;have few:=ok.few;exact .tup h1.ha h2.ha rfl (by simp) (wQ (.lst h1.hi h2.hi rfl (by rw[Qb];omega) (oV _)) (.lst h1.ho h2.ho rfl (by rw[Qb];omega) (oV _)) .str (.lst h1.arcs.h h2.arcs.h (by omega) (by omega) (u3 h1.arcs.p h2.arcs.p)))
def nJ (K:PySem.W.Frag):Sp:=λvs H Q _=>∃(a:Addr) (ns:List Int),vs=[.ref a]/\SqL K H a (ns.map V.int)/\ns.length<=63/\∀H',Q (.bl true) H'
theorem tW {K:PySem.W.Frag} (h:SqL K H a xs) (k:∀o,H a=some o->H' a=some o):SqL K H' a xs:=by
 rcases h with h|h
 ·left
  rcases h with e|⟨o,e⟩
  ·exact .inl (k _ e)
  exact .inr ⟨o,k _ e⟩
 exact .inr h
theorem Bt {K:PySem.W.Frag} (hl:H l=some (.lst [.str "NoFit", .str "told"])) {b:Bool} (k:Q (.str (if b=true then "told" else "NoFit")) H):my K (.ref l) (.int (if b=true then 1 else 0)) H Q:=by
 cases b
 ·exact i_ixL (v:=.str "NoFit") (SqL.of hl) rfl k
 exact i_ixL (v:=.str "told") (SqL.of hl) rfl k
theorem sK {bb:Bool} {way:Nat} {mo m:Addr} {x y:Rg} {E:XK} (hb:bb=true↔Fit x y) (h1:RgA H a li lo l us x) (h2:RgA H b mi mo m vs y) (oka:RgOk x) (okb:RgOk y) (fa:x.arcs.length<=190) (fb:y.arcs.length<=190) (w1:way<=1) (w2:way=1->bb=false)
  (k:∀H',av H H'->Q (.str (if bb=true then "told" else "NoFit")) H'):gC [.int (way:Int),.ref a,.ref b] H Q E :=
 ⟨way,a,li,lo,l,b,mi,mo,m,us,vs,x,y,rfl,h1,h2,oka,okb,fa,fb,w1,λe f=>(by rw[hb.mpr f]at w2;exact absurd (w2 e) (by decide)),λf H' S=>by have:=k H' S;rw[Qp (hb.mpr f)]at this;exact this,λnf H' S=>by have:=k H' S;rw[Qn (λz=>nf (hb.mp z))]at this;exact this⟩
section
theorem wA:FnScope ["script", "k", "deck", "one", "other", "bad", "pair", "handed", "due"] ["script"] (aA (top 54)):=by fin2
theorem rW {f:Addr} {fd:FuncData} (Fu:Fun K "law" "law" (top 54) f fd) (T:Txt K mg TT) (f_law_cell_at:Fn P w K mg base "_law_cell_at" ["script", "k"] 1 (kA K)) (f_law_deck:Fn P w K mg base "_law_deck" ["cell", "many"] 2 gD) (f_law_two:Fn P w K mg base "_law_two" ["deck", "most"] 3 vi) (f_law_spoilt:Fn P w K mg base "_law_spoilt" ["deck", "one", "other"] 2 kq) (f_law_copy:Fn P w K mg base "_law_copy" ["ring"] 1 gE) (f_law_fits:Fn P w K mg base "_law_fits" ["one", "other"] 1 nK) (f_law_word:Fn P w K mg base "_law_word" ["way", "one", "other"] 7 gC):FnOk P w K mg base CX0 8 f fd ["script"] (nJ K):=by
 have S:=wA;refine Fu.ok S (by room) (λcdv A outer s H vs Q E hr h=>?_);obtain⟨sc,ns,rfl,hS,n63,q⟩:=h;have hu:=di hr;have big:1000000<sizeLine:=by decide
 refine'⟨?_,?bb,?_⟩
 case bb =>
  walk_at "b";walk_at "f";exact(bU (by rfl) T.n_range (aa (aQ (qy rfl) (by rfl) T.n_max PyProof.Rows.boot_max (aa ae (aa (aQ (i_ rfl) (by rfl) T.n_min PyProof.Rows.boot_min (aa (aQ aV (by rfl) T.n_len Xe (aa (pv 0) ad ak)) (aa ae ad aD) be)) ad be) aD)) ad be));exact(bu 1 S.nd);walk_at "p";exact aZ 2 S.nd (bi f_law_deck hr (aa (bi f_law_cell_at hr (aa (pv 0) (aa (pv 1) ad ak) ak)) (aa ae ad aD) be));exact(jC (bi f_law_two hr (aa (pv 2) (aa ae ad aD) ak)) (ug rfl (aO (bu 3 S.nd) (aO (bu 4 S.nd) cq))));exact aZ 5 S.nd (bi f_law_spoilt hr (aa (pv 2) (aa (pv 3) (aa (pv 4) ad ak) ak) ak));walk_at "f";exact(rp (pe_tup (aa (pe_tup (aa (pv 3) (aa (pv 5) ad ak) ak)) (aa (pe_tup (aa (pv 5) (aa (pv 3) ad ak) ak)) ad se_tup) se_tup)));exact(bu 6 S.nd);walk_at "p";exact aZ 7 S.nd (pe_lst (aa (bi f_law_copy hr (aa (az aM (pv 6) ae) ad)) (aa (bi f_law_copy hr (aa (az aM (pv 6) ae) ad)) ad be) be));exact aZ 8 S.nd (az bh (pe_lst (aa aG (aa aG ad aD) aD)) (bw dq (by rfl) T.n_int XJ (aa (bi f_law_fits hr (aa (az aM (pv 6) ae) (aa (az aM (pv 6) ae) ad))) ad be)));exact(aE gX (bi f_law_word hr (aa ae (aa (az bh (pv 7) ae) (aa (az bh (pv 7) ae) ad)) aD)) (pv 8) (aY _));exact(bj kY);exact(PW.pt (cN (aE cW (pv 8) aG (aY _)) (cc (aE gX (bi f_law_word hr (aa ae (aa (az bh (pv 7) ae) (aa (az bh (pv 7) ae) ad)) aD)) (pv 8) (aY _)))));exact(bj kY);exact(aE (jE hr.units) (pv 7) (pe_lst (aa (az aM (pv 6) ae) (aa (az aM (pv 6) ae) ad))) (aY _));exact(bj kY);exact(bj kY)
 x_go;lk;refine⟨sc,_,rfl,.inl hS,?_⟩;lk;refine⟨_,_,rfl,?_⟩;lk;refine⟨_,_,rfl,?_⟩;rw[Qb]
 obtain⟨N,hN,N10⟩:∃N:Nat,(if (if (8:Int)<(ns.length:Int) then 8 else (ns.length:Int))>1 then (if (8:Int)<(ns.length:Int) then 8 else (ns.length:Int)) else 1)=(N:Int)/\N<=10:=by
  by_cases c:(8:Int)<(ns.length:Int)
  ·rw[Qp c];exact⟨8,by decide,by omega⟩
  rw[Qn c];by_cases c2:(ns.length:Int)>1
  ·rw[Qp c2];exact⟨ns.length,rfl,by omega⟩
  rw[Qn c2];exact⟨1,rfl,by omega⟩
 rw[hN];lk;refine⟨by omega,by omega,?_⟩;rw[Q9];refine bY (n:=N) (λi O H'=>(∃x1 x2 x3 x4 x5 x6 x7 x8,O=[some (.ref sc),x1,x2,x3,x4,x5,x6,x7,x8])/\av H H') ⟨⟨_,_,_,_,_,_,_,_,rfl⟩,av.refl H⟩ (λi O H0 hi pv=>?_) (λO H' pv=>?_)
 ·obtain⟨⟨x1,x2,x3,x4,x5,x6,x7,x8,rfl⟩,S0⟩:=pv;refine aC ?_;lk;refine⟨sc,ns,i,by rw[Int.zero_add],tW hS λo e=>S0 _ _ e,by omega,λc=>?_⟩;lk;refine⟨c,170,rfl,by omega,λd xs H1 S1 hd h1=>?_⟩;lk;refine⟨⟨d⟩,5,rfl,⟨xs,h1⟩,by decide,by decide,λR a1 li1 lo1 l1 as1 r1 a2 li2 lo2 l2 as2 r2 ws H3 k3 hR qR at1 at2 g1 g2 dis w5 s1 s2 sp no1=>?_⟩;refine⟨R,_,rfl,SqL.of qR,rfl,_,_,rfl,aC ⟨_,_,rfl,aC ⟨rfl,?_⟩⟩⟩;lk;refine⟨⟨d⟩,a1,li1,lo1,l1,a2,li2,lo2,l2,as1,as2,r1,r2,rfl,k3.dk,at1,at2,no1,g1.ok,g2.ok,g2.x.few,λn hn=>sp n (s2 n hn),λab lib lob lb asb rb H4 k4 fb atb okb fewb=>?_⟩;have at14:RgA H4 a1 li1 lo1 l1 as1 r1:=at1.kp k3.dk k4 no1;have S04:av H0 H4:=uN S1 hd (k3.trans k4);have S4':=S0.trans S04;have ok1:=g1.ok;have few1:=g1.x.few;clear S1 S04 k3 k4 h1 hd at1 at2 hR qR fb no1 S0 dis s1 s2 g1 g2 w5 sp;lk;refine vj ?_;lk;refine⟨by simp[sizeLine],λt1 ht1=>?_⟩;ctx_has H4 t1 H5 S5 q5 aq ht1;lk;refine⟨by simp[sizeLine],λt2 ht2=>?_⟩;ctx_has H5 t2 H6 S6 q6 aq ht2;lk;refine⟨by simp[sizeLine],λtp htp=>?_⟩;ctx_has H6 tp H7 S7 q7 aq htp;have S67:=S6.trans S7;have S57:=S5.trans S67;have at17:=at14.same S57;have atb7:=atb.same S57;have q57:=S67 _ _ q5;have q67:=S7 _ _ q6;have S7':=S4'.trans S57;clear S5 S6 S7 S67 S57 S4' at14 atb q5 q6 ht1 ht2 htp
  have get:∀(j:Nat) v,[V.ref t1,V.ref t2][j]?=some v->∃(p a li lo l b mi mo m:Addr) (us vs:List V) (x y:Rg),v=.ref p/\H7 p=some (.tup [.ref a,.ref b])/\RgA H7 a li lo l us x/\RgA H7 b mi mo m vs y/\RgOk x/\RgOk y/\x.arcs.length<=190/\y.arcs.length<=190:=λj v h=>by
   match j with
   | 0=>cases h;exact⟨_,_,_,_,_,_,_,_,_,_,_,_,_,rfl,q57,at17,atb7,ok1,okb,few1,fewb⟩
   | 1=>cases h;exact⟨_,_,_,_,_,_,_,_,_,_,_,_,_,rfl,q67,atb7,at17,okb,ok1,fewb,few1⟩
   | j+2=>simp at h
  refine⟨tp,rfl,⟨_,SqT.of q7⟩,?_⟩;refine uU (K:=K) (xs:=[V.ref t1,V.ref t2]) (λj O H'=>(∃x1 x2 x3 x4 x5 x6 x7 x8,O=[some (.ref sc),x1,x2,x3,x4,x5,x6,x7,x8])/\av H7 H') ⟨⟨_,_,_,_,_,_,_,_,rfl⟩,av.refl _⟩ (λj O H' _ pv=>SqT.of (pv.2 _ _ q7)) (λj v O H' hv pv=>?_) (λO H' pv=>?_)
  ·obtain⟨⟨x1,x2,x3,x4,x5,x6,x7,x8,rfl⟩,SA⟩:=pv;obtain⟨p,a,li,lo,l,b,mi,mo,m,us,vs,x,y,rfl,qp,ata,atb,oka,okb,fa,fb⟩:=get j v hv;have qp0:=SA _ _ qp;have ata0:=ata.same SA;have atb0:=atb.same SA;clear get qp ata atb hv;refine aC ?_;lk;refine⟨a,li,lo,l,us,x,rfl,ata0,oka,λa' li' lo' l' HB f1 f2 f3 n1 n2 n3 SB atc=>?_⟩;have qpB:=SB _ _ qp0;have ataB:=ata0.same SB;have atbB:=atb0.same SB;lk;refine⟨b,mi,mo,m,vs,y,rfl,atbB,okb,λb' mi' mo' m' HC f4 f5 f6 n4 n5 n6 SC atd=>?_⟩;lk;refine⟨by simp[sizeLine],λhn hhn=>?_⟩;ctx_has HC hn HD SD qh aq hhn;have SCD:=SC.trans SD;have qpD:=SCD _ _ qpB;have ataD:=ataB.same SCD;have atbD:=atbB.same SCD;have atcD:=atc.same SCD;have atdD:=atd.same SD;have SAD:=SA.trans (SB.trans SCD);clear SA SB SC SD SCD qp0 qpB ata0 atb0 ataB atbB atc atd f1 f2 f3 f4 f5 f6 n1 n2 n3 n4 n5 n6 hhn;lk;refine⟨by simp[sizeLine],λp1 hp1=>?_⟩;ctx_has HD p1 HE SE qe aq hp1;have qpE:=SE _ _ qpD;lk;refine⟨a,li,lo,l,b,mi,mo,m,us,vs,x,y,rfl,ataD.same SE,atbD.same SE,oka,okb,λbb HF SF hb=>?_⟩;refine .inr ⟨bb,rfl,Bt (SF _ _ qe) ?_⟩;have SEF:=SE.trans SF;have qhF:=SEF _ _ qh;have qpF:=SEF _ _ qpD;have ataF:=ataD.same SEF;have atbF:=atbD.same SEF;have atcF:=atcD.same SEF;have atdF:=atdD.same SEF;have SAF:=SAD.trans SEF;clear SE SF SEF qh qpD qpE ataD atbD atcD atdD SAD qe hp1;lk;refine sK (way:=0) hb atcF atdF oka okb fa fb (by omega) (λe=>absurd e (by decide)) λHG SG=>?_;lk;refine ifF (by simp) ?_;have qhG:=SG _ _ qhF;have atcG:=atcF.same SG;have atdG:=atdF.same SG;kt_k;let I20:IvJ:=λO G=>O=[some (.ref sc),x1,x2,x3,x4,x5,some (.ref p),some (.ref hn),some (.str (if bb=true then "told" else "NoFit"))]/\av HG G;with_reducible refine cU I20 (λRR hJ=>?_) (λO G h=>?_)
   ·lk
    cases bb with
    | true =>
     refine ifF (by decide +kernel) ?_;refine iteF ?_;exact s_next (hJ _ _ ⟨rfl,av.refl _⟩)
    | false =>
    refine ifT (by decide +kernel) ?_;lk;refine sK (way:=1) hb atcG atdG oka okb fa fb (by omega) (λe=>rfl) λHI SI=>?_;lk;refine ifF (by simp) ?_;exact s_next (hJ _ _ ⟨rfl,SI⟩)
   obtain⟨rfl,SI⟩:=h;have SGI:=SG.trans SI;have qhI:=SGI _ _ qhF;have qpI:=SGI _ _ qpF;have SAI:=SAF.trans SGI;have ataI:=ataF.same SGI;have atbI:=atbF.same SGI;have atcI:=atcF.same SGI;have atdI:=atdF.same SGI;clear SG SI SGI qhF qpF SAF ataF atbF atcF atdF qhG atcG atdG;lk;refine⟨by simp[sizeLine],λp9 hp9=>?_⟩;ctx_has G p9 HJ SJ qj aq hp9;refine Bs (SqL.of (SJ _ _ qhI)) (SqL.of qj) rfl (rG (A:=λx y=>EqD K HJ 8 x y true) (((oW (atcI.same SJ) (ataI.same SJ) oka).le (by decide)).eqd) (((oW (atdI.same SJ) (atbI.same SJ) okb).le (by decide)).eqd)) ?_;refine⟨_,rfl,ifF rfl ?_⟩;exact s_next ⟨⟨_,_,_,_,_,_,_,_,rfl⟩,SAI.trans SJ⟩
  exact⟨pv.1,S7'.trans pv.2⟩
 lk;exact q H'
end
end K2
namespace K2
open PySem L2 PySem.Spec PyProof.Rows
variable {A:Type}
theorem vP {us:List A} (h:us.length=1):∃a0,us=[a0]:=by
 match us,h with
 | [a0],_=>exact⟨_,rfl⟩
theorem Bm {us:List A} (h:us.length=2):∃a0 a1,us=[a0,a1]:=by
 match us,h with
 | [a0,a1],_=>exact⟨_,_,rfl⟩
theorem Bl {us:List A} (h:us.length=3):∃a0 a1 a2,us=[a0,a1,a2]:=by
 match us,h with
 | [a0,a1,a2],_=>exact⟨_,_,_,rfl⟩
theorem Bk {us:List A} (h:us.length=5):∃a0 a1 a2 a3 a4,us=[a0,a1,a2,a3,a4]:=by
 match us,h with
 | [a0,a1,a2,a3,a4],_=>exact⟨_,_,_,_,_,rfl⟩
structure FX (K:PySem.W.Frag) (n:Str) (i:Nat) (f:Addr) (cd:Value):Prop where
 a:PySem.W.nsIn K mainGlobals n=some (some (.ref f))
 l:∃oc od kV dc pm an ct sl,K.lookup f=some ⟨oc,od,.func (PySem.W.fnOf n n (cu (top i)) (bN (top i)) (aA (top i)) .none kV dc pm an cd ct),sl⟩
 c:PySem.W.codeIn K cd n=true
 k:PySem.W.keepIn K (.ref f)=true
variable {h:Heap} {cd:Value} {f fa:Addr}
theorem FX.fn {K:PySem.W.Frag} {n:Str} {i:Nat} {mg:D3} (X:K.In h) (G:h.Ns mainGlobals mg) (x:FX K n i f cd):∃fd,Fun K n n (top i) f fd/\mg n=some (.ref f):=by
 obtain⟨a,⟨_,_,_,_,_,_,_,_,l⟩,c,k⟩:=x;exact⟨_,sQ (st:=top i) l c k,Xv X G a⟩
abbrev ZN (K:PySem.W.Frag) (n:Str):Prop:=PySem.W.nsIn K mainGlobals n=some none
variable {p:List Value->Prop}
theorem bn1 (h:∀a0,p [a0]) (us:List Value) (hl:us.length=1):p us:=by
 obtain⟨a0,e⟩:=vP hl;subst e;exact h a0
theorem bn2 (h:∀a0 a1,p [a0,a1]) (us:List Value) (hl:us.length=2):p us:=by
 obtain⟨a0,a1,e⟩:=Bm hl;subst e;exact h a0 a1
theorem bn3 (h:∀a0 a1 a2,p [a0,a1,a2]) (us:List Value) (hl:us.length=3):p us:=by
 obtain⟨a0,a1,a2,e⟩:=Bl hl;subst e;exact h a0 a1 a2
theorem bn5 (h:∀a0 a1 a2 a3 a4,p [a0,a1,a2,a3,a4]) (us:List Value) (hl:us.length=5):p us:=by
 obtain⟨a0,a1,a2,a3,a4,e⟩:=Bk hl;subst e;exact h a0 a1 a2 a3 a4
variable {ps loose:List Str}
theorem FX.go (P:Program) (w:World) (base:Heap) {K:PySem.W.Frag} {n:Str} {i k:Nat} {mg:D3} {sp:Sp} (X:K.In h) (G:h.Ns mainGlobals mg) (x:FX K n i f cd) (o:∀fd,Fun K n n (top i) f fd->mg n=some (.ref f)->dS K fd ps []->FnOk P w K mg base CX0 k f fd ps sp)
  (hb:∀(kV doc pm:Value) (an:Option Addr) (cdv ct:Value) (us:List Value),us.length=ps.length->bindArgs (PySem.W.fnOf n n (cu (top i)) (bN (top i)) (aA (top i)) .none kV doc pm an cdv ct) ⟨us,[]⟩=pure (ps.zip us):=by intro _ _ _ _ _ _;first|exact bn1 λ_=>rfl|exact bn2 λ_ _=>rfl|exact bn3 λ_ _ _=>rfl|exact bn5 λ_ _ _ _ _=>rfl):Fn P w K mg base n ps k sp:=by
 obtain⟨fd,F,m⟩:=x.fn X G;have b:=F.binds hb;exact⟨f,fd,o fd F m b,m,x.k,b⟩
theorem FX.go1 (P:Program) (w:World) (base:Heap) {K:PySem.W.Frag} {n:Str} {i k:Nat} {mg:D3} {sp:Sp} (X:K.In h) (G:h.Ns mainGlobals mg) (x:FX K n i f cd) (o:∀fd,Fun K n n (top i) f fd->mg n=some (.ref f)->dS K fd ps []->FnOk P w K mg base (CX1 P w) k f fd ps sp)
  (hb:∀(kV doc pm:Value) (an:Option Addr) (cdv ct:Value) (us:List Value),us.length=ps.length->bindArgs (PySem.W.fnOf n n (cu (top i)) (bN (top i)) (aA (top i)) .none kV doc pm an cdv ct) ⟨us,[]⟩=pure (ps.zip us):=by intro _ _ _ _ _ _;first|exact bn1 λ_=>rfl|exact bn2 λ_ _=>rfl|exact bn3 λ_ _ _=>rfl|exact bn5 λ_ _ _ _ _=>rfl):Fn1 P w K mg base n ps k sp:=by
 obtain⟨fd,F,m⟩:=x.fn X G;have b:=F.binds hb;exact⟨f,fd,o fd F m b,m,x.k,b⟩
theorem xO {l:PySem.W.OpenLaw} {w:World} {K:PySem.W.Frag} {mg:D3} (X:K.In h) (G:h.Ns mainGlobals mg) (hfa:mg "law" = some (.ref fa))
  (aT:PySem.W.nsIn K mainGlobals "TURNED" = some (some (.ref 108))) (tab:nA K 108 [("0", .flat (.str "1")),("1", .flat (.str "0"))])
  (aS:PySem.W.nsIn K mainGlobals "SIGNS_AHEAD" = some (some (.ref 149))) (tabS:nA K 149 [("+", .flat (.str "0")),("-", .flat (.str "1"))])
  (cn0:PySem.W.nsIn K mainGlobals "MOST_NODES" = some (some (.int 40 381)))
  (cn1:PySem.W.nsIn K mainGlobals "MOST_WIRES" = some (some (.int 5 394)))
  (x0:FX K "row_of" 10 113 (.ref 112)) (x1:FX K "inputs_left" 13 127 (.ref 126)) (x2:FX K "arcs_joined" 33 209 (.ref 208)) (x3:FX K "signs_joined" 34 216 (.ref 215)) (x4:FX K "rings_joined" 35 223 (.ref 222)) (x5:FX K "first_refused" 38 244 (.ref 243)) (x6:FX K "_law_cell_at" 40 251 (.ref 250)) (x7:FX K "_law_numbers" 41 258 (.ref 257)) (x8:FX K "_law_deck" 42 265 (.ref 264)) (x9:FX K "_law_take" 43 272 (.ref 271)) (x10:FX K "_law_wire_names" 44 279 (.ref 278)) (x11:FX K "_law_order" 45 286 (.ref 285)) (x12:FX K "_law_ring" 46 291 (.ref 290)) (x13:FX K "_law_two" 47 296 (.ref 295)) (x14:FX K "_law_signs" 48 303 (.ref 302)) (x15:FX K "_law_fits" 50 315 (.ref 314)) (x16:FX K "_law_copy" 51 322 (.ref 321)) (x17:FX K "_law_spoilt" 52 327 (.ref 326)) (x18:FX K "_law_word" 53 334 (.ref 333)) (x19:FX K "law" 54 341 (.ref 340))
  (z0:ZN K "len") (z1:ZN K "range") (z2:ZN K "max") (z3:ZN K "min") (z4:ZN K "int") (z5:ZN K "list") (z6:ZN K "str") (z7:ZN K "isinstance") (z8:ZN K "all") (z9:ZN K "set") (z10:ZN K "dict") (z11:ZN K "enumerate") (z12:ZN K "sorted") (z13:ZN K "tuple") (z14:ZN K "bool") (z15:ZN K "zip") (z16:ZN K "reversed")
  (nkNoStanding:PySem.W.nsIn K mainGlobals "NoStanding" = some (some (.ref 37)))
  (nkNoStep:PySem.W.nsIn K mainGlobals "NoStep" = some (some (.ref 57)))
  (nkNoFit:PySem.W.nsIn K mainGlobals "NoFit" = some (some (.ref 69)))
  (nkNoText:PySem.W.nsIn K mainGlobals "NoText" = some (some (.ref 81)))
  (nkNoName:PySem.W.nsIn K mainGlobals "NoName" = some (some (.ref 93)))
  (nkNoRow:PySem.W.nsIn K mainGlobals "NoRow" = some (some (.ref 105)))
  (nkNetError:PySem.W.nsIn K mainGlobals "NetError" = some (some (.ref 24)))
  (nkV:ZN K "ValueError")
  (xmN0:XMk K 69 24)
  (inN0:PySem.W.findIn K (.ref 69) "__init__" = some (some (.builtin "ValueError.__init__")))
  (Z2:KinW K 69 24 37 57 81 93 105)
  : ∃fd:FuncData,(∀(s:Shared) (v:Value),BindsTo s fd ⟨[v],[]⟩ [("script", v)])/\∀base:Heap,K.In base->base.Ns mainGlobals mg->L2.f_ base mg->FnOk l.prog w K mg base CX0 8 fa fd ["script"] (nJ K ):=by
 have e:=hfa.symm.trans (Xv X G x19.a);cases e;have T:Txt K mg 108:=⟨QW X G z0,QW X G z1,QW X G z2,QW X G z3,QW X G z4,QW X G z5,QW X G z6,QW X G z7,QW X G z8,QW X G z9,QW X G z10,QW X G z11,QW X G z12,QW X G z13,QW X G z14,QW X G z15,QW X G z16,⟨_,Xv X G cn0⟩,⟨_,Xv X G cn1⟩,⟨_,Xv X G aS,tabS⟩,Xv X G aT,tab⟩;have N0:ExcB K mg "NoFit" 69 24:=⟨xmN0,inN0,Xv X G nkNoFit⟩;have NM:NmE mg 57 24:=⟨Xv X G nkNoStep,Xv X G nkNetError⟩;have KD:KindsM mg 37 69 81 93 105:=⟨Xv X G nkNoStanding,Xv X G nkNoFit,Xv X G nkNoText,Xv X G nkNoName,Xv X G nkNoRow,QW X G nkV⟩;obtain⟨a19,⟨_,_,kV,dc,pm,an,ct,_,l19⟩,c19,k19⟩:=x19;have m19:=Xv X G a19;have F19:=sQ (st:=top 54) l19 c19 k19;have b19:=F19.binds (ps:=["script"]) λ_ _ _ _ _ _ us hl=>by obtain⟨_,rfl⟩:=vP hl;rfl
 refine⟨PySem.W.fnOf "law" "law" (cu (top 54)) (bN (top 54)) (aA (top 54)) .none kV dc pm an (.ref 340) ct,λs v=>.of_eq rfl,λbase KB _ BM=>?_⟩;have g6:=x6.go l.prog w base X G λ_ F _ _=>pR F T;have g7:=x7.go l.prog w base X G λ_ F _ _=>uz F T;have g8:=x8.go l.prog w base X G λ_ F _ _=>uC F T g7;have g9:=x9.go l.prog w base X G λ_ F _ _=>uv F T;have g10:=x10.go l.prog w base X G λ_ F _ _=>pP F T g9;have g11:=x11.go l.prog w base X G λ_ F _ _=>ux F T g9;have g14:=x14.go l.prog w base X G λ_ F _ _=>mC F T;have g12:=x12.go l.prog w base X G λ_ F _ _=>pO F T g9;have g13:=x13.go l.prog w base X G λ_ F _ _=>xb F T g9 g10 g11 g14 g12;have g16:=x16.go l.prog w base X G λ_ F _ _=>pQ F T;have g17:=x17.go l.prog w base X G λ_ F _ _=>pN F T g9 g16;have g15:=x15.go l.prog w base X G λ_ F _ _=>rX F T;have g1:=x1.go l.prog w base X G λ_ F _ _=>uA F T;have g0:=x0.go l.prog w base X G λ_ F _ _=>rV F T;have g3:=x3.go1 l.prog w base X G λ_ F _ _=>rT F T N0 g0;have g2:=x2.go l.prog w base X G λ_ F _ _=>rY F T;have g4:=x4.go1 l.prog w base X G λ_ F _ _=>uw F T N0 g1 g3 g0 g2;have g5:=x5.go1 l.prog w base X G λ_ F _ _=>uB F T g4;have g18:=x18.go l.prog w base X G λ_ F _ _=>pM F T NM KD Z2 g4 g5;exact rW F19 T g6 g8 g13 g17 g16 g15 g18
theorem BS {l:PySem.W.OpenLaw} {q:Program} {XP:D3->Heap->Prop} {d:DefRec} {K:Params->PySem.W.Frag} {as:D4} {e:∀P,as=(K P).map (·.1)} (hn:l.most=some 63) (hdf:d.params.defaults=[]) (ok:∀w:World,fc (K w.params) []=true)
  (F:∀(w:World) (mg:D3) (fa:Addr) (h:Heap),(K w.params).In h->h.Ns mainGlobals mg->mg d.name=some (.ref fa) ->
   ∃fd:FuncData,(∀(s:Shared) (u:Value),BindsTo s fd ⟨[u],[]⟩ [("script", u)])/\∀base:Heap,(K w.params).In base->base.Ns mainGlobals mg->L2.f_ base mg->FnOk l.prog w (K w.params) mg base CX0 8 fa fd ["script"] (nJ (K w.params) )) :
  PySem.W.WalkO q loose XP (PySem.W.kmHook K as e []).says l.row.toRowW d [] (λf vs=>PySem.call f vs) :=
 L2.qH (n:=63) (k:=8) (x := "script") (CX:=λ_=>CX0) (sp:=λw=>nJ (K w.params) ) hn (by decide) hdf ⟨rfl,by decide,by decide⟩ ok F (λ_ _ a ns hl hT hS=>⟨a,ns,rfl,hS,hl,λ_=>rfl⟩) λ_ _ _ _ _ z=>z
end K2
open PySem PySem.W PyProof.Rows
set_option maxRecDepth 100000 in
set_option maxHeartbeats 0 in
theorem PySem.Challenge.cw_anydelay_k76_rings_that_do_not_join_holds : PySem.Challenge.rw_anydelay_k76_rings_that_do_not_join.Holds := by
 w_on;refine holds_law K2.sd λsaid=>?_
 refine holds_open (q:=K2.vw) (loose:=[("NoStep" : Str),("TURNED" : Str),("SIGNS_AHEAD" : Str)]) (Xt:=λs=>xlAt K2.vw [] s&&recOk (RowW.records PySem.Challenge.rw_anydelay_k76_rings_that_do_not_join.row.toRowW) s) (XP:=XL K2.vw []) (Yf:=Hook.obs K2.hk) (Ya:=Hook.val K2.hk) (YP:=Hook.says K2.hk) (N:=5694) K2.left (Hook.of K2.hk) (Hook.keeps K2.hk) (λs e=>xl_of s (Bool.and_eq_true_iff.mp e).1) XL.keeps (by rfl) (by rfl) (by rfl) (λs e=>recFacts_of (Bool.and_eq_true_iff.mp e).2) (by rfl) (by first|assumption|decide +kernel) (by decide +kernel) ⟨rfl,rfl,rfl,rfl,rfl,by decide +kernel⟩ ?hw ?hc
 (case hw=>w_witness2)
 refine K2.BS (l:=PySem.Challenge.rw_anydelay_k76_rings_that_do_not_join) (K:=K2.KF) (as:=[3,23,24,36,37,56,57,68,69,80,81,92,93,104,105,108,112,113,119,120,126,127,133,134,140,141,147,148,149,153,154,158,159,163,164,170,171,175,176,182,183,189,190,196,197,203,204,208,209,215,216,222,223,229,230,236,237,243,244,250,251,257,258,264,265,271,272,278,279,285,286,290,291,295,296,302,303,314,315,321,322,326,327,333,334,340,341]) (e:=λ_=>rfl) rfl rfl (λw=>by kernel_rfl) ?F
 case F =>
  intro w mg fa h KX G hmg;refine' K2.xO KX G hmg ?_ ?_ ?_ ?_ ?_ ?_ ?_ ?_ ?_ ?_ ?_ ?_ ?_ ?_ ?_ ?_ ?_ ?_ ?_ ?_ ?_ ?_ ?_ ?_ ?_ ?_ ?_ ?_ ?_ ?_ ?_ ?_ ?_ ?_ ?_ ?_ ?_ ?_ ?_ ?_ ?_ ?_ ?_ ?_ ?_ ?_ ?_ ?_ ?_ ?_ ?_ ?_ ?_ ?_
  all_goals first|exact⟨by kernel_rfl,⟨_,_,_,_,_,_,_,_,rfl⟩,by kernel_rfl,by kernel_rfl⟩|kernel_rfl|rfl|decide|decide +kernel|exact L2.v9 (by kernel_rfl) (by kernel_rfl) (by kernel_rfl) (by constructor <;> kernel_rfl)|exact⟨_,⟨_,_,_,_,_,_,_,_,_,_,_,_,_,rfl,rfl,by kernel_rfl,rfl⟩⟩|(constructor <;> first|kernel_rfl|(constructor <;> kernel_rfl))
