import PyProof.Rows.All
import Wide.All
import OpenK.AllK
import Wide.FinOn
import Lean
import PyProof.EqAt
import PyProof.EqKinds
import PyProof.TupleCall
import PyProof.NeKinds
import KE.KTabLook
import KE.KIntText
import KE.KUnpack
import PyProof.StrBlock2
import PyProof.ZipIter
import PyProof.Draws
import PyProof.AttrMissHeap
import PyProof.DictUpdate
import PyProof.ListNew
import PyProof.FactsAll.dict_1
import PyProof.Rows.DictSet
import PyProof.StationsW
import PyProof.RulesAs
import PyProof.ExcClass2
import KE.KTryMore
import PyProof.InstStoreFacts
import PyProof.ExcBaseAll.ValueError
import PyProof.NsDelKeeps
import PyProof.EnumMake
import PyProof.Rows.CallKwBuiltin
import OpenK.KMore
import PyProof.CompUse
import PyProof.FactsAll.list_1
import PyProof.ForAppend
import PyProof.Rows.StrInSeq3
import PyProof.Rows.Range3
import PyProof.TupleOfStr
import PyProof.ListStr
import PyProof.FactsAll.subtypes_4
import KE.IntTextLaws
import PyProof.Rows.StrLen
import KE.KLam
import PySem.Challenge.RW_anydelay_k09_orders_that_are_none
import KE.BitLaws
import PyProof.Rows.StrMul
namespace PySem
abbrev A0:=Value->Shared->Prop
abbrev A1:=List (Addr × Obj)
abbrev A2:=Str->Option Value
abbrev A3:=List Addr
end PySem
set_option linter.all false
set_option maxRecDepth 100000
set_option Elab.async false
abbrev Qa:=@PySem.wpAny_bind
abbrev Qb:=@List.length_map
abbrev Qc:=@PySem.Heap.get?_push_of_some
abbrev Qd:=@List.getElem?_eq_getElem
abbrev Qe:=@List.size_toArray
abbrev Qf:=@List.getElem?_eq_some_iff
abbrev Qg:=@PySem.wpAny_pure
abbrev Qh:=@Nat.le_refl
abbrev Qi:=@List.length_append
abbrev Qj:=@PySem.Heap.get?_update_other
abbrev Qk:=@PySem.Heap.lt_size
abbrev Ql:=@List.getElem?_map
abbrev Qm:=@Bool.false_ne_true
abbrev Qn:=@PySem.Heap.get?_push_size
abbrev Qo:=@PySem.boot_len
abbrev Qp:=@List.mem_cons_of_mem
abbrev Qq:=@PyProof.Rows.boot_isinstance
abbrev Qr:=@PySem.Obj.data_mapFields
abbrev Qs:=@List.map_cons
abbrev Qt:=@Array.getElem?_eq_some_iff
abbrev Qu:=@List.length_take
abbrev Qv:=@Nat.lt_of_lt_of_le
abbrev Qw:=@List.mem_append_right
abbrev Qx:=@PySem.W.mg_none_of
abbrev Qy:=@Nat.ne_of_lt
abbrev Qz:=@Array.length_toList
abbrev QA:=@PySem.wpAny_field
abbrev QB:=@if_neg
abbrev QC:=@PySem.F.plainAttrs_list
abbrev QE:=@List.getD_eq_getElem?_getD
abbrev QF:=@PySem.F.slot_list_append
abbrev QG:=@PySem.F.type_list_append
abbrev QH:=@if_pos
abbrev QI:=@PySem.Heap.get?_update_self
abbrev QJ:=@List.map_append
abbrev QK:=@Bool.false_eq_true
abbrev QL:=@List.mem_map
abbrev QM:=@List.length_cons
abbrev QN:=@PySem.wpAny_holding
abbrev QO:=@Option.some.inj
abbrev QP:=@List.mem_of_getElem?
abbrev QQ:=@Nat.le_trans
abbrev QR:=@List.mem_append
abbrev QS:=@List.replicate_succ
abbrev QT:=@Ne.symm
abbrev QU:=@List.length_drop
abbrev QV:=@List.lookup_cons
abbrev QW:=@PySem.wpAny_setField_rec
abbrev QX:=@Int.emod_lt_of_pos
abbrev QY:=@PySem.Obj.isFreed_of_fields
abbrev QZ:=@Nat.zero_le
abbrev Q0:=@List.flatten_cons
abbrev Q1:=@PySem.wpAny_mono
abbrev Q2:=@List.mem_singleton
abbrev Q3:=@PyProof.Rows.callWith_type1
abbrev Q4:=@List.getElem?_append_right
abbrev Q5:=@List.mem_cons
abbrev Q6:=@List.take_of_length_le
abbrev Q7:=@PySem.W.kia_one
abbrev Q8:=@Int.emod_nonneg
abbrev Q9:=@PySem.W.mg_of
abbrev xa:=@Int.toNat_natCast
abbrev xb:=@PySem.Heap.get?_none_of_le
abbrev xf:=@decide_eq_false
abbrev xg:=@List.all_eq_true
abbrev xh:=@List.getElem_mem
abbrev xi:=@PyProof.Rows.boot_list
abbrev xj:=@List.getElem?_append_left
abbrev xk:=@List.nodup_cons
abbrev xn:=@List.mem_cons_self
abbrev xp:=@Bool.and_eq_true
local macro_rules|`(tactic|z_go)=>`(tactic|first|exact .inl rfl|exact .inr rfl|assumption)
noncomputable section
namespace L2
open PySem
def bM (s:Stmt):Arguments:=match s with
 | .FunctionDef _ a _ _ _ _ _ _ _ _=>a
 | _=>{ posonlyargs:=[],args:=[],vararg:=none,kwonlyargs:=[],kw_defaults:=[],kwarg:=none,defaults:=[] }
def bB (s:Stmt):List Stmt:=match s with
 | .FunctionDef _ _ b _ _ _ _ _ _ _=>b
 | _=>[]
def ap (s:Stmt):Scope:=match s with
 | .FunctionDef _ _ _ _ _ _ sc _ _ _=>sc
 | _=>{ kind:=.function,names:=[],isGenerator:=false,isCoroutine:=false }
end L2
namespace K2
open PySem L2 PySem.W
def top (i:Nat):Stmt:=PySem.Challenge.pw_anydelay_k09_orders_that_are_none.main.body.getD i (.Pass ⟨0,0,0,0⟩)
def qG:Stmt->List Stmt
 | .ClassDef _ _ _ b _ _ _ _ _ _ _=>b
 | _=>[]
def ef:Stmt:=(qG (top 3)).getD 0 (.Pass ⟨0,0,0,0⟩)
noncomputable def kC (n:Str) (t:Nat) (l a fl:Int) (r:Addr) (x y:Value) (z:Addr) (u:Nat):Obj:={ cls:=.type "code", data:=.fields #[.str n t,.str n (t+1),.str "/claim/cut.py" (t+2),.int l 0,.int a 0,.int 0 0,.int 0 0,.int 3 0,.ref r,.bool true,.int fl 0,.ref (r+1),.none,x,y,.ref z,.int u 0,.int l 0,.str "/claim/cut.py" (u+1)] }
noncomputable def kF (n:Str) (i:Nat) (m:Str) (t:Nat) (c:Addr):Obj:={ cls:=.type "function", data:=.func { name:=n,qualname:=n,params:=bM (top i),body:=.stmts (bB (top i)),scope:=ap (top i),globals:=3,closure:=[],defaults:=.none,kwdefaults:=.none,pyModule:=.str m t,code:=.ref c } }
def kE (P:Params) (x:Str) (t:Nat) (v:Value):DictEntry:={ hash:=PyData.keyHash P x,key:=.str x t,val:=v }
noncomputable def kX (n:Str) (b m:List Value) (d:Addr) (u:List Value) (s:Addr) (t1 t2:Nat) (c:Value):Obj:={ cls:=.type "type", data:=.cls { name:=n,bases:=b,mro:=m,ns:=d,qualname:=n,subclasses:=u },slots:=#[some (.ref s),none,some (.str n t1),some (.str n t2),some c,some (.bool true)] }
noncomputable def KF (P:Params):Frag:=[(3,{ cls:=.type "dict", data:=.dict #[kE P "__name__" 165 (.str "law_anydelay_k09_orders_that_are_none" 487),kE P "__doc__" 166 .none,kE P "__package__" 167 .none,kE P "__loader__" 168 (.builtin "__main__.__loader__#opaque"),kE P "__spec__" 169 .none,kE P "__annotations__" 170 (.ref 6),kE P "__builtins__" 171 (.ref 4),kE P "__file__" 173 (.str "/claim/cut.py" 172),kE P "__cached__" 174 .none,kE P "NetError" 206 (.ref 24),kE P "NoStanding" 222 (.ref 37),kE P "NoStep" 248 (.ref 57),kE P "NoFit" 264 (.ref 69),kE P "NoText" 280 (.ref 81),kE P "NoName" 296 (.ref 93),kE P "NoRow" 312 (.ref 105),kE P "TURNED" 321 (.ref 108),kE P "is_row" 327 (.ref 113),kE P "gates_of" 333 (.ref 118),kE P "wires_of" 340 (.ref 125),kE P "is_standing" 348 (.ref 132),kE P "check_standing" 356 (.ref 139),kE P "rule_holds" 365 (.ref 146),kE P "rule_worth" 373 (.ref 153),kE P "signs_in" 381 (.ref 160),kE P "turned_at" 389 (.ref 167),kE P "steps_from" 401 (.ref 174),kE P "order_end" 416 (.ref 181),kE P "found_from" 431 (.ref 188),kE P "steps_found" 440 (.ref 195),kE P "order_to" 454 (.ref 202),kE P "all_standings" 462 (.ref 209),kE P "rests_in" 468 (.ref 214),kE P "all_rests" 476 (.ref 221),kE P "shortest_order" 486 (.ref 228),kE P "_law_draws" 502 (.ref 235),kE P "_law_names" 508 (.ref 240),kE P "_law_rule" 521 (.ref 247),kE P "_law_held" 530 (.ref 254),kE P "_law_known" 536 (.ref 259),kE P "_law_deeper" 550 (.ref 266),kE P "_law_net" 568 (.ref 273),kE P "_law_standing" 574 (.ref 278),kE P "_law_holds" 584 (.ref 285),kE P "_law_asked" 590 (.ref 290),kE P "_law_order" 607 (.ref 297),kE P "_law_copy" 614 (.ref 304),kE P "_law_kinds" 620 (.ref 309),kE P "_law_bad" 631 (.ref 316),kE P "_law_odd" 637 (.ref 321),kE P "_law_round" 643 (.ref 326),kE P "_law_refused" 655 (.ref 333),kE P "law" 680 (.ref 340)] 53 }),
 (2,{ cls:=.none,data:=.dict #[] 0 }),
 (23,{ cls:=.type "dict", data:=.dict #[kE P "__module__" 196 (.str "anydelay.errors" 187),kE P "__firstlineno__" 200 (.int 2 199),kE P "__static_attributes__" 201 (.ref 22),kE P "__weakref__" 203 (.ref 25),kE P "__doc__" 204 .none] 3 }),
 (24,kX "NetError" [.type "ValueError"] [.ref 24,.type "ValueError", .type "Exception", .type "BaseException", .type "object"] 23 [.ref 37,.ref 57,.ref 69,.ref 81,.ref 93,.ref 105] 15 189 197 (.builtin "ValueError.__new__")),
 (36,{ cls:=.type "dict", data:=.dict #[kE P "__module__" 214 (.str "anydelay.errors" 187),kE P "__firstlineno__" 218 (.int 4 217),kE P "__static_attributes__" 219 (.ref 35),kE P "__doc__" 220 .none] 2 }),
 (37,kX "NoStanding" [.ref 24] [.ref 37,.ref 24,.type "ValueError", .type "Exception", .type "BaseException", .type "object"] 36 [] 28 207 215 (.builtin "ValueError.__new__")),
 (47,{ cls:=.type "tuple", data:=.seq #[.none] 0 }),
 (53,{ cls:=.type "code", data:=.fields #[.str "__init__" 235,.str "NoStep.__init__" 236,.str "/claim/cut.py" 237,.int 8 0,.int 3 0,.int 0 0,.int 0 0,.int 3 0,.ref 48,.bool true,.int 181 0,.ref 49,.none,.ref 50,.ref 51,.ref 52,.int 241 0,.int 8 0,.str "/claim/cut.py" 242] }),
 (54,{ cls:=.type "function", data:=.func { name := "__init__", qualname := "NoStep.__init__", params:=bM ef,body:=.stmts (bB ef),scope:=ap ef,globals:=3,closure:=[],defaults:=.ref 47,kwdefaults:=.none,pyModule:=.str "anydelay.errors" 187,code:=.ref 53 } }),
 (56,{ cls:=.type "dict", data:=.dict #[kE P "__module__" 230 (.str "anydelay.errors" 187),kE P "__firstlineno__" 234 (.int 6 233),kE P "__init__" 243 (.ref 54),kE P "__static_attributes__" 245 (.ref 55),kE P "__doc__" 246 .none] 2 }),
 (57,kX "NoStep" [.ref 24] [.ref 57,.ref 24,.type "ValueError", .type "Exception", .type "BaseException", .type "object"] 56 [] 40 223 231 (.builtin "ValueError.__new__")),
 (68,{ cls:=.type "dict", data:=.dict #[kE P "__module__" 256 (.str "anydelay.errors" 187),kE P "__firstlineno__" 260 (.int 11 259),kE P "__static_attributes__" 261 (.ref 67),kE P "__doc__" 262 .none] 2 }),
 (69,kX "NoFit" [.ref 24] [.ref 69,.ref 24,.type "ValueError", .type "Exception", .type "BaseException", .type "object"] 68 [] 60 249 257 (.builtin "ValueError.__new__")),
 (80,{ cls:=.type "dict", data:=.dict #[kE P "__module__" 272 (.str "anydelay.errors" 187),kE P "__firstlineno__" 276 (.int 13 275),kE P "__static_attributes__" 277 (.ref 79),kE P "__doc__" 278 .none] 2 }),
 (81,kX "NoText" [.ref 24] [.ref 81,.ref 24,.type "ValueError", .type "Exception", .type "BaseException", .type "object"] 80 [] 72 265 273 (.builtin "ValueError.__new__")),
 (92,{ cls:=.type "dict", data:=.dict #[kE P "__module__" 288 (.str "anydelay.errors" 187),kE P "__firstlineno__" 292 (.int 15 291),kE P "__static_attributes__" 293 (.ref 91),kE P "__doc__" 294 .none] 2 }),
 (93,kX "NoName" [.ref 24] [.ref 93,.ref 24,.type "ValueError", .type "Exception", .type "BaseException", .type "object"] 92 [] 84 281 289 (.builtin "ValueError.__new__")),
 (104,{ cls:=.type "dict", data:=.dict #[kE P "__module__" 304 (.str "anydelay.errors" 187),kE P "__firstlineno__" 308 (.int 17 307),kE P "__static_attributes__" 309 (.ref 103),kE P "__doc__" 310 .none] 2 }),
 (105,kX "NoRow" [.ref 24] [.ref 105,.ref 24,.type "ValueError", .type "Exception", .type "BaseException", .type "object"] 104 [] 96 297 305 (.builtin "ValueError.__new__")),
 (108,{ cls:=.type "dict", data:=.dict #[kE P "0" 315 (.str "1" 316),kE P "1" 317 (.str "0" 318)] 2 }),
 (112,kC "is_row" 322 21 2 181 109 .none .none 111 325),
 (113,kF "is_row" 10 "anydelay.nets" 313 112),
 (117,kC "gates_of" 328 25 1 181 114 .none .none 116 331),
 (118,kF "gates_of" 11 "anydelay.nets" 313 117),
 (124,kC "wires_of" 334 27 1 181 119 (.ref 121) (.ref 122) 123 338),
 (125,kF "wires_of" 12 "anydelay.nets" 313 124),
 (131,kC "is_standing" 341 29 2 181 126 (.ref 128) (.ref 129) 130 346),
 (132,kF "is_standing" 13 "anydelay.nets" 313 131),
 (138,kC "check_standing" 349 31 2 181 133 (.ref 135) (.ref 136) 137 354),
 (139,kF "check_standing" 14 "anydelay.nets" 313 138),
 (145,kC "rule_holds" 357 34 2 181 140 (.ref 142) (.ref 143) 144 363),
 (146,kF "rule_holds" 15 "anydelay.nets" 313 145),
 (152,kC "rule_worth" 366 43 2 181 147 (.ref 149) (.ref 150) 151 371),
 (153,kF "rule_worth" 16 "anydelay.nets" 313 152),
 (159,kC "signs_in" 374 45 2 181 154 (.ref 156) (.ref 157) 158 379),
 (160,kF "signs_in" 17 "anydelay.nets" 313 159),
 (166,kC "turned_at" 382 47 2 181 161 (.ref 163) (.ref 164) 165 387),
 (167,kF "turned_at" 18 "anydelay.nets" 313 166),
 (173,kC "steps_from" 390 49 2 181 168 (.ref 170) (.ref 171) 172 399),
 (174,kF "steps_from" 19 "anydelay.nets" 313 173),
 (180,kC "order_end" 404 57 3 181 175 (.ref 177) (.ref 178) 179 414),
 (181,kF "order_end" 21 "anydelay.orders" 402 180),
 (187,kC "found_from" 417 70 2 181 182 (.ref 184) (.ref 185) 186 429),
 (188,kF "found_from" 22 "anydelay.orders" 402 187),
 (194,kC "steps_found" 432 85 2 181 189 (.ref 191) (.ref 192) 193 438),
 (195,kF "steps_found" 23 "anydelay.orders" 402 194),
 (201,kC "order_to" 441 87 3 181 196 (.ref 198) (.ref 199) 200 452),
 (202,kF "order_to" 24 "anydelay.orders" 402 201),
 (208,kC "all_standings" 455 98 2 181 203 (.ref 205) (.ref 206) 207 460),
 (209,kF "all_standings" 25 "anydelay.orders" 402 208),
 (213,kC "rests_in" 463 101 1 181 210 .none .none 212 466),
 (214,kF "rests_in" 26 "anydelay.orders" 402 213),
 (220,kC "all_rests" 469 103 2 181 215 (.ref 217) (.ref 218) 219 474),
 (221,kF "all_rests" 27 "anydelay.orders" 402 220),
 (227,kC "shortest_order" 477 106 3 181 222 (.ref 224) (.ref 225) 226 484),
 (228,kF "shortest_order" 28 "anydelay.orders" 402 227),
 (234,kC "_law_draws" 489 114 2 181 229 (.ref 231) (.ref 232) 233 500),
 (235,kF "_law_draws" 30 "law_anydelay_k09_orders_that_are_none" 487 234),
 (239,kC "_law_names" 503 137 2 181 236 .none .none 238 506),
 (240,kF "_law_names" 31 "law_anydelay_k09_orders_that_are_none" 487 239),
 (246,kC "_law_rule" 509 159 4 181 241 (.ref 243) (.ref 244) 245 519),
 (247,kF "_law_rule" 32 "law_anydelay_k09_orders_that_are_none" 487 246),
 (253,kC "_law_held" 522 169 3 181 248 (.ref 250) (.ref 251) 252 528),
 (254,kF "_law_held" 33 "law_anydelay_k09_orders_that_are_none" 487 253),
 (258,kC "_law_known" 531 171 3 181 255 .none .none 257 534),
 (259,kF "_law_known" 34 "law_anydelay_k09_orders_that_are_none" 487 258),
 (265,kC "_law_deeper" 537 186 4 181 260 (.ref 262) (.ref 263) 264 548),
 (266,kF "_law_deeper" 35 "law_anydelay_k09_orders_that_are_none" 487 265),
 (272,kC "_law_net" 551 194 2 181 267 (.ref 269) (.ref 270) 271 566),
 (273,kF "_law_net" 36 "law_anydelay_k09_orders_that_are_none" 487 272),
 (277,kC "_law_standing" 569 215 2 181 274 .none .none 276 572),
 (278,kF "_law_standing" 37 "law_anydelay_k09_orders_that_are_none" 487 277),
 (284,kC "_law_holds" 575 217 2 181 279 (.ref 281) (.ref 282) 283 582),
 (285,kF "_law_holds" 38 "law_anydelay_k09_orders_that_are_none" 487 284),
 (289,kC "_law_asked" 585 227 2 181 286 .none .none 288 588),
 (290,kF "_law_asked" 39 "law_anydelay_k09_orders_that_are_none" 487 289),
 (296,kC "_law_order" 591 237 5 181 291 (.ref 293) (.ref 294) 295 605),
 (297,kF "_law_order" 40 "law_anydelay_k09_orders_that_are_none" 487 296),
 (303,kC "_law_copy" 608 247 1 181 298 (.ref 300) (.ref 301) 302 612),
 (304,kF "_law_copy" 41 "law_anydelay_k09_orders_that_are_none" 487 303),
 (308,kC "_law_kinds" 615 249 2 181 305 .none .none 307 618),
 (309,kF "_law_kinds" 42 "law_anydelay_k09_orders_that_are_none" 487 308),
 (315,kC "_law_bad" 621 253 2 181 310 (.ref 312) (.ref 313) 314 629),
 (316,kF "_law_bad" 43 "law_anydelay_k09_orders_that_are_none" 487 315),
 (320,kC "_law_odd" 632 260 3 181 317 .none .none 319 635),
 (321,kF "_law_odd" 44 "law_anydelay_k09_orders_that_are_none" 487 320),
 (325,kC "_law_round" 638 269 3 181 322 .none .none 324 641),
 (326,kF "_law_round" 45 "law_anydelay_k09_orders_that_are_none" 487 325),
 (332,kC "_law_refused" 644 279 4 181 327 (.ref 329) (.ref 330) 331 653),
 (333,kF "_law_refused" 46 "law_anydelay_k09_orders_that_are_none" 487 332),
 (339,kC "law" 656 297 1 181 334 (.ref 336) (.ref 337) 338 678),
 (340,kF "law" 47 "law_anydelay_k09_orders_that_are_none" 487 339)]
noncomputable def hk:Hook:=kmHook KF [3,2,23,24,36,37,47,53,54,56,57,68,69,80,81,92,93,104,105,108,112,113,117,118,124,125,131,132,138,139,145,146,152,153,159,160,166,167,173,174,180,181,187,188,194,195,201,202,208,209,213,214,220,221,227,228,234,235,239,240,246,247,253,254,258,259,265,266,272,273,277,278,284,285,289,290,296,297,303,304,308,309,315,316,320,321,325,326,332,333,339,340] (λ_=>rfl) []
noncomputable def vw:Program:={ PySem.Challenge.pw_anydelay_k09_orders_that_are_none with main:={ PySem.Challenge.pw_anydelay_k09_orders_that_are_none.main with body:=[1,2,3,4,5,6,7,9,10,11,12,13,14,15,16,17,18,19,21,22,23,24,25,26,27,28,30,31,32,33,34,35,36,37,38,39,40,41,42,43,44,45,46,47].map top } }
def LW (w:World):Prop:=(openEnds treeTable PySem.Challenge.rw_anydelay_k09_orders_that_are_none.prog w 5528).map (λs=>(openSeen vw [("NoStep" : Str),("TURNED" : Str)] (importedModules PySem.Challenge.rw_anydelay_k09_orders_that_are_none.prog.main.body) (λs=>xlAt vw [] s&&recOk (RowW.records PySem.Challenge.rw_anydelay_k09_orders_that_are_none.row.toRowW) s) true s,Hook.obs hk s))=some (openGood vw [("NoStep" : Str),("TURNED" : Str)],Hook.val hk w)
set_option maxHeartbeats 0 in
theorem sd:PySem.Challenge.rw_anydelay_k09_orders_that_are_none.wellSaid=true:=by kernel_rfl
set_option maxHeartbeats 0 in
theorem uE:∀w:World,LW (w.withFollow "special-get-raises" false):=λw=>by unfold LW;kernel_rfl
set_option maxHeartbeats 0 in
theorem uD:∀w:World,LW (w.withFollow "special-get-raises" true):=λw=>by unfold LW;kernel_rfl
theorem left:LeftO PySem.Challenge.rw_anydelay_k09_orders_that_are_none.prog vw [("NoStep" : Str),("TURNED" : Str)] (λs=>xlAt vw [] s&&recOk (RowW.records PySem.Challenge.rw_anydelay_k09_orders_that_are_none.row.toRowW) s) (Hook.obs hk) (Hook.val hk) 5528:=λw=>byRow2 (P:=LW) "special-get-raises" uE uD w
end K2
section
variable {a b c d e f g h i j k l m n x r lo:Nat}
local macro_rules | `(tactic|kd_p) => `(tactic| (intros; first | solve_by_elim (maxDepth := 3) [Nat.le_of_lt, Qv, Nat.lt_of_le_of_lt, QQ, Nat.lt_of_not_ge, Nat.lt_of_not_le, Nat.le_of_not_lt, Nat.ge_of_not_lt, Nat.le_add_right, Nat.le_add_left, Nat.sub_le, Nat.lt_succ_self, Nat.le_succ, Nat.add_le_add_left, Nat.add_le_add_right, Nat.add_lt_add_left, Nat.add_lt_add_right, Nat.succ_le_of_lt, Nat.lt_of_succ_le, Nat.le_of_eq, Nat.le_antisymm, Nat.lt_of_le_of_ne, Qh, QZ, Nat.sub_lt, Nat.succ_le_succ, Nat.lt_succ_of_le, Nat.le_of_lt_succ, Eq.symm, Eq.trans] | (subst_vars; solve_by_elim (maxDepth := 3) [Nat.le_of_lt, Qv, Nat.lt_of_le_of_lt, QQ, Nat.lt_of_not_ge, Nat.lt_of_not_le, Nat.le_of_not_lt, Nat.ge_of_not_lt, Nat.le_add_right, Nat.le_add_left, Nat.sub_le, Nat.lt_succ_self, Nat.le_succ, Nat.add_le_add_left, Nat.add_le_add_right, Nat.add_lt_add_left, Nat.add_lt_add_right, Nat.succ_le_of_lt, Nat.lt_of_succ_le, Nat.le_of_eq, Nat.le_antisymm, Nat.lt_of_le_of_ne, Qh, QZ, Nat.sub_lt, Nat.succ_le_succ, Nat.lt_succ_of_le, Nat.le_of_lt_succ, Eq.symm, Eq.trans])))
theorem om0:a<=b->¬a<b->a=b:=by grind
theorem om2:¬b<a->a<=b:=by kd_p
theorem om3:c=b->b=d->a<c->a<b:=by kd_p
theorem om4:c<=b->c=a->a<=b:=by kd_p
theorem om5:a+1≠a:=by simp_all
theorem om6:b<a->a-(b+1)<a-b:=by omega
theorem om7:c=d->c=a->d=b->a=b:=by kd_p
theorem om8:a+(c+1)<b->a<b:=by grind
theorem om9:b=c->b=d->c=e->a<d->a<b:=by intros;simp_all
theorem vd:c=b->c=d->b=e->a<d->a<b:=by intros;simp_all
theorem uv:a+(b+1)<c->a+1+b<c:=by omega
theorem ou:b=c->a<c->a<b:=by kd_p
theorem uu:a<c->b=c->a<b:=by kd_p
theorem ur:c=a->d=b->c=d->a=b:=by kd_p
theorem ot:a+64<b->a<b:=by grind
theorem sJ:a+64<b->a+1+8<b:=by grind
theorem mC:c=b->a<c->a<b:=by kd_p
theorem tZ:a<=b->a+1<=b+1:=by kd_p
theorem uq:c<=b->a<c->a<b:=by grind
theorem uo:a<=d+c->d<=b+1->a<=b+(c+1):=by grind
theorem um:a+2≠a+4:=by simp
theorem ul:a+3≠a+4:=by simp_all
theorem uk:a≠a+4:=by grind
theorem uh:a+1≠a+4:=by simp_all
theorem ug:a+2≠a+3:=by simp
theorem uf:a+2≠a:=by grind
theorem ue:a+2≠a+1:=by simp
theorem uc:a+3≠a:=by simp
theorem ub:a+3≠a+1:=by simp
theorem t_:a≠a+1:=by simp
theorem t9:b=a+5->a<=b:=by intros;simp_all
theorem t8:a<=a+1:=by simp
theorem rC:b-a=0->a<=b->a=b:=by grind
theorem t7:a-b=0->0=a-b:=by kd_p
theorem rB:b-a=c+1->a<=b->a<b:=by grind
theorem rq:c<=b->a<=d->d<c->a<=b:=by grind
theorem rm:a-b=c+1->b<a->a-(b+1)=c:=by grind
theorem rk:a<b->a+1<=b:=by kd_p
theorem t6:a-b=c+1->b<a->a-(b+1)+1=a-b:=by omega
theorem t5:a+(b+1)=a+1+b:=by grind
theorem t0:a-b=c+1->b<a->a-b=a-(b+1)+1:=by omega
end
-- CHANGE: your row's module here,as the last of these rows
namespace L2
open PySem PySem.Spec PyProof.Rows
abbrev Key:=Sum Int Str
def im:Key->Value->Bool
 | .inl k,v=>Value.isInt k v
 | .inr x,v=>Value.isStrOf x v
def vh (w:World):Key->Int
 | .inl k=>hashInt k
 | .inr x=>hashStr w x
theorem bp:∀{k:Key} {v:Value},im k v=true->(∃i t,k=Sum.inl i/\v=Value.int i t)\/(∃x t,k=Sum.inr x/\v=Value.str x t)
 | .inl i,v,h=>by
  obtain⟨t,e⟩:=Value.isInt_shape (k:=i) (v:=v) h;exact .inl ⟨i,t,rfl,e⟩
 | .inr x,v,h=>by
  obtain⟨t,e⟩:=Value.isStrOf_shape (x:=x) (v:=v) h;exact .inr ⟨x,t,rfl,e⟩
theorem mT (i:Int) (t:Tok):im (.inl i) (.int i t)=true:=by simp[im,Value.isInt]
theorem mR (x:Str) (t:Tok):im (.inr x) (.str x t)=true:=by simp[im,Value.isStrOf]
theorem sT (a b:Int):decide ((Sum.inl a:Key)=Sum.inl b)=(a==b):=by
 by_cases e:a=b
 ·subst e;simp
 have h:¬(Sum.inl a:Key)=Sum.inl b:=λq=>e (Sum.inl.inj q);rw[xf h];exact(beq_eq_false_iff_ne.mpr e).symm
theorem sQ (a b:Str):decide ((Sum.inr a:Key)=Sum.inr b)=decide (a=b):=by
 by_cases e:a=b
 ·subst e;simp
 have h:¬(Sum.inr a:Key)=Sum.inr b:=λq=>e (Sum.inr.inj q);rw[xf h,xf e]
theorem sS (a:Int) (b:Str):decide ((Sum.inl a:Key)=Sum.inr b)=false:=xf (λq=>nomatch q)
theorem sR (a:Str) (b:Int):decide ((Sum.inr a:Key)=Sum.inl b)=false:=xf (λq=>nomatch q)
noncomputable def bu (prog:Program) (w:World):PySem.KeyKind prog w Key where
 is:=im
 hash:=vh w
 inj:=λv a b ha hb=>by
  rcases bp ha with⟨i,t,rfl,rfl⟩|⟨x,t,rfl,rfl⟩
  ·rcases bp hb with⟨j,u,rfl,e⟩|⟨y,u,rfl,e⟩
   ·injection e with e1 _;rw[e1]
   exact nomatch e
  rcases bp hb with⟨j,u,rfl,e⟩|⟨y,u,rfl,e⟩
  ·exact nomatch e
  injection e with e1 _;rw[e1]
 byValue:=λk v h=>by
  rcases bp h with⟨i,t,rfl,rfl⟩|⟨x,t,rfl,rfl⟩ <;> rfl
 pyHash:=λhv h=>by
  rcases bp hv with⟨i,t,rfl,rfl⟩|⟨x,t,rfl,rfl⟩
  ·exact wpAny_pyHash_int h
  exact wpAny_pyHash_str h
 eqBool:=λhu hv h=>by
  rcases bp hu with⟨i,t,rfl,rfl⟩|⟨x,t,rfl,rfl⟩
  ·rcases bp hv with⟨j,u,rfl,rfl⟩|⟨y,u,rfl,rfl⟩
   ·rw[sT]at h;exact wpAny_eqBool_int h
   rw[sS]at h;exact SeqAt.EqAt.int_str i t y u _ _ _ _ h
  rcases bp hv with⟨j,u,rfl,rfl⟩|⟨y,u,rfl,rfl⟩
  ·rw[sR]at h;exact SeqAt.EqAt.str_int x t j u _ _ _ _ h
  rw[sQ]at h;exact wpAny_eqBool_str h
 «strs»:=λk x t v h=>by
  rcases bp h with⟨i,u,rfl,e⟩|⟨y,u,rfl,e⟩
  ·exact nomatch e
  injection e with e1 _;subst e1;cases v <;> rfl
theorem jV (prog:Program) (w:World) (i:Int) (t:Tok):(bu prog w).is (.inl i) (.int i t)=true:=mT i t
theorem dD (prog:Program) (w:World) (x:Str) (t:Tok):(bu prog w).is (.inr x) (.str x t)=true:=mR x t
inductive V where
 | non|bl (b:Bool)|int (i:Int)|str (x:Str)|byt (b:Array UInt8)|flt (b:UInt64)|ref (a:Addr)|ty (n:String)
 deriving DecidableEq
noncomputable def aU:V->Value->Prop
 | .non,u=>u=Value.none
 | .bl b,u=>u=Value.bool b
 | .int i,u=>∃t,u=Value.int i t
 | .str x,u=>∃t,u=Value.str x t
 | .byt b,u=>∃t,u=Value.bytes b t
 | .flt b,u=>∃t,u=Value.float b t
 | .ref a,u=>u=Value.ref a
 | .ty n,u=>u=Value.type n
abbrev aM:List V->List Value->Prop:=Paired aU
variable {us:List Value}
theorem aM.length {xs:List V} (r:aM xs us):xs.length=us.length:=Paired.length r
theorem aM.get:∀{xs:List V} {us:List Value} {i:Nat} {x:V},aM xs us->xs[i]?=some x->∃u,us[i]?=some u/\aU x u
 | _,_,_,_,.nil,e=>by simp at e
 | _,_,0,_,.cons r _,e=>by simp at e;subst e;exact⟨_,rfl,r⟩
 | _,_,i+1,x,.cons _ t,e=>by
  obtain⟨u,h1,h2⟩:=aM.get (i:=i) (x:=x) t (by simpa using e);exact⟨u,by simpa using h1,h2⟩
variable {u cd dV doc pm cdv ct oc:Value}
theorem aM.set {x:V} (r:aU x u):∀{xs:List V} {us:List Value} (i:Nat),aM xs us->aM (xs.set i x) (us.set i u)
 | _,_,_,.nil=>.nil
 | _,_,0,.cons _ t=>.cons r t
 | _,_,i+1,.cons q t=>.cons q (aM.set r i t)
theorem aM.append:∀{xs ys:List V} {us ws:List Value},aM xs us->aM ys ws->aM (xs++ys) (us++ws)
 | _,_,_,_,.nil,s=>s
 | _,_,_,_,.cons r t,s=>.cons r (aM.append t s)
theorem aM.take:∀{xs:List V} {us:List Value} (n:Nat),aM xs us->aM (xs.take n) (us.take n)
 | _,_,0,_=>.nil
 | _,_,_+1,.nil=>.nil
 | _,_,n+1,.cons r t=>.cons r (aM.take n t)
theorem aM.drop:∀{xs:List V} {us:List Value} (n:Nat),aM xs us->aM (xs.drop n) (us.drop n)
 | _,_,0,r=>r
 | _,_,_+1,.nil=>.nil
 | _,_,n+1,.cons _ t=>aM.drop n t
def eX:Option V->Option Value->Prop
 | some v,some u=>aU v u
 | none,none=>True
 | _,_=>False
def KV {κ:Type}:List (κ × V)->List (κ × Value)->Prop:=Paired λ(p:κ × V) (q:κ × Value)=>p.1=q.1/\aU p.2 q.2
def kV:Key->V
 | .inl i=>.int i
 | .inr x=>.str x
inductive HO where
 /-- a list -/
 | lst (xs:List V)
 /-- a tuple (never changes) -/
 | tup (xs:List V)
 /-- a dict whose keys are ints and texts;one whose keys are tuples of ints and texts (the empty one is both) -/
 | dK (kvs:List (Key × V))|dT (kvs:List (List Key × V))
 /-- a set of ints: its members,its size -/
 | set (S:Int->Bool) (n:Nat)
 /-- an instance of the class at C,its dict at dx,its attributes -/
 | ins (C dx:Addr) (fs:List (Str × V))
 /-- the dict of the instance at x -/
 | own (x:Addr)
 /-- the dict of an exception -/
 | xd (fs:List (Str × V))
 /-- a bound method,f of x -/
 | met (f x:Addr)
 /-- a range object lo,lo+1,.. below hi -/
 | rng (lo hi:Int)
 /-- a thing that is known to the object (the script;a dict while a loop walks it): read,never written while it is so -/
 | frz (o:Obj) (u:HO)
 /-- a code object's table -/
 | tbl (ps:Array Value)
 /-- any other thing,by what is true of its one object (a def of one's own: SetO a S n:=HO.ext λh=>..) -/
 | ext (φ:Heap->Prop)
abbrev Hp:=Addr->Option HO
def upd (H:Hp) (a:Addr) (o:HO):Hp:=λb=>if b=a then some o else H b
variable {a b it dx C f:Addr} {H H':Hp}
theorem af {o:HO}:upd H a o a=some o:=by unfold upd;rw[QH rfl]
theorem am {o:HO} (h:b≠a):upd H a o b=H b:=by unfold upd;rw[QB h]
theorem cU {o u:HO} (h:H a=some o) (h':H b=some u) (d:o≠u):a≠b:=by
 intro e;subst e;rw[h]at h';exact d (QO h')
theorem ax {o:HO} (h:H a=some o) (h':H b=none):a≠b:=by
 intro e;subst e;rw[h]at h';cases h'
section
variable (P:Program) (w:World)
noncomputable def ba (H:Hp) (h:Heap) (a:Addr):HO->Prop
 | .lst xs=>xs.length<=sizeLine/\∃(its:List Value) (n:Nat),aM xs its/\h.get? a=some { cls:=.type "list", data:=.seq its.toArray n }
 | .tup xs=>xs.length<=sizeLine/\∃its:List Value,aM xs its/\IsTup h a its.toArray
 | .dK kvs=>kvs.length<=sizeLine/\(a==sysModules)=false/\∃vs,KV kvs vs/\h.DictOf (bu P w) a vs
 | .dT kvs=>kvs.length<=sizeLine/\(a==sysModules)=false/\∃xs:List (List Key × Addr × Value),
   Paired (λ(p:List Key × V) (q:List Key × Addr × Value)=>p.1=q.1/\H q.2.1=some (.tup (p.1.map kV))/\aU p.2 q.2.2) kvs xs /\
   ∃o es ep,h.get? a=some o/\o.ExactDict/\o.data=.dict es ep/\es.toList=xs.map (entryOfKey (tupleKind (bu P w)))/\(xs.map (·.1)).Nodup
 | .set S n=>h.SetOf (intKind P w) a S n
 | .ins C dx fs=>H dx=some (.own a)/\fs.length<=1000/\dx≠a/\h.get? a=some (PySem.W.instObj C dx) /\
   ∃mA,h.Ns1 dx mA/\(∀f,eX (fs.lookup f) (mA f))/\PySem.Within mA (fs.map (·.1))
 | .own _=>∃o,h.get? a=some o
 | .xd fs=>∃mA,h.Ns1 a mA/\∀f,eX (fs.lookup f) (mA f)
 | .rng lo hi=>∃t u v,h.get? a=some { cls:=.type "range", data:=.fields #[.int lo t,.int hi u,.int 1 v] }
 | .frz o u=>h.get? a=some o/\ba H h a u
 | .tbl ps=>h.get? a=some { cls:=.none,data:=.fields ps }
 | .met f x=>h.get? a=some (PySem.W.methodObj (.ref f) (.ref x))
 | .ext φ=>φ h/\(∃o,h.get? a=some o)/\∀h1 h2:Heap,φ h1->(∀o,h1.get? a=some o->h2.get? a=some o)->φ h2
def HOk (H:Hp) (h:Heap):Prop:=∀a o,H a=some o->ba P w H h a o
end
section
variable {P:Program} {w:World} {H H':Hp} {h h':Heap} {a:Addr} {o:HO}
theorem ba.lt (x:ba P w H h a o):a<h.objs.size:=by
 cases o with
 | lst xs=>obtain⟨_,_,_,_,e⟩:=x;exact Qk e
 | tup xs=>obtain⟨_,_,_,p⟩:=x;exact p.lt
 | dK kvs=>obtain⟨_,_,_,_,o,_,_,e,_⟩:=x;exact Qk e
 | dT kvs=>obtain⟨_,_,_,_,o,_,_,e,_⟩:=x;exact Qk e
 | set S n=>obtain⟨o,_,_,_,e,_⟩:=x;exact Qk e
 | ins C dx fs=>obtain⟨_,_,_,e,_⟩:=x;exact Qk e
 | own y=>obtain⟨_,e⟩:=x;exact Qk e
 | xd fs=>obtain⟨_,⟨_,_,_,e,_⟩,_⟩:=x;exact Qk e
 | rng lo hi=>obtain⟨_,_,_,e⟩:=x;exact Qk e
 | frz ob u=>obtain⟨e,_⟩:=x;exact Qk e
 | tbl ps=>exact Qk (show h.get? a=some _ from x)
 | met f y=>exact Qk (show h.get? a=some _ from x)
 | ext φ=>obtain⟨_,⟨_,e⟩,_⟩:=x;exact Qk e
theorem Paired.mapP {α β:Type} {F G:α->β->Prop}:∀{l₁:List α} {l₂:List β},Paired F l₁ l₂->(∀a b,F a b->G a b)->Paired G l₁ l₂
 | _,_,.nil,_=>.nil
 | _,_,.cons r t,f=>.cons (f _ _ r) (Paired.mapP t f)
theorem ba.stay (x:ba P w H h a o) (k:∀b u,(b=a\/H b=some (.own a))->h.get? b=some u->h'.get? b=some u)
  (ho:∀b,H b=some (.own a)->H' b=some (.own a)) (ht:∀b xs,H b=some (.tup xs)->H' b=some (.tup xs)):ba P w H' h' a o:=by
 induction o with
 | lst xs=>obtain⟨z,its,n,r,e⟩:=x;exact⟨z,its,n,r,k _ _ (.inl rfl) e⟩
 | tup xs=>obtain⟨z,its,r,ob,e,c⟩:=x;exact⟨z,its,r,ob,k _ _ (.inl rfl) e,c⟩
 | dK kvs=>obtain⟨z,y,vs,r,ob,es,ep,e,c⟩:=x;exact⟨z,y,vs,r,ob,es,ep,k _ _ (.inl rfl) e,c⟩
 | dT kvs =>
  obtain⟨z,y,xs,r,ob,es,ep,e,c⟩:=x;exact⟨z,y,xs,Paired.mapP r λp q z=>⟨z.1,ht _ _ z.2.1,z.2.2⟩,ob,es,ep,k _ _ (.inl rfl) e,c⟩
 | set S n=>obtain⟨ob,es,ep,t,e,c⟩:=x;exact⟨ob,es,ep,t,k _ _ (.inl rfl) e,c⟩
 | ins C dx fs =>
  obtain⟨d,z,ne,e,mA,⟨od,es,ep,e2,c⟩,r⟩:=x;exact⟨ho _ d,z,ne,k _ _ (.inl rfl) e,mA,⟨od,es,ep,k _ _ (.inr d) e2,c⟩,r⟩
 | own y=>obtain⟨ob,e⟩:=x;exact⟨ob,k _ _ (.inl rfl) e⟩
 | xd fs=>obtain⟨mA,⟨od,es,ep,e,c⟩,r⟩:=x;exact⟨mA,⟨od,es,ep,k _ _ (.inl rfl) e,c⟩,r⟩
 | rng lo hi=>obtain⟨t,u,v,e⟩:=x;exact⟨t,u,v,k _ _ (.inl rfl) e⟩
 | frz ob u ih=>obtain⟨e,q⟩:=x;exact⟨k _ _ (.inl rfl) e,ih q⟩
 | tbl ps =>
  have e:h.get? a=some { cls:=.none,data:=.fields ps }:=x;show h'.get? a=some { cls:=.none,data:=.fields ps };exact k a _ (.inl rfl) e
 | met f y =>
  have e:h.get? a=some (PySem.W.methodObj (.ref f) (.ref y)):=x;show h'.get? a=some (PySem.W.methodObj (.ref f) (.ref y));exact k a _ (.inl rfl) e
 | ext φ=>obtain⟨p,⟨o,e⟩,st⟩:=x;exact⟨st _ _ p λo q=>k _ _ (.inl rfl) q,⟨o,k _ _ (.inl rfl) e⟩,st⟩
theorem HOk.lt (x:HOk P w H h) (e:H a=some o):a<h.objs.size:=(x a o e).lt
theorem HOk.fresh (x:HOk P w H h) (e:h.objs.size<=a):H a=none:=by
 cases q:H a with
 | none=>rfl
 | some u=>exact absurd (Qv (x.lt q) e) (Nat.lt_irrefl _)
theorem HOk.kept (x:HOk P w H h) (k:∀b u,h.get? b=some u->h'.get? b=some u):HOk P w H h':=λa o e =>
 (x a o e).stay (λb u _ q=>k b u q) (λ_ q=>q) λ_ _ q=>q
theorem HOk.laid (x:HOk P w H h) (k:∀b u,h.get? b=some u->h'.get? b=some u) (hp:h.objs.size<=a) (new:ba P w (upd H a o) h' a o):HOk P w (upd H a o) h':=λb u e=>by
 have hn:=x.fresh hp;by_cases hb:b=a
 ·subst hb;rw[af]at e;cases e;exact new
 rw[am hb]at e;exact(x b u e).stay (λc v _ q=>k c v q) (λc q=>by rw[am (ax q hn)];exact q) λc xs q=>by rw[am (ax q hn)];exact q
end
def Rd (H:Hp) (a:Addr) (u:HO):Prop:=H a=some u\/∃o,H a=some (.frz o u)
variable {h:Heap}
theorem Rd.ok {P:Program} {w:World} {u:HO} (r:Rd H a u) (x:HOk P w H h):ba P w H h a u:=by
 rcases r with r|⟨o,r⟩
 ·exact x a u r
 obtain⟨_,q⟩:=x a _ r;exact q
def Mut:Option HO->Prop
 | some (.lst _)=>True
 | some (.dK _)=>True
 | some (.dT _)=>True
 | some (.set _ _)=>True
 | some (.ins _ _ _)=>True
 | some (.ext _)=>True
 | _=>False
section
variable {P:Program} {w:World} {H:Hp} {h h':Heap} {x e:Addr} {o':HO}
theorem HOk.write (ok:HOk P w H h) (mu:Mut (H x)) (he:e=x\/H e=some (.own x)) (k:∀b u,b≠e->h.get? b=some u->h'.get? b=some u) (heo:∃u,h'.get? e=some u)
  (new:ba P w (upd H x o') h' x o'):HOk P w (upd H x o') h':=λb u q=>by
 have nown:∀c y,H c=some (.own y)->c≠x:=λc y r z=>by subst z;rw[r]at mu;exact mu
 have ntup:∀c xs,H c=some (.tup xs)->c≠x:=λc xs r z=>by subst z;rw[r]at mu;exact mu
 by_cases hb:b=x
 ·subst hb;rw[af]at q;cases q;exact new
 rw[am hb]at q;by_cases hbe:b=e
 ·have q':H b=some (.own x):=by
   rcases he with z|z
   ·exact absurd (hbe.trans z) hb
   rw[hbe];exact z
  rw[q]at q';cases q';obtain⟨v,hv⟩:=heo;exact⟨v,by rw[hbe];exact hv⟩
 refine(ok b u q).stay (λc v hc r=>k c v ?_ r) (λc r=>by rw[am (nown c b r)];exact r) λc xs r=>by rw[am (ntup c xs r)];exact r
 rcases hc with rfl|hc
 ·exact hbe
 rintro rfl;rcases he with z|z
 ·exact nown c b hc z
 rw[hc]at z;cases z;exact hb rfl
end
structure Un (fs ex:A3) (H H':Hp) (h h':Heap):Prop where
 keep:∀b o,h.get? b=some o->H b=none->b∉fs->b∉ex->h'.get? b=some o
 slot:∀b o,h.get? b=some o->H b=none->b∈fs->b∉ex->∃sl,h'.get? b=some { o with slots:=sl }
 free:∀b o,h.get? b=some o->H b=none->b∉ex->H' b=none
 there:∀b o,h.get? b=some o->b∉ex->∃o',h'.get? b=some o'
 tups:∀b xs,H b=some (.tup xs)->H' b=some (.tup xs)
 frzs:∀b o u,H b=some (.frz o u)->H' b=some (.frz o u)
 tbls:∀b ps,H b=some (.tbl ps)->∃more,H' b=some (.tbl (ps++more))
section
variable {fs fs' ex ex':A3} {H H1 H2:Hp} {h h1 h2 h':Heap} {a x e:Addr} {o:HO}
theorem Un.any (u:Un fs ex H H1 h h1) {b:Addr} {ob:Obj} (q:h.get? b=some ob) (n:H b=none) (hx:b∉ex):∃sl,h1.get? b=some { ob with slots:=sl }:=by
 by_cases hb:b∈fs
 ·exact u.slot b ob q n hb hx
 exact⟨ob.slots,u.keep b ob q n hb hx⟩
theorem Un.kept (k:∀b u,h.get? b=some u->h'.get? b=some u):Un fs ex H H h h' :=
 ⟨λb ob q _ _ _=>k b ob q,λb ob q _ _ _=>⟨ob.slots,k b ob q⟩,λ_ _ _ n _=>n,λb ob q _=>⟨ob,k b ob q⟩,λ_ _ q=>q,λ_ _ _ q=>q,λ_ ps q=>⟨#[],by rw[q];simp⟩⟩
theorem Un.refl:Un fs ex H H h h:=Un.kept λ_ _ q=>q
theorem Un.laid (k:∀b u,h.get? b=some u->h'.get? b=some u) (hp:h.objs.size<=a) (hn:H a=none):Un fs ex H (upd H a o) h h' where
 keep:=λb u q _ _ _=>k b u q
 slot:=λb u q _ _ _=>⟨u.slots,k b u q⟩
 free:=λb u q n _=>by rw[am (Qy (Qv (Qk q) hp))];exact n
 there:=λb u q _=>⟨u,k b u q⟩
 tups:=λb xs q=>by rw[am (ax q hn)];exact q
 frzs:=λb u xs q=>by rw[am (ax q hn)];exact q
 tbls:=λb ps q=>⟨#[],by rw[am (ax q hn),q];simp⟩
theorem Un.write (mu:Mut (H x)) (he:e=x\/H e=some (.own x)) (k:∀b u,b≠e->h.get? b=some u->h'.get? b=some u) (heo:∃u,h'.get? e=some u):Un fs ex H (upd H x o) h h':=by
 have hx:∀b,H b=none->b≠x:=λb n z=>by subst z;rw[n]at mu;exact mu
 have hb:∀b,H b=none->b≠e:=λb n z=>by
  subst z;rcases he with r|r
  ·exact hx b n r
  rw[n]at r;cases r
 have hm:∀b u,H b=some u->¬Mut (some u)->b≠x:=λb u q nm z=>by subst z;rw[q]at mu;exact nm mu
 refine⟨λb u q n _ _=>k b u (hb b n) q,λb u q n _ _=>⟨u.slots,k b u (hb b n) q⟩,λb u q n _=>by rw[am (hx b n)];exact n,λb u q _=>?_,
  λb xs q=>by rw[am (hm b _ q λz=>z)];exact q,λb u xs q=>by rw[am (hm b _ q λz=>z)];exact q,λb ps q=>⟨#[],by rw[am (hm b _ q λz=>z),q];simp⟩⟩
 by_cases hbe:b=e
 ·subst hbe;exact heo
 exact⟨u,k b u hbe q⟩
end
def trk (h:Heap) (H:Hp):A3:=(List.range h.objs.size).filter λa=>(H a).isSome
def gR (h:Heap) (H:Hp):Heap:=PySem.W.hideAll h (trk h H)
theorem m8 (h:Heap) (H:Hp):(gR h H).objs.size=h.objs.size:=PySem.W.hideAll_size _ _
theorem oU {o:Obj} (e:h.get? b=some o) (n:H b=none):(gR h H).get? b=some o :=
 PySem.W.hideAll_get _ e λhm=>by
  have q:(H b).isSome=true:=(List.mem_filter.mp hm).2;rw[n]at q;simp at q
theorem qo {o:Obj} (e:(gR h H).get? b=some o):h.get? b=some o/\H b=none:=by
 have e':h.get? b=some o:=PySem.W.of_hideAll (trk h H) e;refine⟨e',?_⟩
 cases q:H b with
 | none=>rfl
 | some x =>
 have hm:b∈trk h H:=List.mem_filter.mpr ⟨List.mem_range.mpr (Qk e'),by simp[q]⟩;have z:(gR h H).get? b=none:=PySem.W.hideAll_none (trk h H) hm;rw[z]at e;cases e
structure Mod (K:PySem.W.Frag) (mg:A2) (base:Heap):Prop where
 kin:K.In base
 glob:base.Ns mainGlobals mg
 blt:∃mb,base.Ns builtinsNs mb/\∀x:Str,x ≠ "__name__" -> mb x=bootBuiltins x
 nolimit:base.NoLimit
/-- the context: a def's body (or a comprehension's block) running. base: fixed through the whole law;s₀,H₀: the entry;outer: the frames whose slots others may change (a def's callers);stack: all frames that run;
  ex: iterators that were gQ ahead of the entry and are walked here (a comprehension's);fn: the names whose cells were gQ at the entry (a def: all;a comprehension's block: its own);calm: not within an except suite;pn: pins that every state bears;xe: what is wanted of an exception that leaves the code -/
structure Cx where
 prog:Program
 w:World
 K:PySem.W.Frag
 mg:A2
 base:Heap
 A:Around
 N:List Str
 s₀:Shared
 H₀:Hp
 env:Env
 outer:List Env
 stack:List Env
 ex:A3
 fn:Str->Bool
 calm:Bool
 pn:A1
 xe:A0
def frs (l:List Env):A3:=l.filterMap (·.frame)
abbrev Cx.fs (X:Cx):A3:=frs X.outer
def Vis (sc:Scope) (x:Str):Prop:=sc.names.lookup x=some .local\/sc.names.lookup x=some .cell\/sc.names.lookup x=some .free
def Loc (sc:Scope) (x:Str):Prop:=sc.names.lookup x=some .local\/sc.names.lookup x=some .cell
def vj (env:Env) (h:Heap) (m:A2) (x:Str) (u:Value):Prop :=
 (env.kindOf x=some .local/\m x=some u)\/((env.kindOf x=some .cell\/env.kindOf x=some .free)/\∃c,env.cells.lookup x=some c/\h.IsCell c (some u))
structure Cx.Ok (X:Cx):Prop where
 mod:Mod X.K X.mg X.base
 kind:X.env.scope.kind=.function
 glob:X.env.globals=mainGlobals
 blt:X.env.builtins=builtinsNs
 above:X.s₀.heap.objs.size<=X.env.locals
 inj:∀x y c,X.env.cells.lookup x=some c->X.env.cells.lookup y=some c->x=y
 has:∀x,(X.env.kindOf x=some .cell\/X.env.kindOf x=some .free)->∃c,X.env.cells.lookup x=some c
 cab:∀x c,X.fn x=true->X.env.cells.lookup x=some c->X.s₀.heap.objs.size<=c
 hd:X.calm=true->X.A.handled=none
 frames:X.A.frames=some X.stack
 stk:X.stack=X.outer\/(X.stack=X.env::X.outer/\X.env.frame=some X.env.locals)
 exf:∀b∈X.ex,b≠X.env.locals/\∀x c,X.env.cells.lookup x=some c->c≠b
 bs:∀b o,X.base.get? b=some o->X.s₀.heap.get? b=some o/\X.H₀ b=none
 bsz:X.base.objs.size<=X.s₀.heap.objs.size
 noex:∀b o,X.base.get? b=some o->b∉X.ex
 exfs:∀b∈X.ex,b∉X.fs
 funs:X.s₀.heap.FunFrames X.base X.outer
 frf:∀b∈X.fs,X.H₀ b=none
structure Inv (X:Cx) (pins:A1) (σ:List (Option V)) (H:Hp) (s:Shared):Prop where
 ok:X.Ok
 os:s.os=X.s₀.os
 bare:AllBare s.gens
 base:Un X.fs X.ex X.H₀ H X.s₀.heap s.heap
 loc:∃m,s.heap.Ns X.env.locals m/\∀(i:Nat) (x:Str) (v:V),X.N[i]?=some x->σ[i]?=some (some v)->Vis X.env.scope x->∃u,aU v u/\vj X.env s.heap m x u
 cell:∀x c,X.env.cells.lookup x=some c->∃v,s.heap.IsCell c v
 free:H X.env.locals=none
 freeC:∀x c,X.env.cells.lookup x=some c->H c=none
 pin:∀p∈X.pn++pins,s.heap.get? p.1=some p.2/\H p.1=none/\p.1≠X.env.locals/\p.1∉X.fs/\∀v,p.2.data≠.cell v
 hok:HOk X.prog X.w H s.heap
 len:σ.length=X.N.length
section
variable {X:Cx} {pins:A1} {σ:List (Option V)} {H H':Hp} {s:Shared} {h':Heap}
theorem Cx.Ok.nofr (ok:X.Ok) {b:Addr} {o:Obj} (e:X.base.get? b=some o):b∉X.fs:=λhb=>by
 have:=(ok.funs.mem hb).1;rw[e]at this;cases this
theorem Inv.bs (I:Inv X pins σ H s):∀b o,X.base.get? b=some o->s.heap.get? b=some o/\H b=none:=λb o e =>
 ⟨I.base.keep b o (I.ok.bs b o e).1 (I.ok.bs b o e).2 (I.ok.nofr e) (I.ok.noex b o e),I.base.free b o (I.ok.bs b o e).1 (I.ok.bs b o e).2 (I.ok.noex b o e)⟩
theorem Inv.bk (I:Inv X pins σ H s):∀b o,X.base.get? b=some o->s.heap.get? b=some o:=λb o e=>(I.bs b o e).1
theorem Inv.mod (I:Inv X pins σ H s):Mod X.K X.mg X.base:=I.ok.mod
theorem Inv.kIn (I:Inv X pins σ H s):X.K.In s.heap:=I.ok.mod.kin.keeps I.bk
theorem Inv.lt (I:Inv X pins σ H s):X.env.locals<s.heap.objs.size:=let ⟨_,hn,_⟩:=I.loc;hn.lt
theorem Inv.sz (I:Inv X pins σ H s):X.s₀.heap.objs.size<=s.heap.objs.size:=QQ I.ok.above (Nat.le_of_lt I.lt)
theorem Inv.nofs (I:Inv X pins σ H s) {a:Addr} (h:s.heap.objs.size<=a):a∉X.fs:=λhb=>by
 obtain⟨_,o,ho,_⟩:=I.ok.funs.mem hb;exact absurd (Qv (Qk ho) (QQ I.sz h)) (Nat.lt_irrefl _)
theorem Inv.cne (I:Inv X pins σ H s):∀x c,X.env.cells.lookup x=some c->c≠X.env.locals:=λx c e z=>by
 obtain⟨v,o,ho,hd⟩:=I.cell x c e;obtain⟨m,⟨o',es,ep,ho',hd',_⟩,_⟩:=I.loc;rw[z,ho']at ho;cases ho;rw[hd']at hd;cases hd
theorem Inv.funs (I:Inv X pins σ H s):s.heap.FunFrames X.base X.outer:=by
 have all:∀(l:List Env),(∀b∈frs l,b∈X.fs)->X.s₀.heap.FunFrames X.base l->s.heap.FunFrames X.base l:=by
  intro l
  induction l with
  | nil=>intro _ _;trivial
  | cons env r ih =>
  intro hs hl;obtain⟨hk,⟨L,o,hf,hn,ho,hd⟩,hr⟩:=hl;have hL:L∈X.fs:=hs L (by unfold frs;rw[List.filterMap_cons,hf];exact xn);obtain⟨sl,e⟩:=I.base.slot L o ho (I.ok.frf L hL) hL λz=>I.ok.exfs L z hL;exact⟨hk,⟨L,_,hf,hn,e,hd⟩,ih (λb hb=>hs b (by unfold frs;rw[List.filterMap_cons,hf];exact Qp _ hb)) hr⟩
 exact all X.outer (λ_ hb=>hb) I.ok.funs
theorem Inv.stack (I:Inv X pins σ H s):s.heap.FunFrames X.base X.stack:=by
 rcases I.ok.stk with e|⟨e,hf⟩
 ·rw[e];exact I.funs
 rw[e];obtain⟨m,hn,_⟩:=I.loc;refine .cons (by rw[I.ok.kind];decide) hf hn ?_ I.funs;exact xb (QQ I.ok.bsz I.ok.above)
theorem Inv.stkSub (I:Inv X pins σ H s):∀b∈frs X.stack,b∈X.env.locals::X.fs:=λb hb=>by
 rcases I.ok.stk with e|⟨e,hf⟩
 ·rw[e]at hb;exact Qp _ hb
 rw[e]at hb;unfold frs at hb;rw[List.filterMap_cons,hf]at hb;exact hb
theorem Inv.stkFree (I:Inv X pins σ H s):∀b∈frs X.stack,H b=none:=λb hb=>by
 rcases Q5.mp (I.stkSub b hb) with e|hb
 ·rw[e];exact I.free
 obtain⟨_,o,ho,_⟩:=I.ok.funs.mem hb;exact I.base.free b o ho (I.ok.frf b hb) λz=>I.ok.exfs b z hb
theorem Inv.step {g':Array GenState} {t':Nat} {d':Drawn} {ch:A3} (I:Inv X pins σ H s)
  (hch:∀b∈ch,(b∈X.ex\/X.s₀.heap.objs.size<=b)/\b≠X.env.locals/\(∀x c,X.env.cells.lookup x=some c->c≠b)/\∀p∈X.pn++pins,p.1≠b)
  (keep:∀b o,b≠X.env.locals->b∉X.fs->b∉ch->s.heap.get? b=some o->H b=none->h'.get? b=some o)
  (slot:∀b o,b≠X.env.locals->b∈X.fs->b∉ch->s.heap.get? b=some o->H b=none->∃sl,h'.get? b=some { o with slots:=sl }) (free:∀b o,b∉ch->s.heap.get? b=some o->H b=none->H' b=none)
  (there:∀b o,b∉ch->s.heap.get? b=some o->∃o',h'.get? b=some o')
  (tups:∀b xs,H b=some (.tup xs)->H' b=some (.tup xs)) (frzs:∀b o u,H b=some (.frz o u)->H' b=some (.frz o u)) (tbls:∀b ps,H b=some (.tbl ps)->∃more,H' b=some (.tbl (ps++more)))
  (ns:∀m,s.heap.Ns X.env.locals m->h'.Ns X.env.locals m) (hok:HOk X.prog X.w H' h') (hg:AllBare g') :
  Inv X pins σ H' { s with heap:=h',gens:=g',drawn:=d',toks:=t' }:=by
 have neL:∀b o,X.s₀.heap.get? b=some o->b≠X.env.locals:=λb o e=>Qy (Qv (Qk e) I.ok.above)
 have neC:∀b o,X.s₀.heap.get? b=some o->b∉X.ex->b∉ch:=λb o e hx hb=>by
  rcases(hch b hb).1 with z|z
  ·exact hx z
  exact absurd (Qv (Qk e) z) (Nat.lt_irrefl _)
 have cellK:∀x c,X.env.cells.lookup x=some c->∀v,s.heap.IsCell c v->h'.IsCell c v:=λx c e v ⟨o,ho,hd⟩=>by
  have nch:c∉ch:=λz=>(hch c z).2.2.1 x c e rfl;by_cases hc:c∈X.fs
  ·obtain⟨sl,q⟩:=slot c o (I.cne x c e) hc nch ho (I.freeC x c e);exact⟨_,q,hd⟩
  exact⟨o,keep c o (I.cne x c e) hc nch ho (I.freeC x c e),hd⟩
 refine⟨I.ok,I.os,hg,⟨λb o e n hb hx=>?_,λb o e n hb hx=>?_,λb o e n hx=>?_,λb o e hx=>?_,λb xs e=>tups b xs (I.base.tups b xs e),λb o xs e=>frzs b o xs (I.base.frzs b o xs e),λb ps e=>?_⟩,?_,λx c e=>?_,?_,λx c e=>?_,λp hp=>?_,hok,I.len⟩
 ·exact keep b o (neL b o e) hb (neC b o e hx) (I.base.keep b o e n hb hx) (I.base.free b o e n hx)
 ·obtain⟨sl,e1⟩:=I.base.slot b o e n hb hx;obtain⟨sl',e2⟩:=slot b _ (neL b o e) hb (neC b o e hx) e1 (I.base.free b o e n hx);exact⟨sl',e2⟩
 ·obtain⟨o',e1⟩:=I.base.there b o e hx;exact free b o' (neC b o e hx) e1 (I.base.free b o e n hx)
 ·obtain⟨o',e1⟩:=I.base.there b o e hx;exact there b o' (neC b o e hx) e1
 ·obtain⟨m1,e1⟩:=I.base.tbls b ps e;obtain⟨m2,e2⟩:=tbls b _ e1;exact⟨m1++m2,by rw[e2,Array.append_assoc]⟩
 ·obtain⟨m,hn,hl⟩:=I.loc;refine⟨m,ns m hn,λi x v e1 e2 e3=>?_⟩;obtain⟨u,r,l⟩:=hl i x v e1 e2 e3;refine⟨u,r,?_⟩;rcases l with l|⟨k,c,e,z⟩
  ·exact .inl l
  exact .inr ⟨k,c,e,cellK x c e _ z⟩
 ·obtain⟨v,z⟩:=I.cell x c e;exact⟨v,cellK x c e v z⟩
 ·obtain⟨m,⟨o,_,_,ho,_⟩,_⟩:=I.loc;exact free _ o (λz=>(hch _ z).2.1 rfl) ho I.free
 ·obtain⟨v,o,ho,hd⟩:=I.cell x c e;exact free c o (λz=>(hch c z).2.2.1 x c e rfl) ho (I.freeC x c e)
 obtain⟨e,n,ne,nf,d⟩:=I.pin p hp;have nch:p.1∉ch:=λz=>(hch p.1 z).2.2.2 p hp rfl;exact⟨keep p.1 p.2 ne nf nch e n,free p.1 p.2 nch e n,ne,nf,d⟩
theorem Inv.un {t':Nat} (I:Inv X pins σ H s) (u:Un X.fs [] H H' s.heap h') (hok:HOk X.prog X.w H' h'):Inv X pins σ H' { s with heap:=h',toks:=t' }:=by
 obtain⟨m,⟨o,es,ep,ho,r⟩,_⟩:=id I.loc;obtain⟨sl,hL⟩:=u.any ho I.free (by simp)
 exact I.step (g':=s.gens) (d':=s.drawn) (ch:=[]) (λ_ z=>nomatch z) (λb o _ hb _ e n=>u.keep b o e n hb (by simp)) (λb o _ hb _ e n=>u.slot b o e n hb (by simp)) (λb o _ e n=>u.free b o e n (by simp)) (λb o _ e=>u.there b o e (by simp)) u.tups u.frzs u.tbls (λm' hm=>by
  obtain⟨o',es',ep',ho',r'⟩:=hm;rw[ho]at ho';cases ho'
  exact⟨_,es',ep',hL,r'⟩) hok I.bare
theorem Inv.call {g':Array GenState} {t':Nat} {d':Drawn} {ch:A3} (I:Inv X pins σ H s) (u:Un (frs X.stack) ch H H' s.heap h') (hok:HOk X.prog X.w H' h') (hg:AllBare g')
  (hch:∀b∈ch,(b∈X.ex\/X.s₀.heap.objs.size<=b)/\b≠X.env.locals/\(∀x c,X.env.cells.lookup x=some c->c≠b)/\∀p∈X.pn++pins,p.1≠b) :
  Inv X pins σ H' { s with heap:=h',gens:=g',drawn:=d',toks:=t' }:=by
 obtain⟨m,⟨o,es,ep,ho,r⟩,_⟩:=id I.loc;obtain⟨sl,hL⟩:=u.any ho I.free λz=>(hch _ z).2.1 rfl
 exact I.step (ch:=ch) hch (λb o hL hb hc e n=>u.keep b o e n (λz=>(Q5.mp (I.stkSub b z)).elim hL hb) hc) (λb o _ _ hc e n=>u.any e n hc) (λb o hc e n=>u.free b o e n hc) (λb o hc e=>u.there b o e hc) u.tups u.frzs u.tbls (λm' hm=>by
  obtain⟨o',es',ep',ho',r'⟩:=hm;rw[ho]at ho';cases ho'
  exact⟨_,es',ep',hL,r'⟩) hok hg
theorem Inv.turned {t':Nat} {it:Addr} (I:Inv X pins σ H s) (k:∀b o,b≠it->s.heap.get? b=some o->h'.get? b=some o) (hn:H it=none) (hL:it≠X.env.locals)
  (h1:it∈X.ex\/X.s₀.heap.objs.size<=it) (h2:∀x c,X.env.cells.lookup x=some c->c≠it) (h3:∀p∈X.pn++pins,p.1≠it):Inv X pins σ H { s with heap:=h',toks:=t' }:=by
 have nit:∀b u,H b=some u->b≠it:=λb u e z=>by rw[z,hn]at e;cases e
 refine I.step (g':=s.gens) (d':=s.drawn) (ch:=[it]) (λb hb=>?_) (λb o _ _ hc e _=>k b o (λz=>hc (by simp[z])) e) (λb o _ _ hc e _=>⟨o.slots,k b o (λz=>hc (by simp[z])) e⟩) (λ_ _ _ _ n=>n)
  (λb o hc e=>⟨o,k b o (λz=>hc (by simp[z])) e⟩) (λ_ _ e=>e) (λ_ _ _ e=>e) (λb ps e=>⟨#[],by rw[e];simp⟩) (λm hm=>?_) (λb u e=>?_) I.bare
 ·have e:b=it:=by simpa using hb
  subst e;exact⟨h1,hL,h2,h3⟩
 ·obtain⟨o,es,ep,ho,r⟩:=hm;exact⟨o,es,ep,k _ o (QT hL) ho,r⟩
 refine(I.hok b u e).stay (λc v hc q=>k c v ?_ q) (λ_ q=>q) λ_ _ q=>q;rcases hc with z|z
 ·rw[z];exact nit b u e
 exact nit c _ z
theorem Inv.tok (I:Inv X pins σ H s) (t:Nat):Inv X pins σ H { s with toks:=t }:=I.un (h':=s.heap) (t':=t) Un.refl I.hok
theorem Inv.kept {t':Nat} (I:Inv X pins σ H s) (k:∀b u,s.heap.get? b=some u->h'.get? b=some u):Inv X pins σ H { s with heap:=h',toks:=t' }:=I.un (Un.kept k) (I.hok.kept k)
theorem Inv.laid {a:Addr} {o:HO} {t':Nat} (I:Inv X pins σ H s) (k:∀b u,s.heap.get? b=some u->h'.get? b=some u) (hp:s.heap.objs.size<=a) (new:ba X.prog X.w (upd H a o) h' a o) :
  Inv X pins σ (upd H a o) { s with heap:=h',toks:=t' }:=I.un (Un.laid k hp (I.hok.fresh hp)) (I.hok.laid k hp new)
theorem Inv.write {x e:Addr} {o:HO} {t':Nat} (I:Inv X pins σ H s) (mu:Mut (H x)) (he:e=x\/H e=some (.own x)) (k:∀b u,b≠e->s.heap.get? b=some u->h'.get? b=some u) (heo:∃u,h'.get? e=some u)
  (new:ba X.prog X.w (upd H x o) h' x o):Inv X pins σ (upd H x o) { s with heap:=h',toks:=t' }:=I.un (Un.write mu he k heo) (I.hok.write mu he k heo new)
theorem Inv.weak {σ':List (Option V)} (I:Inv X pins σ H s) (hl:σ'.length=σ.length) (w:∀(i:Nat) v,σ'[i]?=some (some v)->σ[i]?=some (some v)):Inv X pins σ' H s :=
 ⟨I.ok,I.os,I.bare,I.base,let ⟨m,hn,hl'⟩:=I.loc;⟨m,hn,λi x v e1 e2 e3=>hl' i x v e1 (w i v e2) e3⟩,I.cell,I.free,I.freeC,I.pin,I.hok,hl.trans I.len⟩
theorem Inv.pins_of {pins':A1} (I:Inv X pins σ H s) (h:∀p∈pins',s.heap.get? p.1=some p.2/\H p.1=none/\p.1≠X.env.locals/\p.1∉X.fs/\∀v,p.2.data≠.cell v):Inv X pins' σ H s :=
 ⟨I.ok,I.os,I.bare,I.base,I.loc,I.cell,I.free,I.freeC,λp hp=>(QR.mp hp).elim (λz=>I.pin p (List.mem_append_left _ z)) (h p),I.hok,I.len⟩
theorem gf {N:List Str} (hN:N.Nodup) {i j:Nat} {x:Str} (a:N[i]?=some x) (b:N[j]?=some x):i=j:=by
 obtain⟨h1,e1⟩:=Qf.mp a;obtain⟨h2,e2⟩:=Qf.mp b;exact(List.getElem_inj hN).mp (e1.trans e2.symm)
variable {Q:Unit->Shared->Prop} {E:A0}
theorem hX {M:Model} {A:Around} {i:Nat} {x:Str} {v:V} {u:Value} (I:Inv X pins σ H s) (hN:X.N.Nodup) (hi:X.N[i]?=some x) (hx:Loc X.env.scope x) (r:aU v u)
  (h:∀s',Inv X pins (σ.set i (some v)) H s'->(∃a,Heap.SameBut a s.heap s'.heap/\(a=X.env.locals\/X.env.cells.lookup x=some a))->Q () s') (hf:X.fn x=true\/X.env.scope.names.lookup x=some .local:=by z_go):wpAny M A (storeName X.env x u) Q E s:=by
 obtain⟨m,hn,hl⟩:=id I.loc;have hcls:(X.env.scope.kind==.class || (X.env.scope.kind==.module&&X.env.locals != X.env.globals))=false:=by rw[I.ok.kind];rfl
 have hiσ:i<σ.length:=by rw[I.len];exact(Qf.mp hi).1
 have cne:=I.cne
 have tracked:∀{a:Addr} {h':Heap},(∃o,s.heap.get? a=some o/\H a=none)->Heap.SameBut a s.heap h'->HOk X.prog X.w H h':=λ{a h'} ha hs b ob e=>by
  obtain⟨_,_,hfree⟩:=ha;refine(I.hok b ob e).stay (λc w' hc q=>(hs.2 c ?_).trans q) (λ_ q=>q) λ_ _ q=>q;rintro rfl;rcases hc with rfl|hc
  ·rw[hfree]at e;cases e
  rw[hfree]at hc;cases hc
 rcases hx with hk|hk
 ·refine wpAny_storeName_local hk hn (λh' hn' hs=>?_) hcls;obtain⟨oL,_,_,hoL,_⟩:=id hn;refine h _ ⟨I.ok,I.os,I.bare,⟨λb o e n hb hx=>?_,λb o e n hb hx=>?_,I.base.free,λb o e hx=>?_,I.base.tups,I.base.frzs,I.base.tbls⟩,⟨_,hn',λj y v' e1 e2 e3=>?_⟩,λy c e=>?_,I.free,I.freeC,λp hp=>?_,tracked ⟨oL,hoL,I.free⟩ hs,by simpa using I.len⟩ ⟨_,hs,.inl rfl⟩
  ·exact(hs.2 b (Qy (Qv (Qk e) I.ok.above))).trans (I.base.keep b o e n hb hx)
  ·obtain⟨sl,e1⟩:=I.base.slot b o e n hb hx;exact⟨sl,(hs.2 b (Qy (Qv (Qk e) I.ok.above))).trans e1⟩
  ·obtain⟨o',e1⟩:=I.base.there b o e hx;exact⟨o',(hs.2 b (Qy (Qv (Qk e) I.ok.above))).trans e1⟩
  ·by_cases hj:j=i
   ·subst hj;rw[hi]at e1;cases e1;rw[List.getElem?_set_self hiσ]at e2;cases e2;exact⟨u,r,.inl ⟨hk,by simp⟩⟩
   rw[List.getElem?_set_ne (QT hj)]at e2;obtain⟨u',r',q⟩:=hl j y v' e1 e2 e3;refine⟨u',r',?_⟩;rcases q with⟨k,e⟩|⟨k,c,e,z⟩
   ·refine .inl ⟨k,?_⟩;have:y≠x:=λe=>hj (gf hN e1 (e▸hi));simp[this,e]
   exact .inr ⟨k,c,e,z.sameBut hs (cne y c e)⟩
  ·obtain⟨w',z⟩:=I.cell y c e;exact⟨w',z.sameBut hs (cne y c e)⟩
  obtain⟨e,n,ne,nf,d⟩:=I.pin p hp;exact⟨(hs.2 p.1 ne).trans e,n,ne,nf,d⟩
 have hfn:X.fn x=true:=by
  rcases hf with z|z
  ·exact z
  rw[z]at hk;cases hk
 obtain⟨c,hc⟩:=I.ok.has x (.inl hk);obtain⟨w',z⟩:=I.cell x c hc;refine wpAny_storeName_cell I.ok.kind hk hc z (λh' hc' hs=>?_);obtain⟨oc,hoc,hocd⟩:=id z;refine h { s with heap:=h' } ⟨I.ok,I.os,I.bare,⟨λb o e n hb hx=>?_,λb o e n hb hx=>?_,I.base.free,λb o e hx=>?_,I.base.tups,I.base.frzs,I.base.tbls⟩,⟨m,hn.sameBut hs (QT (cne x c hc)),λj y v' e1 e2 e3=>?_⟩,λy c' e=>?_,I.free,I.freeC,λp hp=>?_,tracked ⟨oc,hoc,I.freeC x c hc⟩ hs,by simpa using I.len⟩ ⟨c,hs,.inr hc⟩
 ·exact(hs.2 b (Qy (Qv (Qk e) (I.ok.cab x c hfn hc)))).trans (I.base.keep b o e n hb hx)
 ·obtain⟨sl,e1⟩:=I.base.slot b o e n hb hx;exact⟨sl,(hs.2 b (Qy (Qv (Qk e) (I.ok.cab x c hfn hc)))).trans e1⟩
 ·obtain⟨o',e1⟩:=I.base.there b o e hx;exact⟨o',(hs.2 b (Qy (Qv (Qk e) (I.ok.cab x c hfn hc)))).trans e1⟩
 ·by_cases hj:j=i
  ·subst hj;rw[hi]at e1;cases e1;rw[List.getElem?_set_self hiσ]at e2;cases e2;exact⟨u,r,.inr ⟨.inl hk,c,hc,hc'⟩⟩
  rw[List.getElem?_set_ne (QT hj)]at e2;obtain⟨u',r',q⟩:=hl j y v' e1 e2 e3;refine⟨u',r',?_⟩;rcases q with q|⟨k,c',e,z'⟩
  ·exact .inl q
  refine .inr ⟨k,c',e,z'.sameBut hs ?_⟩;rintro rfl;exact hj (gf hN e1 (I.ok.inj _ _ _ e hc▸hi))
 ·by_cases hcc:c'=c
  ·subst hcc;exact⟨_,hc'⟩
  obtain⟨w2,z2⟩:=I.cell y c' e;exact⟨w2,z2.sameBut hs hcc⟩
 obtain⟨e,n,ne,nf,d⟩:=I.pin p hp;refine⟨(hs.2 p.1 ?_).trans e,n,ne,nf,d⟩;intro q;rw[q,hoc]at e;have q':oc=p.2:=QO e;exact d w' (by rw[<-q'];exact hocd)
theorem fR {M:Model} {A:Around} {i:Nat} {x:Str} {v:V} {u:Value} (I:Inv X pins σ H s) (hN:X.N.Nodup) (hi:X.N[i]?=some x) (hx:Loc X.env.scope x) (r:aU v u)
  (h:∀s',Inv X pins (σ.set i (some v)) H s'->Q () s') (hf:X.fn x=true\/X.env.scope.names.lookup x=some .local:=by z_go):wpAny M A (storeName X.env x u) Q E s :=
 hX I hN hi hx r (λs' I' _=>h s' I') hf
theorem Inv.call' {s':Shared} {ch:A3} (I:Inv X pins σ H s) (ho:s'.os=s.os) (u:Un (frs X.stack) ch H H' s.heap s'.heap) (hok:HOk X.prog X.w H' s'.heap) (hg:AllBare s'.gens)
  (hch:∀b∈ch,(b∈X.ex\/X.s₀.heap.objs.size<=b)/\b≠X.env.locals/\(∀x c,X.env.cells.lookup x=some c->c≠b)/\∀p∈X.pn++pins,p.1≠b):Inv X pins σ H' s':=by
 obtain⟨h',g',d',t',o'⟩:=s';have e:o'=s.os:=ho;subst e;exact I.call (g':=g') (t':=t') (d':=d') u hok hg hch
end
abbrev XK:=Value->Option Addr->Hp->Prop
abbrev St:=List (Option V)
abbrev VK:=V->Hp->Prop
abbrev TE:=St->Hp->VK->Prop
abbrev TT:=St->Hp->(Bool->Hp->Prop)->Prop
abbrev TA:=St->Hp->(List V->Hp->Prop)->Prop
structure Ends where
 nx:St->Hp->Prop
 rt:VK
 bk:St->Hp->Prop:=λ_ _=>False
 ct:St->Hp->Prop:=λ_ _=>False
abbrev TS:=Ends->St->Hp->Prop
def EP (X:Cx) (pins:A1) (σ:St) (Q:VK) (u:Value) (s':Shared):Prop:=∃v H',Inv X pins σ H' s'/\aU v u/\Q v H'
def TP (X:Cx) (pins:A1) (σ:St) (Q:Bool->Hp->Prop) (b:Bool) (s':Shared):Prop:=∃H',Inv X pins σ H' s'/\Q b H'
def AP (X:Cx) (pins:A1) (σ:St) (Q:List V->Hp->Prop) (us:List Value) (s':Shared):Prop:=∃vs H',Inv X pins σ H' s'/\aM vs us/\Q vs H'
def SP (X:Cx) (pins:A1) (D:Ends) (f:Flow) (s':Shared):Prop :=
 match f with
 | .next=>∃σ' H',Inv X pins σ' H' s'/\D.nx σ' H'
 | .brk=>∃σ' H',Inv X pins σ' H' s'/\D.bk σ' H'
 | .cont=>∃σ' H',Inv X pins σ' H' s'/\D.ct σ' H'
 | .ret u=>∃v σ' H',Inv X pins σ' H' s'/\aU v u/\D.rt v H'
def PE (X:Cx) (e:Expr) (t:TE):Prop :=
 ∀(pins:A1) (s:Shared) (σ:St) (H:Hp) (Q:VK),Inv X pins σ H s->t σ H Q->wpAny (model X.prog X.w) X.A (eval e X.env) (EP X pins σ Q) X.xe s
def PT (X:Cx) (e:Expr) (t:TT):Prop :=
 ∀(pins:A1) (s:Shared) (σ:St) (H:Hp) (Q:Bool->Hp->Prop),Inv X pins σ H s->t σ H Q->wpAny (model X.prog X.w) X.A (isTrue e X.env (eval e X.env)) (TP X pins σ Q) X.xe s
def PW (X:Cx) (e:Expr) (t:TT):Prop :=
 ∀(whole:Sem Value) (pins:A1) (s:Shared) (σ:St) (H:Hp) (Q:Bool->Hp->Prop),Inv X pins σ H s->t σ H Q->wpAny (model X.prog X.w) X.A (isTrue e X.env whole) (TP X pins σ Q) X.xe s
variable {e tg:Expr} {X:Cx}
theorem PW.pt {t:TT} (h:PW X e t):PT X e t:=h _
def PA (X:Cx) (es:List Expr) (t:TA):Prop :=
 ∀(pos:Pos) (pins:A1) (s:Shared) (σ:St) (H:Hp) (Q:List V->Hp->Prop),Inv X pins σ H s->t σ H Q->wpAny (model X.prog X.w) X.A (spliced (backTo pos (starEach es X.env))) (AP X pins σ Q) X.xe s
def PS (X:Cx) (st:Stmt) (t:TS):Prop :=
 ∀(pins:A1) (s:Shared) (σ:St) (H:Hp) (D:Ends),Inv X pins σ H s->t D σ H->wpAny (model X.prog X.w) X.A (exec st X.env) (SP X pins D) X.xe s
def PSs (X:Cx) (st:List Stmt) (t:TS):Prop :=
 ∀(pins:A1) (s:Shared) (σ:St) (H:Hp) (D:Ends),Inv X pins σ H s->t D σ H->wpAny (model X.prog X.w) X.A (execs st X.env) (SP X pins D) X.xe s
variable {s s1:Shared} {E:A0} {A:Around}
theorem thn {α:Type} {t:Sem α} {Q Q':α->Shared->Prop} {M:Model} (h:wpAny M A t Q E s) (hQ:∀a s,Q a s->Q' a s):wpAny M A t Q' E s:=Q1 h hQ λ_ _ x=>x
section
variable {X:Cx}
def bA (i:Nat):TE:=λσ H Q=>∃v,σ[i]?=some (some v)/\Q v H
def tC (v:V):TE:=λ_ H Q=>Q v H
variable {x:Str}
theorem sw {i:Nat} {pos:Pos} (hN:X.N[i]?=some x) (hv:Vis X.env.scope x) (hd:(x==("__debug__" : Str))=false:=by decide) (hcd:(x==("__classdict__" : Str))=false:=by decide):PE X (.Name x pos) (bA i):=by
 intro pins s σ H Q I h;obtain⟨v,e,h⟩:=h;obtain⟨m,hn,hl⟩:=I.loc;obtain⟨u,r,l⟩:=hl i x v hN e hv;have fin:EP X pins σ Q u s:=⟨v,H,I,r,h⟩;rcases l with⟨hk,hm⟩|⟨hk,c,hc,hcell⟩
 ·exact wpAny_Name (wpAny_loadName_local I.ok.kind hk hn hm fin) hd
 rcases hk with hk|hk
 ·exact wpAny_Name (wpAny_loadName_cell I.ok.kind hk hc hcell fin) hd
 exact wpAny_Name (wpAny_loadName_free I.ok.kind hk hc hcell fin hcd) hd
theorem ac {i j pos}:PE X (.Constant (.int i) j pos) (tC (.int i)):=λ_ _ _ H _ I h=>wpAny_Constant_int ⟨.int i,H,I.tok _,⟨_,rfl⟩,h⟩
theorem cG {b j pos}:PE X (.Constant (.bool b) j pos) (tC (.bl b)):=λ_ _ _ H _ I h=>Constant_bool ⟨.bl b,H,I,rfl,h⟩
theorem dC {j pos}:PE X (.Constant .none j pos) (tC .non):=λ_ _ _ H _ I h=>Constant_none ⟨.non,H,I,rfl,h⟩
theorem az {x j pos}:PE X (.Constant (.str x) j pos) (tC (.str x)):=λ_ _ _ H _ I h=>Calls.Constant_str ⟨.str x,H,I.tok _,⟨_,rfl⟩,h⟩
def Gl (X:Cx) (x:Str):Prop:=X.env.kindOf x=some .globalImplicit
variable {Q E:A0} {u:Value} {pins:A1}
theorem c_ {s:Shared} {σ:St} {H:Hp} {pos:Pos} (I:Inv X pins σ H s) (hg:Gl X x) (hm:X.mg x=some u) (h:Q u s)
  (hd:(x==("__debug__" : Str))=false:=by decide):wpAny (model X.prog X.w) X.A (eval (.Name x pos) X.env) Q E s :=
 Calls.Name_function_global I.ok.kind hg (Calls.loadGlobal_global (by rw[I.ok.glob];exact I.mod.glob.keeps I.bk) hm h) hd
theorem cO {s:Shared} {σ:St} {H:Hp} {pos:Pos} (I:Inv X pins σ H s) (hg:Gl X x) (hm:X.mg x=none) (hv:bootBuiltins x=some u) (h:Q u s)
  (hn:x ≠ "__name__" := by decide) (hd:(x==("__debug__" : Str))=false:=by decide):wpAny (model X.prog X.w) X.A (eval (.Name x pos) X.env) Q E s:=by
 obtain⟨mb,h1,h2⟩:=I.mod.blt;exact Calls.Name_function_global I.ok.kind hg (Calls.loadGlobal_builtin (by rw[I.ok.glob];exact I.mod.glob.keeps I.bk) hm (by rw[I.ok.blt];exact h1.keeps I.bk) ((h2 x hn).trans hv) h) hd
theorem cq {v:V} {pos:Pos} (hg:Gl X x) (hm:X.mg x=some u) (r:aU v u) (hd:(x==("__debug__" : Str))=false:=by decide):PE X (.Name x pos) (tC v) :=
 λ_ _ _ H _ I h=>c_ I hg hm ⟨v,H,I,r,h⟩ hd
theorem c6 {v:V} {pos:Pos} (hg:Gl X x) (hm:X.mg x=none) (hv:bootBuiltins x=some u) (r:aU v u) (hn:x ≠ "__name__" := by decide) (hd:(x==("__debug__" : Str))=false:=by decide):PE X (.Name x pos) (tC v) :=
 λ_ _ _ H _ I h=>cO I hg hm hv ⟨v,H,I,r,h⟩ hn hd
variable {a b:Expr} {ta tb:TE} {pos:Pos}
def PC (X:Cx) (op:CmpOp) (a b:Expr) (t:TE):Prop :=
 ∀(pins:A1) (s:Shared) (σ:St) (H:Hp) (Q:VK),Inv X pins σ H s->t σ H Q ->
  wpAny (model X.prog X.w) X.A (eval a X.env) (λv s₁=>wpAny (model X.prog X.w) X.A (eval b X.env) (λu s₂=>wpAny (model X.prog X.w) X.A (compareOp op v u) (EP X pins σ Q) X.xe s₂) X.xe s₁) X.xe s
def tB (t:TE):TT:=λσ H Q=>t σ H λx H1=>∃c,x=.bl c/\Q c H1
theorem nY {op:CmpOp} {t:TE} (h:PC X op a b t) (h1:behindInMarks op b=false:=by first|exact nobehind _ (by decide) (by decide)|rfl):PT X (.Compare a [op] [b] pos) (tB t):=by
 intro pins s σ H Q I hw;refine wpAny_isTrue_Compare1 (thn (h pins s σ H _ I hw) λv s1 h1=>thn h1 λu s2 h2=>thn h2 λc s3 ⟨x,H1,I1,r1,q1⟩=>?_) h1;obtain⟨d,rfl,q⟩:=q1;cases r1;exact wpAny_truthy_bool ⟨H1,I1,q⟩
theorem cy {e:Expr} {t:TE} (h:PE X e t) (he:∀whole,isTrue e X.env whole=(do let v <-whole;standAt e.pos;holding [v] (truthy v)):=by intro _;rfl):PT X e (tB t):=by
 intro pins s σ H Q I hw;refine isTrue_plain (thn (h pins s σ H _ I hw) λv s1 ⟨x,H1,I1,r1,q1⟩=>?_) (he _);obtain⟨d,rfl,q⟩:=q1;cases r1;exact wpAny_truthy_bool ⟨H1,I1,q⟩
variable {tA tB':TT} {rest:List Expr}
def tM (t u:TT):TT:=λσ H Q=>t σ H λc H1=>if c=true then u σ H1 Q else Q false H1
def tOr (t u:TT):TT:=λσ H Q=>t σ H λc H1=>if c=true then Q true H1 else u σ H1 Q
def tI (t:TT):TT:=λσ H Q=>t σ H λc H1=>Q (!c) H1
theorem dM (ha:PT X a tA):PW X (.BoolOp .And [a] pos) tA:=by
 intro wh pins s σ H Q I h;refine isTrue_and (thn (ha pins s σ H Q I h) λc s1 e=>?_)
 cases c with
 | true=>exact isTrue_and_nil e
 | false=>exact e
theorem fi (ha:PT X a tA):PW X (.BoolOp .Or [a] pos) tA:=by
 intro wh pins s σ H Q I h;refine isTrue_or (thn (ha pins s σ H Q I h) λc s1 e=>?_)
 cases c with
 | false=>exact isTrue_or_nil e
 | true=>exact e
theorem d7 (ha:PT X a tA) (hb:PW X (.BoolOp .And (b::rest) pos) tB'):PW X (.BoolOp .And (a::b::rest) pos) (tM tA tB'):=by
 intro wh pins s σ H Q I h;refine isTrue_and (thn (ha pins s σ H _ I h) λc s1 ⟨H1,I1,q1⟩=>?_)
 cases c with
 | true=>exact hb wh pins s1 σ H1 Q I1 q1
 | false=>exact⟨H1,I1,q1⟩
theorem ia (ha:PT X a tA) (hb:PW X (.BoolOp .Or (b::rest) pos) tB'):PW X (.BoolOp .Or (a::b::rest) pos) (tOr tA tB'):=by
 intro wh pins s σ H Q I h;refine isTrue_or (thn (ha pins s σ H _ I h) λc s1 ⟨H1,I1,q1⟩=>?_)
 cases c with
 | true=>exact⟨H1,I1,q1⟩
 | false=>exact hb wh pins s1 σ H1 Q I1 q1
theorem d8 (ha:PT X a tA):PT X (.UnaryOp .Not a pos) (tI tA):=by
 intro pins s σ H Q I h;exact isTrue_not (ha pins s σ H (λc H1=>Q (!c) H1) I h)
def qZ (ta tb:TE):TE:=λσ H Q=>ta σ H λx H1=>∃c,x=.bl c/\if c=true then tb σ H1 Q else Q (.bl false) H1
def tH (ta tb:TE):TE:=λσ H Q=>ta σ H λx H1=>∃c,x=.bl c/\if c=true then Q (.bl true) H1 else tb σ H1 Q
def qV (ta:TE):TE:=λσ H Q=>ta σ H λx H1=>∃c,x=.bl c/\Q (.bl (!c)) H1
theorem f_ {op} {t:TE} (h:PE X a t):PE X (.BoolOp op [a] pos) t:=λpins s σ H Q I hw=>BoolOp_one (h pins s σ H Q I hw)
theorem ja (ha:PE X a ta) (hb:PE X (.BoolOp .And (b::rest) pos) tb):PE X (.BoolOp .And (a::b::rest) pos) (qZ ta tb):=by
 intro pins s σ H Q I h;refine BoolOp_and (thn (ha pins s σ H _ I h) λv s1 ⟨x,H1,I1,r1,q1⟩=>?_);obtain⟨c,rfl,q1⟩:=q1;cases r1;refine wpAny_truthy_bool ?_
 cases c with
 | true=>exact hb pins s1 σ H1 Q I1 q1
 | false=>exact⟨.bl false,H1,I1,rfl,q1⟩
theorem rh (ha:PE X a ta) (hb:PE X (.BoolOp .Or (b::rest) pos) tb):PE X (.BoolOp .Or (a::b::rest) pos) (tH ta tb):=by
 intro pins s σ H Q I h;refine BoolOp_or (thn (ha pins s σ H _ I h) λv s1 ⟨x,H1,I1,r1,q1⟩=>?_);obtain⟨c,rfl,q1⟩:=q1;cases r1;refine wpAny_truthy_bool ?_
 cases c with
 | false=>exact hb pins s1 σ H1 Q I1 q1
 | true=>exact⟨.bl true,H1,I1,rfl,q1⟩
theorem om (ha:PE X a ta):PE X (.UnaryOp .Not a pos) (qV ta):=by
 intro pins s σ H Q I h;refine UnaryOp_ (thn (ha pins s σ H _ I h) λv s1 ⟨x,H1,I1,r1,q1⟩=>?_);obtain⟨c,rfl,q1⟩:=q1;cases r1;exact not_of (wpAny_truthy_bool ⟨.bl (!c),H1,I1,rfl,q1⟩)
def tIf (t:TT) (ta tb:TE):TE:=λσ H Q=>t σ H λc H1=>if c=true then ta σ H1 Q else tb σ H1 Q
theorem on {c:Expr} (hc:PT X c tA) (ha:PE X a ta) (hb:PE X b tb):PE X (.IfExp c a b pos) (tIf tA ta tb):=by
 intro pins s σ H Q I h;refine wpAny_IfExp (thn (hc pins s σ H _ I h) λd s1 ⟨H1,I1,q1⟩=>?_)
 cases d with
 | true=>exact ha pins s1 σ H1 Q I1 q1
 | false=>exact hb pins s1 σ H1 Q I1 q1
end
def SqL (K:PySem.W.Frag) (H:Hp) (a:Addr) (xs:List V):Prop :=
 Rd H a (.lst xs) \/
  ∃(o:Obj) (its:Array Value) (n:Nat),K.lookup a=some o/\o.cls=.type "list" /\ o.dict=none/\o.data=.seq its n/\its.size<=sizeLine/\aM xs its.toList
def SqT (K:PySem.W.Frag) (H:Hp) (a:Addr) (xs:List V):Prop :=
 Rd H a (.tup xs) \/
  ∃(o:Obj) (its:Array Value) (n:Nat),K.lookup a=some o/\o.cls=.type "tuple" /\ o.data=.seq its n/\its.size<=sizeLine/\aM xs its.toList
noncomputable def vi:Value->Option V
 | .none=>some .non
 | .bool b=>some (.bl b)
 | .int i _=>some (.int i)
 | .str x _=>some (.str x)
 | .bytes b _=>some (.byt b)
 | .float b _=>some (.flt b)
 | .ref a=>some (.ref a)
 | .type n=>some (.ty n)
 | _=>none
theorem aU.abs {x:V} (r:aU x u):vi u=some x:=by
 cases x with
 | non=>cases r;rfl
 | bl _=>cases r;rfl
 | int _=>obtain⟨t,rfl⟩:=r;rfl
 | str _=>obtain⟨t,rfl⟩:=r;rfl
 | byt _=>obtain⟨t,rfl⟩:=r;rfl
 | flt _=>obtain⟨t,rfl⟩:=r;rfl
 | ref _=>cases r;rfl
 | ty _=>cases r;rfl
theorem aU.inj {x y:V} (r:aU x u) (q:aU y u):x=y:=QO (r.abs.symm.trans q.abs)
theorem aM.inj:∀{xs ys:List V} {us:List Value},aM xs us->aM ys us->xs=ys
 | _,_,_,.nil,.nil=>rfl
 | _,_,_,.cons r t,.cons r' t'=>by rw[r.inj r',aM.inj t t']
section
variable {X:Cx} {pins:A1} {σ:St} {H:Hp} {s:Shared} {a:Addr} {xs ys:List V}
theorem SqL.of {K:PySem.W.Frag} (h:H a=some (.lst xs)):SqL K H a xs:=.inl (.inl h)
theorem SqT.of {K:PySem.W.Frag} (h:H a=some (.tup xs)):SqT K H a xs:=.inl (.inl h)
theorem Inv.list (I:Inv X pins σ H s) (h:SqL X.K H a xs):∃its:List Value,aM xs its/\PlainL s.heap a its.toArray/\xs.length<=sizeLine:=by
 rcases h with h|⟨o,its,n,hk,hc,hd,hs,hz,r⟩
 ·obtain⟨z,its,n,r,e⟩:=h.ok I.hok;exact⟨its,r,⟨_,n,e,rfl,rfl,rfl⟩,z⟩
 refine⟨its.toList,r,⟨o,n,I.kIn a o hk,hc,hd,by simpa using hs⟩,?_⟩;have e:=r.length;simp only[Qz]at e;omega
theorem Inv.tuple (I:Inv X pins σ H s) (h:SqT X.K H a xs):∃its:List Value,aM xs its/\IsTup s.heap a its.toArray/\xs.length<=sizeLine:=by
 rcases h with h|⟨o,its,n,hk,hc,hs,hz,r⟩
 ·obtain⟨z,its,r,p⟩:=h.ok I.hok;exact⟨its,r,p,z⟩
 refine⟨its.toList,r,⟨o,I.kIn a o hk,hc,n,by simpa using hs⟩,?_⟩;have e:=r.length;simp only[Qz]at e;omega
theorem Inv.list_inj (I:Inv X pins σ H s) (h:SqL X.K H a xs) (h':SqL X.K H a ys):xs=ys:=by
 obtain⟨its,r,⟨o,n,e,_,_,d⟩,_⟩:=I.list h;obtain⟨its',r',⟨o',n',e',_,_,d'⟩,_⟩:=I.list h';rw[e]at e';cases e';rw[d]at d';injection d' with d1 _;have:its=its':=by simpa using congrArg Array.toList d1
 subst this;exact r.inj r'
end
abbrev Cx.wish (X:Cx) (E:A0):Cx:={ X with xe:=E }
abbrev Cx.nox (X:Cx):Cx:=X.wish λ_ _=>False
theorem Cx.Ok.wish (ok:X.Ok) (E:A0):(X.wish E).Ok :=
 ⟨ok.mod,ok.kind,ok.glob,ok.blt,ok.above,ok.inj,ok.has,ok.cab,ok.hd,ok.frames,ok.stk,ok.exf,ok.bs,ok.bsz,ok.noex,ok.exfs,ok.funs,ok.frf⟩
theorem Cx.Ok.unwish (ok:(X.wish E).Ok):X.Ok :=
 ⟨ok.mod,ok.kind,ok.glob,ok.blt,ok.above,ok.inj,ok.has,ok.cab,ok.hd,ok.frames,ok.stk,ok.exf,ok.bs,ok.bsz,ok.noex,ok.exfs,ok.funs,ok.frf⟩
section
variable {X:Cx} {pins:A1} {σ:St} {H:Hp} {s:Shared} {E:A0}
theorem Inv.wish (I:Inv X pins σ H s) (E:A0):Inv (X.wish E) pins σ H s:=⟨I.ok.wish E,I.os,I.bare,I.base,I.loc,I.cell,I.free,I.freeC,I.pin,I.hok,I.len⟩
theorem Inv.unwish (I:Inv (X.wish E) pins σ H s):Inv X pins σ H s:=⟨I.ok.unwish,I.os,I.bare,I.base,I.loc,I.cell,I.free,I.freeC,I.pin,I.hok,I.len⟩
theorem SP.unwish {D:Ends} {f:Flow} {s':Shared} (h:SP (X.wish E) pins D f s'):SP X pins D f s':=by
 cases f with
 | next=>obtain⟨σ',H',I,q⟩:=h;exact⟨σ',H',I.unwish,q⟩
 | brk=>obtain⟨σ',H',I,q⟩:=h;exact⟨σ',H',I.unwish,q⟩
 | cont=>obtain⟨σ',H',I,q⟩:=h;exact⟨σ',H',I.unwish,q⟩
 | ret u=>obtain⟨v,σ',H',I,r,q⟩:=h;exact⟨v,σ',H',I.unwish,r,q⟩
theorem PSs.nox {st:List Stmt} {t:TS} (h:PSs X.nox st t):PSs X st t:=λpins s σ H D I hw =>
 Q1 (h pins s σ H D (I.wish _) hw) (λ_ _ q=>q.unwish) λ_ _ z=>False.elim z
end
section
variable {X:Cx} {st:Stmt} {rest:List Stmt} {t u:TS} {e:Expr} {te:TE} {pos:Pos}
def qW:TS:=λD σ H=>D.nx σ H
def pJ (t u:TS):TS:=λD σ H=>t { D with nx:=u D } σ H
theorem pss_nil:PSs X [] qW:=λ_ _ σ H _ I h=>wpAny_execs_nil ⟨σ,H,I,h⟩
theorem ay (h1:PS X st t) (h2:PSs X rest u):PSs X (st::rest) (pJ t u):=by
 intro pins s σ H D I h;refine wpAny_execs_cons (thn (h1 pins s σ H { D with nx:=u D } I h) λf s1 q=>?_)
 cases f with
 | next =>
  obtain⟨σ',H',I',q⟩:=q;exact h2 pins s1 σ' H' D I' q
 | ret v=>exact q
 | brk=>exact q
 | cont=>exact q
theorem aG (h1:PS X st t):PSs X [st] t:=by
 intro pins s σ H D I h;refine wpAny_execs_cons (thn (h1 pins s σ H D I h) λf s1 q=>?_)
 cases f with
 | next=>exact wpAny_execs_nil q
 | ret v=>exact q
 | brk=>exact q
 | cont=>exact q
theorem Inv.quiet {pins:A1} {σ:St} {H:Hp} {s:Shared} (I:Inv X pins σ H s):interactive X.env=false:=by simp[interactive,I.ok.kind]
def qX (te:TE):TS:=λD σ H=>te σ H λ_ H1=>D.nx σ H1
theorem bi (he:PE X e te) (hs:swapsWith e none pos.line X.env=pure false:=by rfl):PS X (.Expr e pos) (qX te):=by
 intro pins s σ H D I h;exact wpAny_Expr_any (thn (he pins s σ H _ I h) λv s1 ⟨x,H1,I1,r1,q1⟩=>⟨σ,H1,I1,q1⟩) I.quiet hs
def tG (te:TE):TS:=λD σ H=>te σ H D.rt
theorem aF (he:PE X e te):PS X (.Return (some e) pos) (tG te):=by
 intro pins s σ H D I h;exact wpAny_Return_some (thn (he pins s σ H _ I h) λv s1 ⟨x,H1,I1,r1,q1⟩=>⟨x,σ,H1,I1,r1,q1⟩)
def tK (c:TT) (t u:TS):TS:=λD σ H=>c σ H λb H1=>if b=true then t D σ H1 else u D σ H1
theorem ps_if {c:Expr} {a b:List Stmt} {tc:TT} (hc:PT X c tc) (ha:PSs X a t) (hb:PSs X b u):PS X (.If c a b pos) (tK tc t u):=by
 intro pins s σ H D I h;refine wpAny_If (thn (hc pins s σ H _ I h) λd s1 ⟨H1,I1,q1⟩=>?_)
 cases d with
 | true=>exact ha pins s1 σ H1 D I1 q1
 | false=>exact hb pins s1 σ H1 D I1 q1
def r9:TS:=λ_ _ _=>False
theorem cT {sts:List Stmt}:PSs X sts r9:=λ_ _ _ _ _ _ h=>h.elim
end
abbrev TG:=V->St->Hp->(St->Hp->Prop)->Prop
abbrev TGs:=List V->St->Hp->(St->Hp->Prop)->Prop
def PG (X:Cx) (target:Expr) (t:TG):Prop :=
 ∀(pins:A1) (s:Shared) (σ:St) (H:Hp) (v:V) (u:Value) (Q:St->Hp->Prop),Inv X pins σ H s->aU v u->t v σ H Q ->
  wpAny (model X.prog X.w) X.A (assign target X.env u) (λ_ s'=>∃σ' H',Inv X pins σ' H' s'/\Q σ' H') X.xe s
def PGs (X:Cx) (ts:List Expr) (t:TGs):Prop :=
 ∀(pins:A1) (s:Shared) (σ:St) (H:Hp) (vs:List V) (us:List Value) (Q:St->Hp->Prop),Inv X pins σ H s->aM vs us->t vs σ H Q ->
  wpAny (model X.prog X.w) X.A (assignInOrder ((assignEach ts X.env).map (·.2)) us) (λ_ s'=>∃σ' H',Inv X pins σ' H' s'/\Q σ' H') X.xe s
abbrev qN:=V->V->V->Hp->(Hp->Prop)->Prop
def uV (X:Cx) (t:qN):Prop :=
 ∀(pins:A1) (s:Shared) (σ:St) (H:Hp) (o i v:V) (ov iv u:Value) (Q:Hp->Prop),Inv X pins σ H s->aU o ov->aU i iv->aU v u->t o i v H Q ->
  wpAny (model X.prog X.w) X.A (setItem ov iv u) (λ_ s'=>∃H',Inv X pins σ H' s'/\Q H') X.xe s
section
variable {X:Cx} {pos:Pos}
def cK (i:Nat):TG:=λv σ H Q=>Q (σ.set i (some v)) H
variable {x:Str}
theorem bW {i:Nat} (hN:X.N.Nodup) (hi:X.N[i]?=some x) (hx:Loc X.env.scope x) (hf:X.fn x=true\/X.env.scope.names.lookup x=some .local:=by z_go):PG X (.Name x pos) (cK i):=by
 intro pins s σ H v u Q I r h;exact wpAny_assign_Name (fR I hN hi hx r (λs' I'=>⟨_,H,I',h⟩) hf)
theorem bC (i:Nat) (hN:X.N.Nodup) (hi:X.N[i]?=some x:=by rfl) (hx:Loc X.env.scope x:=by z_go) (hf:X.fn x=true\/X.env.scope.names.lookup x=some .local:=by z_go):PG X (.Name x pos) (cK i):=bW hN hi hx hf
def uL:TGs:=λvs σ H Q=>vs=[]/\Q σ H
def oV (t:TG) (u:TGs):TGs:=λvs σ H Q=>∃v r,vs=v::r/\t v σ H λσ' H'=>u r σ' H' Q
theorem bV:PGs X [] uL:=by
 intro pins s σ H vs us Q I r h;obtain⟨e,h⟩:=h;subst e;cases r;exact assignInOrder_nil ⟨σ,H,I,h⟩
variable {e o i tg:Expr}
theorem aP {es:List Expr} {t:TG} {u:TGs} (h1:PG X e t) (h2:PGs X es u)
  (hs:(assignEach (e::es) X.env).map (·.2)=assign e X.env::(assignEach es X.env).map (·.2):=by rfl):PGs X (e::es) (oV t u):=by
 intro pins s σ H vs us Q I r h;obtain⟨v,vr,e1,h⟩:=h;subst e1
 cases r with
 | cons r rr =>
 rw[hs];refine assignInOrder_cons (thn (h1 pins s σ H _ _ _ I r h) λ_ s1 ⟨σ1,H1,I1,q1⟩=>?_);exact h2 pins s1 σ1 H1 _ _ Q I1 rr q1
def sX (K:PySem.W.Frag) (n:Nat) (t:TGs):TG:=λv σ H Q=>∃a xs,v=.ref a/\SqT K H a xs/\xs.length=n/\t xs σ H Q
theorem cZ {es:List Expr} {k:Nat} {t:TGs} {n:Nat} (hc:X.calm=true) (h:PGs X es t)
  (hn:(assignEach es X.env).length=n:=by rfl) (hst:(assignEach es X.env).findIdx? (·.1)=none:=by rfl):PG X (.Tuple es k pos) (sX X.K n t):=by
 intro pins s σ H v u Q I r hw;obtain⟨a,xs,e1,hq,hl,hw⟩:=hw;subst e1;cases r;obtain⟨its,rv,ht,hz⟩:=I.tuple hq;refine assign_Tuple_tuple (I.ok.hd hc) ht (by simp[hn,<-hl,rv.length]) hst λh' hx=>?_;have I1:Inv X pins σ H { s with heap:=h' }:=I.kept (t':=s.toks) λb o e=>hx b o (Qy (Qk e)) e;exact h pins _ σ H xs _ Q I1 (by simpa using rv) hw
def uK (to ti:TE) (t:qN):TG:=λv σ H Q=>to σ H λo H1=>ti σ H1 λi H2=>t o i v H2 λH3=>Q σ H3
variable {to ti te:TE}
theorem oj {t:qN} (ho:PE X o to) (hi:PE X i ti) (hs:uV X t)
  (ha:∀v,assign (.Subscript o i pos) X.env v=(do
   let ov <-holding [v] (eval o X.env);let iv <-holding [v,ov] (eval i X.env)
   standAt pos
   holding [v,ov,iv] (setItem ov iv v)
   release [v,ov,iv] []):=by intro _;rfl):PG X (.Subscript o i pos) (uK to ti t):=by
 intro pins s σ H v u Q I r h;rw[ha];refine Qa (QN (thn (ho pins s σ H _ I h) λov s1 ⟨x,H1,I1,r1,q1⟩=>?_));refine Qa (QN (thn (hi pins s1 σ H1 _ I1 q1) λiv s2 ⟨y,H2,I2,r2,q2⟩=>?_));refine Qa (wpAny_standAt (Qa (QN (thn (hs pins s2 σ H2 x y v ov iv u _ I2 r1 r2 r q2) λ_ s3 ⟨H3,I3,q3⟩=>?_))));exact wpAny_release ⟨σ,H3,I3,q3⟩
def ms (te:TE) (g:TG):TS:=λD σ H=>te σ H λx H1=>g x σ H1 D.nx
theorem f8 {g:TG} (he:PE X e te) (hg:PG X tg g) (hs:swapsWithSole [tg] e pos.line X.env=pure false:=by rfl) (hw:swappedStores [tg] e X.env=pure none:=by rfl)
  (h1:(assignEach [tg] X.env).map (·.2)=[assign tg X.env]:=by rfl):PS X (.Assign [tg] e pos) (ms te g):=by
 intro pins s σ H D I h;refine wpAny_Assign_stores (thn (he pins s σ H _ I h) λv s1 ⟨x,H1,I1,r1,q1⟩=>?_) hs hw;rw[h1];exact thn (hg pins s1 σ H1 x v _ I1 r1 q1) λ_ s2 q=>q
theorem i6 {i:Nat} {pos':Pos} (hN:X.N.Nodup) (hi:X.N[i]?=some x) (hx:Loc X.env.scope x) (he:PE X e te) (hs:swapsWith e (some (.Name x pos')) pos.line X.env=pure false:=by rfl) (hf:X.fn x=true\/X.env.scope.names.lookup x=some .local:=by z_go) :
  PS X (.Assign [.Name x pos'] e pos) (ms te (cK i)):=by
 intro pins s σ H D I h;refine wpAny_Assign_Name (thn (he pins s σ H _ I h) λv s1 ⟨y,H1,I1,r1,q1⟩=>?_) hs;exact fR I1 hN hi hx r1 (λs2 I2=>⟨_,H1,I2,q1⟩) hf
theorem ar {pos':Pos} (i:Nat) (hN:X.N.Nodup) (he:PE X e te) (hi:X.N[i]?=some x:=by rfl) (hx:Loc X.env.scope x:=by z_go) (hs:swapsWith e (some (.Name x pos')) pos.line X.env=pure false:=by rfl) (hf:X.fn x=true\/X.env.scope.names.lookup x=some .local:=by z_go):PS X (.Assign [.Name x pos'] e pos) (ms te (cK i)):=i6 hN hi hx he hs hf
end
section
variable {X:Cx} {pos:Pos}
def rZ (c:TT) (tb:TS):TS:=λD σ H=>∃W:Nat->St->Hp->Prop,(∃m,W m σ H)/\∀m σ H,W m σ H ->
 c σ H λb H1=>if b=true then ∃N:St->Hp->Prop,(∀σ' H',N σ' H'->∃m',m'<m/\W m' σ' H')/\tb { D with nx:=N,ct:=N,bk:=D.nx } σ H1 else D.nx σ H1
theorem jM {c:Expr} {body:List Stmt} {tc:TT} {tb:TS} (hp:PassesOwn (model X.prog X.w) X.A X.env X.xe) (hc:PT X c tc) (hb:PSs X body tb):PS X (.While c body [] pos) (rZ tc tb):=by
 intro pins s σ H D I h;obtain⟨W,⟨m0,w0⟩,turn⟩:=h;refine wpAny_While (codeAny_whileLoop (λn s'=>∃σ' H',Inv X pins σ' H' s'/\W n σ' H') ?_ m0 ⟨σ,H,I,w0⟩);rintro n s1 ⟨σ1,H1,I1,w1⟩;refine wpAny_passesOwn hp (thn (hc pins s1 σ1 H1 _ I1 (turn n σ1 H1 w1)) λb s2 ⟨H2,I2,q2⟩=>?_)
 cases b with
 | true =>
  obtain⟨N,hN,q2⟩:=q2;rw[QH rfl];refine wpAny_passesOwn hp (thn (hb pins s2 σ1 H2 _ I2 q2) λf s3 q3=>?_)
  cases f with
  | next =>
   obtain⟨σ3,H3,I3,n3⟩:=q3;obtain⟨m',hm,w3⟩:=hN σ3 H3 n3;exact⟨m',hm,σ3,H3,I3,w3⟩
  | cont =>
   obtain⟨σ3,H3,I3,n3⟩:=q3;obtain⟨m',hm,w3⟩:=hN σ3 H3 n3;exact⟨m',hm,σ3,H3,I3,w3⟩
  | brk=>exact q3
  | ret v=>exact q3
 | false =>
 rw[QB Qm];exact wpAny_execs_nil ⟨σ1,H2,I2,q2⟩
end
structure It where
 go:Nat->Hp->Prop
 yld:Nat->Hp->V->Hp->Prop
 stop:Nat->Hp->Prop
def eB (X:Cx) (pins:A1) (H:Hp) (b:Addr):Prop :=
 H b=none/\b≠X.env.locals/\b∉X.fs/\(b∈X.ex\/X.s₀.heap.objs.size<=b)/\(∀x c,X.env.cells.lookup x=some c->c≠b)/\∀p∈X.pn++pins,p.1≠b
theorem Inv.fpOk {pins:A1} {σ:St} (I:Inv X pins σ H s) (hb:s.heap.objs.size<=b) (hn:H' b=none):eB X pins H' b:=by
 refine⟨hn,Nat.ne_of_gt (Qv I.lt hb),I.nofs hb,.inr (QQ I.sz hb),λx c e z=>?_,λp hp z=>?_⟩
 ·obtain⟨v,q⟩:=I.cell x c e;exact absurd (Qv q.lt (by rw[z];exact hb)) (Nat.lt_irrefl _)
 exact absurd (Qv (Qk (I.pin p hp).1) (by rw[z];exact hb)) (Nat.lt_irrefl _)
structure Turn (P:Program) (w:World) (K:PySem.W.Frag) (tg:Expr) (J:It) (fp:A3) (it:Addr) (tn:Nat->Heap->Prop):Prop where
 mem:it∈fp
 obj:∀i h,tn i h->∀b∈fp,∃o,h.get? b=some o/\∀v,o.data≠.cell v
 keep:∀i h h',tn i h->(∀b∈fp,∀o,h.get? b=some o->h'.get? b=some o)->tn i h'
 item:∀(X:Cx),X.prog=P->X.w=w->X.K=K->X.calm=true->∀(i:Nat) (pins:A1) (s:Shared) (σ:St) (H:Hp) (E:A0),Inv X pins σ H s->(∀b∈fp,eB X pins H b)->tn i s.heap->J.go i H ->
  wpAny (model P w) X.A (pyNext (.ref it)) (λr s1=>∃u,r=some u /\
   wpAny (model P w) X.A (letOwnedTupleGo tg (.ref it) u) (λ_ s2=>∃x H',Inv X pins σ H' s2/\aU x u/\J.yld i H x H'/\tn (i+1) s2.heap/\∀b∈fp,H' b=none) E s1) E s
 done:∀(X:Cx),X.prog=P->X.w=w->X.K=K->X.calm=true->∀(i:Nat) (pins:A1) (s:Shared) (σ:St) (H:Hp) (E:A0),Inv X pins σ H s->(∀b∈fp,eB X pins H b)->tn i s.heap->J.stop i H ->
  wpAny (model P w) X.A (pyNext (.ref it)) (λr s1=>r=none/\Inv X pins σ H s1) E s
 self:∀(A:Around) (i:Nat) (s:Shared) (Q:A0) (E:A0),tn i s.heap->Q (.ref it) s->wpAny (model P w) A (pyIter (.ref it)) Q E s
abbrev TI:=St->Hp->(It->Hp->Prop)->Prop
def PIE (X:Cx) (pins:A1) (σ:St) (tg:Expr) (R:It->Hp->Prop) (itv:Value) (s2:Shared):Prop :=
 ∃(it:Addr) (fp:A3) (tn:Nat->Heap->Prop) (J:It) (H':Hp),itv=.ref it/\Inv X pins σ H' s2/\Turn X.prog X.w X.K tg J fp it tn/\tn 0 s2.heap/\(∀b∈fp,eB X pins H' b)/\R J H'
def PI (X:Cx) (tg iter:Expr) (wi:TI):Prop :=
 ∀(pins:A1) (s:Shared) (σ:St) (H:Hp) (R:It->Hp->Prop),Inv X pins σ H s->wi σ H R ->
  wpAny (model X.prog X.w) X.A (eval iter X.env) (λv s1=>wpAny (model X.prog X.w) X.A (pyIter v) (PIE X pins σ tg R) X.xe s1) X.xe s
theorem rH {M:Model} {s:Shared} {o:Obj} {n:String} {vs:Array Value} {Q:Unit->Shared->Prop} (ho:s.heap.get? it=some o) (hc:o.cls=.type n) (hd:o.data=.fields vs)
  (hn:["enumerate", "zip", "dict_itemiterator", "dict_reverseitemiterator", "odict_iterator", "itertools.zip_longest", "itertools.pairwise"].contains n=false) (hQ:Q () s):wpAny M A (letOwnedTupleGo tg (.ref it) u) Q E s:=by
 unfold letOwnedTupleGo
 cases tg <;> first
  | exact Qg hQ
  | (cases u <;> first
    | exact Qg hQ
    |(refine Qa (wpAny_load ho ?_)
      rw[hc,hd];show wpAny M A (if (["enumerate", "zip", "dict_itemiterator", "dict_reverseitemiterator", "odict_iterator", "itertools.zip_longest", "itertools.pairwise"].contains n&&vs[0]?==some (rawInt _))=true then _ else _) Q E s;rw[QB (by intro h;rw[hn,Bool.false_and]at h;cases h)]
      exact Qg hQ))
def Itl (K:PySem.W.Frag) (a:Addr):It :=
 ⟨λi H=>∃xs x,SqL K H a xs/\xs[i]?=some x,λi H x H'=>H'=H/\∀xs,SqL K H a xs->xs[i]?=some x,λi H=>∃xs,SqL K H a xs/\xs.length<=i⟩
def Itr (lo:Int) (n:Nat):It:=⟨λi _=>i<n,λi H x H'=>H'=H/\x=.int (lo+i),λi _=>n<=i⟩
theorem mo {P:Program} {w:World} {K:PySem.W.Frag} (a it:Addr):Turn P w K tg (Itl K a) [it] it (λi h=>h.IsListIter it a i) where
 mem:=by simp
 obj:=λi h st b hb=>by
  have e:b=it:=by simpa using hb
  subst e;obtain⟨o,e,c,d⟩:=st;exact⟨o,e,λv z=>by rw[d]at z;cases z⟩
 keep:=λi h h' st k=>st.at λo e=>k it (by simp) o e
 item:=by
  intro X hP hw hK hc i pins s σ H E I hf st hg;subst hP hw hK;obtain⟨xs,x,hq,hx⟩:=hg;obtain⟨its,rv,p,hz⟩:=I.list hq;obtain⟨u,hu,ru⟩:=rv.get hx;obtain⟨f0,f1,f2,f3,f4,f5⟩:=hf it (by simp);refine wpAny_pyNext_list_item st p.isList (x:=u) (by simpa using hu) λh' st' sb=>?_;have I1:Inv X pins σ H { s with heap:=h' }:=I.turned (t':=s.toks) (λb o hb e=>(sb.2 b hb).trans e) f0 f1 f3 f4 f5;obtain⟨o,e,c,d⟩:=id st';exact⟨u,rfl,rH (s:={ s with heap:=h' }) e c d (by decide) ⟨x,H,I1,ru,⟨rfl,λys hy=>by rw[I.list_inj hy hq];exact hx⟩,st',λb hb=>(hf b hb).1⟩⟩
 done:=by
  intro X hP hw hK hc i pins s σ H E I hf st hg;subst hP hw hK;obtain⟨xs,hq,hx⟩:=hg;obtain⟨its,rv,p,hz⟩:=I.list hq;obtain⟨f0,f1,f2,f3,f4,f5⟩:=hf it (by simp);have hl:=rv.length;exact wpAny_pyNext_list_end (I.ok.hd hc) st p.isList (by simp;omega) λh' eb=>⟨rfl,I.turned (t':=s.toks) (λb o hb e=>eb b o hb e) f0 f1 f3 f4 f5⟩
 self:=λ_ _ _ _ _ st h=>wpAny_pyIter_listiter st h
theorem kf {P:Program} {w:World} {K:PySem.W.Frag} (it:Addr) (lo:Int) (n:Nat):Turn P w K tg (Itr lo n) [it] it (λi h=>IsRangeIter h it (lo+(i:Nat)*1) ((n:Int)-(i:Nat)) 1) where
 mem:=by simp
 obj:=λi h st b hb=>by
  have e:b=it:=by simpa using hb
  subst e
  exact⟨_,st,λv z=>by
   have z':Data.fields _=Data.cell v:=z
   cases z'⟩
 keep:=λi h h' st k=>k it (by simp) _ st
 item:=by
  intro X hP hw hK hc i pins s σ H E I hf st hg;subst hP hw hK;obtain⟨f0,f1,f2,f3,f4,f5⟩:=hf it (by simp);have W:=Walks.range (prog:=X.prog) (w:=X.w) (I.ok.hd hc) it lo 1 n;refine W.item i s _ _ hg st λv h' tk hv st' kk=>?_;obtain⟨t,rfl⟩:=hv;have I1:Inv X pins σ H { s with heap:=h',toks:=tk }:=I.turned (λb o hb e=>kk b o (by simpa using hb) e) f0 f1 f3 f4 f5;refine⟨_,rfl,rH (s:={ s with heap:=h',toks:=tk }) (n := "range_iterator") st' rfl rfl (by decide) ⟨.int (lo+i),H,I1,⟨t,?_⟩,⟨rfl,rfl⟩,st',λb hb=>(hf b hb).1⟩⟩;rw[Int.mul_one]
 done:=by
  intro X hP hw hK hc i pins s σ H E I hf st hg;subst hP hw hK;obtain⟨f0,f1,f2,f3,f4,f5⟩:=hf it (by simp);exact wpAny_pyNext_range_end (I.ok.hd hc) st (by have:n<=i:=hg;omega) λh' eb=>⟨rfl,I.turned (t':=s.toks) (λb o hb e=>eb b o hb e) f0 f1 f3 f4 f5⟩
 self:=λ_ _ _ _ _ st h=>wpAny_pyIter_rangeiter st h
section
variable {X:Cx} {tg:Expr}
def jX (K:PySem.W.Frag) (tl:TE):TI:=λσ H R=>tl σ H λx H1=>∃a,x=.ref a/\(∃xs,SqL K H1 a xs)/\R (Itl K a) H1
variable {l a iter:Expr}
theorem cY {tl:TE} (hl:PE X l tl):PI X tg l (jX X.K tl):=by
 intro pins s σ H R I h;refine thn (hl pins s σ H _ I h) λv s1 ⟨x,H1,I1,r1,q1⟩=>?_;obtain⟨a,e,⟨xs,hq⟩,q⟩:=q1;subst e;cases r1;obtain⟨its,rv,p,hz⟩:=I1.list hq;refine wpAny_pyIter_list p.isList ?_;refine⟨s1.heap.objs.size,[s1.heap.objs.size],_,_,H1,rfl,I1.kept (t':=s1.toks) λb o e=>Qc _ e,mo a _,⟨_,Qn _ rfl,rfl,rfl⟩,λb hb=>?_,q⟩;have e:b=s1.heap.objs.size:=by simpa using hb
 subst e;exact I1.fpOk (Qh _) (I1.hok.fresh (Qh _))
variable {s:Shared} {pins pl:A1}
theorem jK {σ:St} {H:Hp} {R:It->Hp->Prop} {E:A0} {lo hi:Int} {t u v:Tok} {tk:Nat} (I:Inv X pins σ H s) (h1:-(2 ^ 62)<=lo) (h2:lo<2 ^ 62) (h3:-(2 ^ 62)<=hi) (h4:hi<2 ^ 62)
  (q:R (Itr lo (hi-lo).toNat) H):wpAny (model X.prog X.w) X.A (pyIter (.ref s.heap.objs.size)) (PIE X pins σ tg R) E { s with heap:=s.heap.push { cls:=.type "range", data:=.fields #[.int lo t,.int hi u,.int 1 v] },toks:=tk }:=by
 refine wpAny_pyIter_range (IsRange.new ..) (small_one h1 h2 h3 h4) ?_;have I1:Inv X pins σ H { s with heap:=s.heap.push { cls:=.type "range", data:=.fields #[.int lo t,.int hi u,.int 1 v] },toks:=tk }:=I.kept λb o e=>Qc _ e
 refine⟨(s.heap.push { cls:=.type "range", data:=.fields #[.int lo t,.int hi u,.int 1 v] }).objs.size,[(s.heap.push { cls:=.type "range", data:=.fields #[.int lo t,.int hi u,.int 1 v] }).objs.size],_,_,H,rfl,
  I1.kept (t':=tk) λb o e=>Qc _ e,kf _ lo (hi-lo).toNat,?_,λb hb=>?_,q⟩
 ·have e1:lo+((0:Nat):Int)*1=lo:=by simp
  have e2:(((hi-lo).toNat:Nat):Int)-((0:Nat):Int)=Builtin.Range.rangeSize lo hi 1:=by rw[rangeSize_one];split <;> omega
  show IsRangeIter _ _ (lo+((0:Nat):Int)*1) ((((hi-lo).toNat:Nat):Int)-((0:Nat):Int)) 1;rw[e1,e2];exact Qn _ rfl
 have e:b=(s.heap.push { cls:=.type "range", data:=.fields #[.int lo t,.int hi u,.int 1 v] }).objs.size:=by simpa using hb
 subst e;exact I1.fpOk (Qh _) (I1.hok.fresh (Qh _))
def rG (ta:TA):TI:=λσ H R=>ta σ H λvs H1=>∃j:Int,vs=[.int j]/\-(2 ^ 62)<=j/\j<2 ^ 62/\R (Itr 0 j.toNat) H1
def uI (ta:TA):TI:=λσ H R=>ta σ H λvs H1=>∃i j:Int,vs=[.int i,.int j]/\(-(2 ^ 62)<=i/\i<2 ^ 62/\-(2 ^ 62)<=j/\j<2 ^ 62)/\R (Itr i (j-i).toNat) H1
theorem bn {ta:TA} {p pos:Pos} (hg:Gl X "range") (hm:X.mg "range" = none) (ha:PA X [a] ta) (hs:starEach [a] X.env=[(false,eval a X.env)]:=by rfl):PI X tg (.Call (.Name "range" p) [a] [] pos) (rG ta):=by
 intro pins s σ H R I h;refine Call_ (cO I hg hm boot_range (Q3 (thn (ha pos pins s σ H _ I h) λus s1 ⟨vs,H1,I1,r1,q1⟩=>?_) hs rfl));obtain⟨j,e,q1,q2,q⟩:=q1;subst e
 cases r1 with
 | cons r rr =>
 cases rr;obtain⟨t,rfl⟩:=r;exact call_range_1 (jK I1 (by omega) (by omega) q1 q2 (by simpa using q))
theorem my {b:Expr} {ta:TA} {p pos:Pos} (hg:Gl X "range") (hm:X.mg "range" = none) (ha:PA X [a,b] ta) (hs:starEach [a,b] X.env=[(false,eval a X.env),(false,eval b X.env)]:=by rfl) (hs2:starEach [b] X.env=[(false,eval b X.env)]:=by rfl) :
  PI X tg (.Call (.Name "range" p) [a,b] [] pos) (uI ta):=by
 intro pins s σ H R I h;refine Call_ (cO I hg hm boot_range (Q3 (thn (ha pos pins s σ H _ I h) λus s1 ⟨vs,H1,I1,r1,q1⟩=>?_) (by rw[hs,hs2]) (by rw[hs2];rfl)));obtain⟨i,j,e,⟨q1,q2,q3,q4⟩,q⟩:=q1;subst e
 cases r1 with
 | cons r rr =>
 cases rr with
 | cons r' rr =>
 cases rr;obtain⟨t,rfl⟩:=r;obtain⟨t',rfl⟩:=r';exact call_range_2 (jK I1 q1 q2 q3 q4 q)
def r_ (wi:TI) (g:TG) (tb:TS):TS:=λD σ H=>wi σ H λJ H1=>∃W:Nat->Nat->St->Hp->Prop,(∃m,W 0 m σ H1)/\∀i m σ H,W i m σ H ->
 (J.stop i H/\D.nx σ H)\/(J.go i H/\∃N:St->Hp->Prop,(∀σ' H',N σ' H'->∃m',m'<m/\W (i+1) m' σ' H')/\∀x H',J.yld i H x H'->g x σ H' λσ2 H2=>tb { D with nx:=N,ct:=N,bk:=D.nx } σ2 H2)
def fj (fp:A3) (h:Heap):A1:=fp.filterMap λb=>(h.get? b).map λo=>(b,o)
variable {fp:A3}
theorem cb {h:Heap} {b:Addr} {o:Obj} (hb:b∈fp) (e:h.get? b=some o):(b,o)∈fj fp h:=List.mem_filterMap.mpr ⟨b,hb,by rw[e];rfl⟩
theorem mN {h:Heap} {p:Addr × Obj} (hp:p∈fj fp h):p.1∈fp/\h.get? p.1=some p.2:=by
 obtain⟨b,hb,e⟩:=List.mem_filterMap.mp hp
 cases q:h.get? b with
 | none=>rw[q]at e;cases e
 | some o =>
 rw[q]at e;have e':(b,o)=p:=QO e;subst e';exact⟨hb,q⟩
theorem Inv.pinned {σ:St} {H:Hp} (I:Inv X pins σ H s) (hf:∀b∈fp,eB X pins H b) (ho:∀b∈fp,∃o,s.heap.get? b=some o/\∀v,o.data≠.cell v):Inv X (pins++fj fp s.heap) σ H s :=
 I.pins_of λp hp=>(QR.mp hp).elim (λz=>I.pin p (Qw _ z)) λz=>by
  obtain⟨hb,e⟩:=mN z;obtain⟨f0,f1,f2,_⟩:=hf p.1 hb;obtain⟨o,e',d⟩:=ho p.1 hb;rw[e]at e';cases e';exact⟨e,f0,f1,f2,d⟩
theorem Inv.unpinned {σ:St} {H:Hp} (I:Inv X (pins++pl) σ H s):Inv X pins σ H s:=I.pins_of λp hp=>I.pin p (Qw _ (List.mem_append_left _ hp))
theorem ps_for {body:List Stmt} {wi:TI} {g:TG} {tb:TS} {pos:Pos} (hp:PassesOwn (model X.prog X.w) X.A X.env X.xe) (hc:X.calm=true) (hi:PI X tg iter wi) (hg:PG X tg g) (hb:PSs X body tb)
  (hs:∀x,foldedSetIterable iter X.env x=pure x:=by intro _;rfl):PS X (.For tg iter body [] pos) (r_ wi g tb):=by
 intro pins s σ H D I h;refine wpAny_For (thn (hi pins s σ H _ I h) λv s1 h1=>thn h1 λitv s2 h2=>?_) hs;obtain⟨it,fp,tn,J,H2,e,I2,T,st2,f2,W,⟨m0,w0⟩,turn⟩:=h2;subst e
 -- what stays true of the iterator's objects through the loop
 have stat:∀{H':Hp},(∀b∈fp,H' b=none)->∀b∈fp,eB X pins H' b:=λhn b hb=>⟨hn b hb,(f2 b hb).2⟩;refine codeAny_forLoop_any (λn s'=>∃i σ' H',Inv X pins σ' H' s'/\tn i s'.heap/\(∀b∈fp,H' b=none)/\W i n σ' H') ?_ m0 ⟨0,σ,H2,I2,st2,λb hb=>(f2 b hb).1,w0⟩;rintro n s3 ⟨i,σ3,H3,I3,st3,fr3,w3⟩;rcases turn i n σ3 H3 w3 with⟨stop,qn⟩|⟨go,N,hN,step⟩
 ·refine wpAny_passesOwn hp (thn (T.done X rfl rfl rfl hc i pins s3 σ3 H3 X.xe I3 (stat fr3) st3 stop) λr s4 ⟨hr,I4⟩=>?_);subst hr;exact wpAny_execs_nil ⟨σ3,H3,I4,qn⟩
 refine wpAny_passesOwn hp (thn (T.item X rfl rfl rfl hc i pins s3 σ3 H3 X.xe I3 (stat fr3) st3 go) λr s4 ⟨u,hr,h4⟩=>?_);subst hr;refine wpAny_passesOwn hp (thn h4 λ_ s5 ⟨x,H5,I5,r5,y5,st5,fr5⟩=>?_);have I5':=I5.pinned (stat fr5) (T.obj _ _ st5);refine wpAny_passesOwn hp (thn (hg _ s5 σ3 H5 x u _ I5' r5 (step x H5 y5)) λ_ s6 ⟨σ6,H6,I6,q6⟩=>?_);refine wpAny_passesOwn hp (thn (hb _ s6 σ6 H6 _ I6 q6) λf s7 q7=>?_)
 have again:∀{σ7:St} {H7:Hp},Inv X (pins++fj fp s5.heap) σ7 H7 s7->N σ7 H7->∃m,m<n/\∃i σ' H',Inv X pins σ' H' s7/\tn i s7.heap/\(∀b∈fp,H' b=none)/\W i m σ' H':=λ{σ7 H7} I7 n7=>by
  obtain⟨m',hm,w7⟩:=hN σ7 H7 n7;refine⟨m',hm,i+1,σ7,H7,I7.unpinned,T.keep _ _ _ st5 λb hb o e=>(I7.pin (b,o) (Qw _ (Qw _ (cb hb e)))).1,λb hb=>?_,w7⟩;obtain⟨o,e,d⟩:=T.obj _ _ st5 b hb;exact(I7.pin (b,o) (Qw _ (Qw _ (cb hb e)))).2.1
 cases f with
 | next=>obtain⟨σ7,H7,I7,n7⟩:=q7;exact again I7 n7
 | cont=>obtain⟨σ7,H7,I7,n7⟩:=q7;exact again I7 n7
 | brk=>obtain⟨σ7,H7,I7,q7⟩:=q7;exact⟨σ7,H7,I7.unpinned,q7⟩
 | ret v=>obtain⟨x7,σ7,H7,I7,r7,q7⟩:=q7;exact⟨x7,σ7,H7,I7.unpinned,r7,q7⟩
end
theorem oX {K:PySem.W.Frag} {xs:List V} {g:TG} {tb:TS} {D:Ends} {σ:St} (Pv:Nat->St->Hp->Prop) (h0:Pv 0 σ H) (hl:∀i σ H,i<=xs.length->Pv i σ H->SqL K H a xs)
  (hs:∀i x σ H,xs[i]?=some x->Pv i σ H->g x σ H λσ2 H2=>tb { D with nx:=Pv (i+1),ct:=Pv (i+1),bk:=D.nx } σ2 H2) (hd:∀σ H,Pv xs.length σ H->D.nx σ H) :
  ∃W:Nat->Nat->St->Hp->Prop,(∃m,W 0 m σ H)/\∀i m σ H,W i m σ H ->
   ((Itl K a).stop i H/\D.nx σ H)\/((Itl K a).go i H/\∃N:St->Hp->Prop,(∀σ' H',N σ' H'->∃m',m'<m/\W (i+1) m' σ' H')/\∀x H',(Itl K a).yld i H x H'->g x σ H' λσ2 H2=>tb { D with nx:=N,ct:=N,bk:=D.nx } σ2 H2):=by
 refine⟨λi m σ H=>m=xs.length-i/\i<=xs.length/\Pv i σ H,⟨xs.length,by simp,QZ _,h0⟩,?_⟩;rintro i m σ H ⟨rfl,hi,p⟩;have q:=hl i σ H hi p;by_cases hlt:i<xs.length
 ·refine .inr ⟨⟨xs,xs[i],q,by simp[hlt]⟩,Pv (i+1),λσ' H' p'=>⟨xs.length-(i+1),by omega,rfl,hlt,p'⟩,λx H' y=>?_⟩;obtain⟨e,y⟩:=y;subst e;exact hs i x σ _ (y xs q) p
 have e:i=xs.length:=by omega
 subst e;exact .inl ⟨⟨xs,q,Qh _⟩,hd σ H p⟩
theorem bQ {lo:Int} {n:Nat} {g:TG} {tb:TS} {D:Ends} {σ:St} (Pv:Nat->St->Hp->Prop) (h0:Pv 0 σ H)
  (hs:∀i σ H,i<n->Pv i σ H->g (.int (lo+i)) σ H λσ2 H2=>tb { D with nx:=Pv (i+1),ct:=Pv (i+1),bk:=D.nx } σ2 H2) (hd:∀σ H,Pv n σ H->D.nx σ H) :
  ∃W:Nat->Nat->St->Hp->Prop,(∃m,W 0 m σ H)/\∀i m σ H,W i m σ H ->
   ((Itr lo n).stop i H/\D.nx σ H)\/((Itr lo n).go i H/\∃N:St->Hp->Prop,(∀σ' H',N σ' H'->∃m',m'<m/\W (i+1) m' σ' H')/\∀x H',(Itr lo n).yld i H x H'->g x σ H' λσ2 H2=>tb { D with nx:=N,ct:=N,bk:=D.nx } σ2 H2):=by
 refine⟨λi m σ H=>m=n-i/\i<=n/\Pv i σ H,⟨n,by simp,QZ _,h0⟩,?_⟩;rintro i m σ H ⟨rfl,hi,p⟩;by_cases hlt:i<n
 ·refine .inr ⟨hlt,Pv (i+1),λσ' H' p'=>⟨n-(i+1),by omega,rfl,hlt,p'⟩,λx H' y=>?_⟩;obtain⟨e,y⟩:=y;subst e y;exact hs i σ _ hlt p
 have e:i=n:=by omega
 subst e;exact .inl ⟨Qh _,hd σ H p⟩
abbrev R2:=V->V->Hp->VK->Prop
def OpR (X:Cx) (f:Value->Value->Sem Value) (r:R2):Prop :=
 ∀(pins:A1) (s:Shared) (σ:St) (H:Hp) (x y:V) (v u:Value) (Q:VK),Inv X pins σ H s->aU x v->aU y u->r x y H Q ->
  wpAny (model X.prog X.w) X.A (f v u) (EP X pins σ Q) X.xe s
def UnR (X:Cx) (f:Value->Sem Value) (r:V->Hp->VK->Prop):Prop :=
 ∀(pins:A1) (s:Shared) (σ:St) (H:Hp) (x:V) (v:Value) (Q:VK),Inv X pins σ H s->aU x v->r x H Q ->
  wpAny (model X.prog X.w) X.A (f v) (EP X pins σ Q) X.xe s
def cD (X:Cx) (f:Value) (r:List V->Hp->VK->Prop):Prop :=
 ∀(pins:A1) (s:Shared) (σ:St) (H:Hp) (xs:List V) (us:List Value) (Q:VK),Inv X pins σ H s->aM xs us->r xs H Q ->
  wpAny (model X.prog X.w) X.A (call f us) (EP X pins σ Q) X.xe s
def tOp (r:R2) (ta tb:TE):TE:=λσ H Q=>ta σ H λx H1=>tb σ H1 λy H2=>r x y H2 Q
def tUn (r:V->Hp->VK->Prop) (ta:TE):TE:=λσ H Q=>ta σ H λx H1=>r x H1 Q
def rI (C:Int->Int->Prop) (g:Int->Int->V):R2:=λx y H Q=>∃i j,x=.int i/\y=.int j/\C i j/\Q (g i j) H
def rI0 (g:Int->Int->V):R2:=λx y H Q=>∃i j,x=.int i/\y=.int j/\Q (g i j) H
def rU (g:Int->V):V->Hp->VK->Prop:=λx H Q=>∃i,x=.int i/\Q (g i) H
section
variable {X:Cx} {a b c:Expr} {ta tb tc:TE} {pos:Pos}
variable {f:Value->Value->Sem Value}
theorem s0 (ha:PE X a ta) (hb:PE X b tb) {pins:A1} {s:Shared} {σ:St} {H:Hp} {R:V->V->Hp->Prop} (I:Inv X pins σ H s)
  (h:ta σ H λx H1=>tb σ H1 λy H2=>R x y H2) {Q:A0}
  (hf:∀v u s2 x y H2,Inv X pins σ H2 s2->aU x v->aU y u->R x y H2->wpAny (model X.prog X.w) X.A (f v u) Q X.xe s2) :
  wpAny (model X.prog X.w) X.A (eval a X.env) (λv s₁=>wpAny (model X.prog X.w) X.A (eval b X.env) (λu s₂=>wpAny (model X.prog X.w) X.A (f v u) Q X.xe s₂) X.xe s₁) X.xe s:=by
 refine thn (ha pins s σ H _ I h) λv s1 ⟨x,H1,I1,r1,q1⟩=>?_;refine thn (hb pins s1 σ H1 _ I1 q1) λu s2 ⟨y,H2,I2,r2,q2⟩=>?_;exact hf v u s2 x y H2 I2 r1 r2 q2
theorem ag {op:Operator} {r:R2} (ho:OpR X (binaryOp op) r) (ha:PE X a ta) (hb:PE X b tb):PE X (.BinOp a op b pos) (tOp r ta tb):=by
 intro pins s σ H Q I h;exact wpAny_BinOp (s0 ha hb I h λv u s2 x y H2 I2 rx ry q=>ho pins s2 σ H2 x y v u Q I2 rx ry q)
theorem fq {op:UnaryOp} {r:V->Hp->VK->Prop} (ho:UnR X (unaryOp op) r) (ha:PE X a ta):PE X (.UnaryOp op a pos) (tUn r ta):=by
 intro pins s σ H Q I h;exact UnaryOp_ (thn (ha pins s σ H _ I h) λv s1 ⟨x,H1,I1,r1,q1⟩=>ho pins s1 σ H1 x v Q I1 r1 q1)
theorem opI {C:Int->Int->Prop} {g:Int->Int->Int}
  (rule:∀(i j:Int) (t u:Tok) (s:Shared) (Q:A0) (E:A0),C i j->Q (.int (g i j) s.toks) { s with toks:=s.toks+1 }->wpAny (model X.prog X.w) X.A (f (.int i t) (.int j u)) Q E s) :
  OpR X f (rI C λi j=>.int (g i j)):=by
 intro pins s σ H x y v u Q I rx ry h;obtain⟨i,j,rfl,rfl,hc,q⟩:=h;obtain⟨t,rfl⟩:=rx;obtain⟨t',rfl⟩:=ry;exact rule i j t t' s _ _ hc ⟨.int (g i j),H,I.tok _,⟨_,rfl⟩,q⟩
theorem sH {g:Int->Int->Int}
  (rule:∀(i j:Int) (t u:Tok) (s:Shared) (Q:A0) (E:A0),Q (.int (g i j) s.toks) { s with toks:=s.toks+1 }->wpAny (model X.prog X.w) X.A (f (.int i t) (.int j u)) Q E s) :
  OpR X f (rI0 λi j=>.int (g i j)):=by
 intro pins s σ H x y v u Q I rx ry h;obtain⟨i,j,rfl,rfl,q⟩:=h;obtain⟨t,rfl⟩:=rx;obtain⟨t',rfl⟩:=ry;exact rule i j t t' s _ _ ⟨.int (g i j),H,I.tok _,⟨_,rfl⟩,q⟩
theorem sI {g:Int->Int->Bool}
  (rule:∀(i j:Int) (t u:Tok) (s:Shared) (Q:A0) (E:A0),Q (.bool (g i j)) s->wpAny (model X.prog X.w) X.A (f (.int i t) (.int j u)) Q E s) :
  OpR X f (rI0 λi j=>.bl (g i j)):=by
 intro pins s σ H x y v u Q I rx ry h;obtain⟨i,j,rfl,rfl,q⟩:=h;obtain⟨t,rfl⟩:=rx;obtain⟨t',rfl⟩:=ry;exact rule i j t t' s _ _ ⟨.bl (g i j),H,I,rfl,q⟩
def uZ (i j:Int):Prop:=0<j/\j<1073741824
def vm (i j:Int):Prop:=0<=j/\j<=1000000/\i.natAbs<2 ^ 64
def tq (i j:Int):Prop:=(-(2 ^ 64)<i/\i<2 ^ 64)\/(-(2 ^ 64)<j/\j<2 ^ 64)
theorem tq.ok {i j:Int} (h:tq i j):IntMulOk i j:=by
 rcases h with⟨h1,h2⟩|⟨h1,h2⟩
 ·exact .of_left (intBits_le_64 h1 h2)
 exact .of_right (intBits_le_64 h1 h2)
theorem ke (k:Nat):(0:Int)<=2 ^ k:=by
 rw[two_pow_cast];exact Int.natCast_nonneg _
theorem aD:OpR X (binaryOp .Add) (rI0 λi j=>.int (i+j)):=sH λ_ _ _ _ _ _ _ q=>add_int q
theorem c7:OpR X (binaryOp .Sub) (rI0 λi j=>.int (i-j)):=sH λ_ _ _ _ _ _ _ q=>sub_int q
theorem ck:OpR X (binaryOp .Mult) (rI tq λi j=>.int (i*j)):=opI λ_ _ _ _ _ _ _ hc q=>mul_int q hc.ok
theorem bo:OpR X (binaryOp .FloorDiv) (rI uZ λi j=>.int (i / j)):=opI λi j _ _ _ _ _ hc q=>by
 have h1:(0:Int)<j:=hc.1;have h2:j<1073741824:=hc.2;exact floordiv_int (by omega) (by rw[Int.fdiv_eq_ediv_of_nonneg i (by omega)];exact q) (.inl (PyProof.noPylong_small (by omega)))
theorem aH:OpR X (binaryOp .Mod) (rI (λ_ j=>0<j) λi j=>.int (i % j)):=opI λi j _ _ _ _ _ hc q=>by
 have h1:(0:Int)<j:=hc;exact mod_int' (by omega) (by rw[Int.fmod_eq_emod_of_nonneg i (by omega)];exact q)
theorem jb:OpR X (binaryOp .Pow) (rI vm λi j=>.int (i ^ j.toNat)):=opI λ_ _ _ _ _ _ _ hc q=>pow_int_small hc.1 hc.2.1 hc.2.2 q
theorem sD:OpR X (binaryOp .RShift) (rI (λ_ j=>0<=j) λi j=>.int (i / 2 ^ j.toNat)):=opI λi j _ _ _ _ _ hc q =>
 rshift_int hc (by rw[Int.fdiv_eq_ediv_of_nonneg i (ke _)];exact q)
theorem sG:OpR X (binaryOp .BitAnd) (rI0 λi j=>.int (Builtin.bitAnd i j)):=sH λ_ _ _ _ _ _ _ q=>and_int q
theorem unI {f:Value->Sem Value} {g:Int->Int}
  (rule:∀(i:Int) (t:Tok) (s:Shared) (Q:A0) (E:A0),Q (.int (g i) s.toks) { s with toks:=s.toks+1 }->wpAny (model X.prog X.w) X.A (f (.int i t)) Q E s) :
  UnR X f (rU λi=>.int (g i)):=by
 intro pins s σ H x v Q I rx h;obtain⟨i,rfl,q⟩:=h;obtain⟨t,rfl⟩:=rx;exact rule i t s _ _ ⟨.int (g i),H,I.tok _,⟨_,rfl⟩,q⟩
theorem dy:UnR X (unaryOp .USub) (rU λi=>.int (-i)):=unI λ_ _ _ _ _ q=>neg_int q
end
noncomputable def pN:V->V->Bool
 | .non,.non=>true|.non,.int _=>true|.int _,.non=>true|.non,.bl _=>true|.bl _,.non=>true|.non,.str _=>true|.str _,.non=>true
 | .int _,.int _=>true|.bl _,.bl _=>true|.str _,.str _=>true|.byt _,.byt _=>true
 | .int _,.str _=>true|.str _,.int _=>true|.bl _,.str _=>true|.str _,.bl _=>true
 | _,_=>false
def rEq:R2:=λx y H Q=>pN x y=true/\Q (.bl (decide (x=y))) H
def rNe:R2:=λx y H Q=>pN x y=true/\Q (.bl (!decide (x=y))) H
theorem l_ {i j:Int}:decide (V.int i=V.int j)=(i==j):=by
 rw[Bool.eq_iff_iff];simp
theorem pb {i j:Bool}:decide (V.bl i=V.bl j)=(i==j):=by
 rw[Bool.eq_iff_iff];simp
theorem l9 {i j:Str}:decide (V.str i=V.str j)=(i==j):=by
 rw[Bool.eq_iff_iff];simp
theorem ma {i j:Array UInt8}:decide (V.byt i=V.byt j)=(i.toList==j.toList):=by
 rw[Bool.eq_iff_iff];cases i;cases j;simp
section
variable {X:Cx} {a b c:Expr} {ta tb tc:TE} {pos:Pos}
theorem aY {pins:A1} {σ:St} {H:Hp} {s:Shared} {Q:VK} {k k':Bool} (I:Inv X pins σ H s) (q:Q (.bl k) H) (e:k=k'):EP X pins σ Q (.bool k') s:=by
 subst e;exact⟨.bl k,H,I,rfl,q⟩
theorem bD:OpR X (compareOp .Eq) rEq:=by
 intro pins s σ H x y v u Q I rx ry h;obtain⟨hs,q⟩:=h
 cases x with
 | non =>
  cases rx
  cases y with
  | non=>cases ry;exact PySem.EqNone.eq_none_none (aY I q (by simp))
  | bl j=>cases ry;exact PySem.EqNone.eq_none_bool (aY I q (by simp))
  | int j=>obtain⟨t',rfl⟩:=ry;exact PySem.EqNone.eq_none_int (aY I q (by simp))
  | str j=>obtain⟨t',rfl⟩:=ry;exact PySem.EqNone.eq_none_str (aY I q (by simp))
  | _=>exact absurd (show false=true from hs) Qm
 | bl i =>
  cases rx
  cases y with
  | non=>cases ry;exact PySem.EqNone.eq_bool_none (aY I q (by simp))
  | bl j=>cases ry;exact eq_bool (aY I q pb)
  | str j=>obtain⟨t',rfl⟩:=ry;exact PySem.EqMixed.eq_bool_str (aY I q (by simp))
  | _=>exact absurd (show false=true from hs) Qm
 | int i =>
  obtain⟨t,rfl⟩:=rx
  cases y with
  | non=>cases ry;exact PySem.EqNone.eq_int_none (aY I q (by simp))
  | int j=>obtain⟨t',rfl⟩:=ry;exact eq_int (aY I q l_)
  | str j=>obtain⟨t',rfl⟩:=ry;exact PySem.EqMixed.eq_int_str (aY I q (by simp))
  | _=>exact absurd (show false=true from hs) Qm
 | str i =>
  obtain⟨t,rfl⟩:=rx
  cases y with
  | non=>cases ry;exact PySem.EqNone.eq_str_none (aY I q (by simp))
  | bl j=>cases ry;exact PySem.EqMixed.eq_str_bool (aY I q (by simp))
  | int j=>obtain⟨t',rfl⟩:=ry;exact PySem.EqMixed.eq_str_int (aY I q (by simp))
  | str j=>obtain⟨t',rfl⟩:=ry;exact eq_str (aY I q l9)
  | _=>exact absurd (show false=true from hs) Qm
 | byt i =>
  obtain⟨t,rfl⟩:=rx
  cases y with
  | byt j=>obtain⟨t',rfl⟩:=ry;exact PySem.W.eq_bytes (aY I q ma)
  | _=>exact absurd (show false=true from hs) Qm
 | _=>cases y <;> exact absurd (show false=true from hs) Qm
theorem dm:OpR X (compareOp .NotEq) rNe:=by
 intro pins s σ H x y v u Q I rx ry h;obtain⟨hs,q⟩:=h
 cases x with
 | non =>
  cases rx
  cases y with
  | non=>cases ry;exact PySem.EqNone.ne_none_none (aY I q (by simp))
  | bl j=>cases ry;exact PySem.EqNone.ne_none_bool (aY I q (by simp))
  | int j=>obtain⟨t',rfl⟩:=ry;exact PySem.EqNone.ne_none_int (aY I q (by simp))
  | str j=>obtain⟨t',rfl⟩:=ry;exact PySem.EqNone.ne_none_str (aY I q (by simp))
  | _=>exact absurd (show false=true from hs) Qm
 | bl i =>
  cases rx
  cases y with
  | non=>cases ry;exact PySem.EqNone.ne_bool_none (aY I q (by simp))
  | bl j=>cases ry;exact ne_bool (aY I q (congrArg not pb))
  | str j=>obtain⟨t',rfl⟩:=ry;exact PySem.EqMixed.ne_bool_str (aY I q (by simp))
  | _=>exact absurd (show false=true from hs) Qm
 | int i =>
  obtain⟨t,rfl⟩:=rx
  cases y with
  | non=>cases ry;exact PySem.EqNone.ne_int_none (aY I q (by simp))
  | int j=>obtain⟨t',rfl⟩:=ry;exact ne_int (aY I q (congrArg not l_))
  | str j=>obtain⟨t',rfl⟩:=ry;exact PySem.EqMixed.ne_int_str (aY I q (by simp))
  | _=>exact absurd (show false=true from hs) Qm
 | str i =>
  obtain⟨t,rfl⟩:=rx
  cases y with
  | non=>cases ry;exact PySem.EqNone.ne_str_none (aY I q (by simp))
  | bl j=>cases ry;exact PySem.EqMixed.ne_str_bool (aY I q (by simp))
  | int j=>obtain⟨t',rfl⟩:=ry;exact PySem.EqMixed.ne_str_int (aY I q (by simp))
  | str j=>obtain⟨t',rfl⟩:=ry;exact ne_str (aY I q (congrArg not l9))
  | _=>exact absurd (show false=true from hs) Qm
 | byt i =>
  obtain⟨t,rfl⟩:=rx
  cases y with
  | byt j=>obtain⟨t',rfl⟩:=ry;exact PySem.W.ne_bytes (aY I q (congrArg not ma))
  | _=>exact absurd (show false=true from hs) Qm
 | _=>cases y <;> exact absurd (show false=true from hs) Qm
theorem lO:OpR X (compareOp .Lt) (rI0 λi j=>.bl (decide (i<j))):=sI λ_ _ _ _ _ _ _ q=>lt_int q
theorem rj:OpR X (compareOp .Gt) (rI0 λi j=>.bl (decide (j<i))):=sI λ_ _ _ _ _ _ _ q=>gt_int q
theorem tY:OpR X (compareOp .GtE) (rI0 λi j=>.bl (decide (j<=i))):=sI λ_ _ _ _ _ _ _ q=>ge_int q
theorem lN:OpR X (compareOp .IsNot) (λx y H Q=>y=.non/\Q (.bl (!decide (x=.non))) H):=by
 intro pins s σ H x y v u Q I rx ry h;obtain⟨rfl,q⟩:=h;cases ry;refine isnot_none_gen (aY I q ?_)
 cases x <;> first
  | (cases rx;rfl)
  | (obtain⟨t,rfl⟩:=rx;rfl)
variable {op:CmpOp}
theorem aI (b:Expr) (h:op≠.In:=by decide) (h2:op≠.NotIn:=by decide):behindInMarks op b=false:=by
 have e1:(op==CmpOp.In)=false:=by cases op <;> first|rfl|exact absurd rfl h
 have e2:(op==CmpOp.NotIn)=false:=by cases op <;> first|rfl|exact absurd rfl h2
 cases b <;> simp[behindInMarks,e1,e2]
theorem cF {r:R2} (ho:OpR X (compareOp op) r) (ha:PE X a ta) (hb:PE X b tb) (hm:behindInMarks op b=false):PE X (.Compare a [op] [b] pos) (tOp r ta tb):=by
 intro pins s σ H Q I h;exact wpAny_Compare1 (s0 ha hb I h λv u s2 x y H2 I2 rx ry q=>ho pins s2 σ H2 x y v u Q I2 rx ry q) hm
def nI (t:TE):TT:=λσ H Q=>t σ H λx H'=>∃k,x=.bl k/\Q k H'
theorem aC {r:R2} (ho:OpR X (compareOp op) r) (ha:PE X a ta) (hb:PE X b tb) (hm:behindInMarks op b=false):PT X (.Compare a [op] [b] pos) (nI (tOp r ta tb)):=by
 intro pins s σ H Q I h
 refine wpAny_isTrue_Compare1 (thn (ha pins s σ H _ I h) λv s1 ⟨x,H1,I1,r1,q1⟩=>thn (hb pins s1 σ H1 _ I1 q1) λu s2 ⟨y,H2,I2,r2,q2⟩ =>
  thn (ho pins s2 σ H2 x y v u _ I2 r1 r2 q2) λc s3 ⟨z,H3,I3,r3,k,e,q3⟩=>?_) hm
 subst e;cases r3;exact wpAny_truthy_bool ⟨H3,I3,q3⟩
theorem fm:(sizeLine:Nat)<2 ^ 63:=by rw[sizeLine_eq];decide
theorem aQ:OpR X (binaryOp .Add) (λx y H Q=>∃i j,x=.str i/\y=.str j/\i.length+j.length<=sizeLine/\Q (.str (i++j)) H):=by
 intro pins s σ H x y v u Q I rx ry h;obtain⟨i,j,rfl,rfl,hz,q⟩:=h;obtain⟨t,rfl⟩:=rx;obtain⟨t',rfl⟩:=ry;exact add_str (λt' tk=>⟨.str (i++j),H,I.tok _,⟨_,rfl⟩,q⟩) hz
theorem dg {x:V} {us:List Value} (r:aM [x] us):∃u,us=[u]/\aU x u:=by
 cases r with
 | cons r1 r2=>cases r2;exact⟨_,rfl,r1⟩
theorem jp {x y:V} {us:List Value} (r:aM [x,y] us):∃u w',us=[u,w']/\aU x u/\aU y w':=by
 cases r with
 | cons r1 r2 =>
 cases r2 with
 | cons r3 r4=>cases r4;exact⟨_,_,rfl,r1,r3⟩
theorem pj:cD X (.builtin "abs") (λxs H Q=>∃i,xs=[.int i]/\Q (.int (if i<0 then -i else i)) H):=by
 intro pins s σ H xs us Q I r h;obtain⟨i,rfl,q⟩:=h;obtain⟨u,rfl,t,rfl⟩:=dg r;exact call_abs_int λu tk=>⟨.int (if i<0 then -i else i),H,I.tok _,⟨_,rfl⟩,q⟩
theorem ix (hc:X.calm=true):cD X (.builtin "min") (λxs H Q=>∃i j,xs=[.int i,.int j]/\Q (.int (if j<i then j else i)) H):=by
 intro pins s σ H xs us Q I r h;obtain⟨i,j,rfl,q⟩:=h;obtain⟨u,w',rfl,⟨t,rfl⟩,⟨t',rfl⟩⟩:=jp r;refine min_two_ints (I.ok.hd hc) λh' tk k=>⟨_,H,I.kept k,?_,q⟩;by_cases hj:j<i
 ·rw[QH hj,QH hj];exact⟨_,rfl⟩
 rw[QB hj,QB hj];exact⟨_,rfl⟩
end
structure ObjM (h:Heap) (x dx C:Addr) (mA:A2):Prop where
 obj:h.get? x=some (PySem.W.instObj C dx)
 ns:h.Ns1 dx mA
 ne:dx≠x
variable {mA:A2}
theorem ik (n:h.Ns1 dx mA):∃od,h.get? dx=some od/\∀name,PySem.W.lookIn name od=some (mA name):=by
 obtain⟨o,es,ep,ho,hd,hk,_,hm⟩:=n;refine⟨o,ho,λname=>?_⟩;have e:=hm name;unfold nsFind findBy at e;rw[<-Array.find?_toList]at e;unfold PySem.W.lookIn;rw[hd];dsimp only
 split
 ·rename_i y q
  rw[q]at e;exact congrArg some e
 rename_i q
 rw[q]at e
 have a:es.toList.any (·.refKey)=false:=by
  rw[List.any_eq_false];intro y hy;obtain⟨z,t,hkey⟩:=hk y (Array.mem_toList_iff.mp hy);simp[DictEntry.refKey,hkey]
 have a':¬es.toList.any (·.refKey)=true:=by rw[a];exact Qm
 rw[QB a'];exact congrArg some e
theorem ObjM.look {x:Addr} (I:ObjM h x dx C mA):∃od,PySem.W.InstAt h x (PySem.W.instObj C dx) C (some od)/\∀name,PySem.W.lookIn name od=some (mA name) :=
 let ⟨od,ho,hl⟩:=ik I.ns
 ⟨od,⟨I.obj,rfl,rfl,ho⟩,hl⟩
section
variable {prog:Program} {w:World} {A:Around} {E:A0} {s:Shared} {K:PySem.W.Frag} {x dx C f:Addr} {mA:A2} {name:Str} {v:Value}
end
theorem eX.some_of {v:V} {o:Option Value} (r:eX (some v) o):∃u,o=some u/\aU v u:=by
 cases o with
 | none=>exact(show False from r).elim
 | some u=>exact⟨u,rfl,r⟩
theorem m9 {v:V} (r:aU v u):PySem.W.handedIn u=true:=by
 cases v with
 | non=>cases (show u=Value.none from r);rfl
 | bl b=>cases (show u=Value.bool b from r);rfl
 | int i=>obtain⟨t,e⟩:=(show ∃t,u=Value.int i t from r);cases e;rfl
 | str x=>obtain⟨t,e⟩:=(show ∃t,u=Value.str x t from r);cases e;rfl
 | byt b=>obtain⟨t,e⟩:=(show ∃t,u=Value.bytes b t from r);cases e;rfl
 | flt b=>obtain⟨t,e⟩:=(show ∃t,u=Value.float b t from r);cases e;rfl
 | ref a=>cases (show u=Value.ref a from r);rfl
 | ty n=>cases (show u=Value.type n from r);rfl
section
variable {P:Program} {w:World} {H H':Hp} {h h':Heap} {a C dx:Addr} {fs fs':List (Str × V)}
theorem qy (hok:HOk P w H h) (e:H a=some (.ins C dx fs)):∃mA,ObjM h a dx C mA/\(∀f,eX (fs.lookup f) (mA f))/\PySem.Within mA (fs.map (·.1))/\fs.length<=1000/\H dx=some (.own a):=by
 obtain⟨d,z,ne,ob,mA,n,r,q⟩:=(show ba P w H h a (.ins C dx fs) from hok a _ e);exact⟨mA,⟨ob,n,ne⟩,r,q,z,d⟩
end
structure Cls (K:PySem.W.Frag) (C:Addr):Prop where
 pg:PySem.W.plainGet K C Str.empty=true
 hd:PySem.W.hasDictIn K C=true
 po:PySem.W.plainOver K C=true
 sa:PySem.W.findIn K (.ref C) "__setattr__" = some (some (.builtin "object.__setattr__"))
theorem Cls.get {K:PySem.W.Frag} (c:Cls K C) (f:Str):PySem.W.plainGet K C f=true:=c.pg
structure Con (K:PySem.W.Frag) (C:Addr) (f:Str) (v:V) (u:Value):Prop where
 at_:PySem.W.findIn K (.ref C) f=some (some u)
 rel:aU v u
 get:PySem.W.specialIn K u "__get__" = some none
 cp:PySem.W.copiedNames.contains f=false
structure Meth (K:PySem.W.Frag) (C:Addr) (m:Str) (f:Addr):Prop where
 at_:PySem.W.findIn K (.ref C) m=some (some (.ref f))
 fn:PySem.W.isFn K (.ref f)=true
 kp:PySem.W.keepIn K (.ref f)=true
section
variable {X:Cx} {pins:A1} {σ:St} {H:Hp} {s:Shared} {a C dx:Addr} {fs:List (Str × V)} {f:Str} {v:V} {A:Around} {E:A0}
theorem qI {prog:Program} {w:World} {env:Env} {e:Expr} {f:Str} {pos:Pos} {s:Shared} {Q:A0} (hb:attributeBase e f env (eval e env)=eval e env)
  (h:wpAny (model prog w) A (eval e env) (λo s₁=>wpAny (model prog w) A (getAttr o f true) Q E s₁) E s):wpAny (model prog w) A (eval (.Attribute e f pos) env) Q E s :=
 Attribute_any_ h (by rw[arm_eval_Attribute,hb])
end
section
variable {X:Cx} {o e value:Expr} {f:Str} {pos pos' tpos:Pos} {ta tv:TE}
end
section
variable {X:Cx} {pins:A1} {σ:St} {H:Hp} {s:Shared} {A:Around} {E:A0} {Q:A0} {c:Value} {b:Bool}
inductive TyOf (K:PySem.W.Frag) (H:Hp):V->Value->Prop where
 | non:TyOf K H .non (.type "NoneType")
 | bl (x:Bool):TyOf K H (.bl x) (.type "bool")
 | int (i:Int):TyOf K H (.int i) (.type "int")
 | str (x:Str):TyOf K H (.str x) (.type "str")
 | flt (x:UInt64):TyOf K H (.flt x) (.type "float")
 | lst {a:Addr} {xs:List V} (e:H a=some (.lst xs)):TyOf K H (.ref a) (.type "list")
 | frz {a:Addr} {o:Obj} {xs:List V} (e:H a=some (.frz o (.lst xs))):TyOf K H (.ref a) (.type "list")
 | tup {a:Addr} {xs:List V} (e:H a=some (.tup xs)):TyOf K H (.ref a) (.type "tuple")
 | dK {a:Addr} {kvs:List (Key × V)} (e:H a=some (.dK kvs)):TyOf K H (.ref a) (.type "dict")
 | dT {a:Addr} {kvs:List (List Key × V)} (e:H a=some (.dT kvs)):TyOf K H (.ref a) (.type "dict")
 | ins {a C dx:Addr} {fs:List (Str × V)} (e:H a=some (.ins C dx fs)) (cl:Cls K C) (ha:PySem.W.findIn K (.ref C) "__class__" = some (some (.builtin "object.__class__")))
   (hn:PySem.W.specialIn K (.builtin "object.__class__") "__get__" = some (some (.builtin "getset_descriptor.__get__"))) (htk:PySem.W.takesIn K (.builtin "object.__class__")=some true)
   (hm:PySem.W.mroIn K C (.type "object")=some true):TyOf K H (.ref a) (.ref C)
theorem mX {x:V} {u t:Value} (I:Inv X pins σ H s) (rx:aU x u) (ty:TyOf X.K H x t) (e:PySem.W.kitOne X.K t c=some b) (h:∀tk,Q (.bool b) { s with toks:=tk }) :
  wpAny (model X.prog X.w) A (call (.builtin "isinstance") [u,c]) Q E s:=by
 cases ty with
 | non=>cases (show u=Value.none from rx);exact Q7 PySem.W.kitx_none I.kIn True.intro e (λz=>nomatch z) h
 | bl y=>cases (show u=Value.bool y from rx);exact Q7 PySem.W.kitx_bool I.kIn True.intro e (λz=>nomatch z) h
 | int i=>obtain⟨t,q⟩:=(show ∃t,u=Value.int i t from rx);cases q;exact Q7 PySem.W.kitx_int I.kIn True.intro e (λz=>nomatch z) h
 | str y=>obtain⟨t,q⟩:=(show ∃t,u=Value.str y t from rx);cases q;exact Q7 PySem.W.kitx_str I.kIn True.intro e (λz=>nomatch z) h
 | flt y=>obtain⟨t,q⟩:=(show ∃t,u=Value.float y t from rx);cases q;exact Q7 PySem.W.kitx_float I.kIn True.intro e (λz=>nomatch z) h
 | @lst a xs ea =>
  cases (show u=Value.ref a from rx);obtain⟨_,_,n,_,h1⟩:=(show ba X.prog X.w H s.heap a (.lst xs) from I.hok a _ ea);exact Q7 PySem.W.kitx_list I.kIn ⟨_,h1,rfl⟩ e (λz=>nomatch z) h
 | @frz a ob xs ea =>
  cases (show u=Value.ref a from rx);obtain⟨_,_,_,n,_,h1⟩:=(show ba X.prog X.w H s.heap a (.frz ob (.lst xs)) from I.hok a _ ea);exact Q7 PySem.W.kitx_list I.kIn ⟨_,h1,rfl⟩ e (λz=>nomatch z) h
 | @tup a xs ea =>
  cases (show u=Value.ref a from rx);obtain⟨_,_,_,p⟩:=(show ba X.prog X.w H s.heap a (.tup xs) from I.hok a _ ea);obtain⟨o,h1,h2,_⟩:=p;exact Q7 PySem.W.kitx_tuple I.kIn ⟨o,h1,h2⟩ e (λz=>nomatch z) h
 | @dK a kvs ea =>
  cases (show u=Value.ref a from rx);obtain⟨_,_,vs,_,p⟩:=(show ba X.prog X.w H s.heap a (.dK kvs) from I.hok a _ ea);obtain⟨o,es,ep,h1,h2,_⟩:=p;exact Q7 PySem.W.kitx_dict I.kIn ⟨o,h1,h2.1⟩ e (λz=>nomatch z) h
 | @dT a kvs ea =>
  cases (show u=Value.ref a from rx);obtain⟨_,_,xs,_,o,es,ep,h1,h2,_⟩:=(show ba X.prog X.w H s.heap a (.dT kvs) from I.hok a _ ea);exact Q7 PySem.W.kitx_dict I.kIn ⟨o,h1,h2.1⟩ e (λz=>nomatch z) h
 | @ins a C dx fs ea cl ha hn htk hm =>
 cases (show u=Value.ref a from rx);obtain⟨mA,O,_⟩:=qy I.hok ea;obtain⟨od,J,_⟩:=O.look;exact Q7 (PySem.W.kitx_own (cl.get _) cl.hd ha hn htk hm) I.kIn J e (λz=>nomatch z) h
end
structure Room (k:Nat) (A:Around):Prop where
 hd:A.handled=none
 dp:A.depth+3*k+5<recursionLimit
 un:A.units+16*k+200<cLine
theorem Room.mono {j k:Nat} (r:Room k A) (h:j<=k):Room j A:=⟨r.hd,by have:=r.dp;omega,by have:=r.un;omega⟩
theorem Room.deeper {k:Nat} (r:Room (k+1) A) (env:Env):Room k (A.deeper env) :=
 ⟨r.hd,by have:=r.dp;show A.depth+1+3*k+5<_;omega,by have:=r.un;show A.units+3+16*k+200<_;omega⟩
variable {kw:List (Str × Value)}
theorem kS:(A.under (.builtin "type.__call__" ⟨.ref C::us,kw⟩)).depth=A.depth+1:=by
 first|rfl|simp[Around.under,Code.weight,Code.isCreation,Code.isGuard,Code.isCaller,Code.frames,Code.isFrame,guardIds]
theorem kR:(A.under (.builtin "type.__call__" ⟨.ref C::us,kw⟩)).units=A.units+1:=by
 first|rfl|simp[Around.under,Code.cUnits,Code.frames,Code.isFrame]
theorem Room.make {k:Nat} (r:Room (k+1) A) (C:Addr) (us:List Value) (kw:List (Str × Value)):Room k (A.under (.builtin "type.__call__" ⟨.ref C::us,kw⟩)) :=
 ⟨r.hd,by have:=r.dp;rw[kS];omega,by have:=r.un;rw[kR];omega⟩
theorem Room.depth {k:Nat} (r:Room k A):A.depth<recursionLimit:=by have:=r.dp;omega
theorem Room.units {k:Nat} (r:Room k A):A.units+64<cLine:=by have:=r.un;omega
def d4:TA:=λ_ H Q=>Q [] H
def be (ta:TE) (tr:TA):TA:=λσ H Q=>ta σ H λx H1=>tr σ H1 λxs H2=>Q (x::xs) H2
section
variable {X:Cx} {e:Expr} {es:List Expr} {te:TE} {t:TA} {pos:Pos}
theorem ad:PA X [] d4:=λ_ _ _ _ H Q I h=>Calls.spliced_nil ⟨[],H,I,.nil,h⟩
theorem aa (ha:PE X e te) (hr:PA X es t) (hs:starEach (e::es) X.env=(false,eval e X.env)::starEach es X.env:=by rfl):PA X (e::es) (be te t):=by
 intro pos pins s σ H Q I h;rw[hs];show wpAny _ _ (spliced ((false,eval e X.env)::backTo pos (starEach es X.env))) _ _ s;refine Calls.spliced_cons (thn (ha pins s σ H _ I h) λu s1 ⟨x,H1,I1,r1,q1⟩=>?_);exact thn (hr pos pins s1 σ H1 _ I1 q1) λus s2 ⟨xs,H2,I2,r2,q2⟩=>⟨x::xs,H2,I2,.cons r1 r2,q2⟩
def js (t:TA):TE:=λσ H Q=>t σ H λxs H1=>xs.length<=sizeLine/\∀p,H1 p=none->Q (.ref p) (upd H1 p (.tup xs))
def tJ (t:TA):TE:=λσ H Q=>t σ H λxs H1=>xs.length<=sizeLine/\∀p,H1 p=none->Q (.ref p) (upd H1 p (.lst xs))
theorem bh {x1} (h:PA X es t):PE X (.Tuple es x1 pos) (js t):=by
 intro pins s σ H Q I hq;refine wpAny_Tuple_spliced (thn (h pos pins s σ H _ I hq) λus s1 ⟨xs,H1,I1,r,z,q⟩=>⟨by rw[<-r.length];exact z,?_⟩);have hf:H1 s1.heap.objs.size=none:=I1.hok.fresh (Qh _);refine⟨.ref s1.heap.objs.size,upd H1 s1.heap.objs.size (.tup xs),I1.laid (t':=s1.toks) (λb u e=>Qc _ e) (Qh _) ?_,rfl,q _ hf⟩;exact⟨z,us,r,⟨_,Qn _ rfl,rfl,_,rfl⟩⟩
theorem aL (h:PA X es t):PE X (.List es pos) (tJ t):=by
 intro pins s σ H Q I hq;refine wpAny_List_spliced (thn (h pos pins s σ H _ I hq) λus s1 ⟨xs,H1,I1,r,z,q⟩=>⟨by rw[<-r.length];exact z,?_⟩);have hf:H1 s1.heap.objs.size=none:=I1.hok.fresh (Qh _);refine⟨.ref s1.heap.objs.size,upd H1 s1.heap.objs.size (.lst xs),I1.laid (t':=s1.toks) (λb u e=>Qc _ e) (Qh _) ?_,rfl,q _ hf⟩;exact⟨z,us,0,r,Qn _ rfl⟩
end
abbrev Sp:=List V->Hp->VK->XK->Prop
abbrev CXT:=List Env->Hp->Shared->XK->A0
structure Env0 (P:Program) (w:World) (K:PySem.W.Frag) (mg:A2) (base:Heap) (A:Around) (outer:List Env) (s:Shared) (H:Hp):Prop where
 frames:A.frames=some outer
 mod:Mod K mg base
 bs:∀b o,base.get? b=some o->s.heap.get? b=some o/\H b=none
 bsz:base.objs.size<=s.heap.objs.size
 funs:s.heap.FunFrames base outer
 frf:∀b∈frs outer,H b=none
 hok:HOk P w H s.heap
 bare:AllBare s.gens
def CE (outer:List Env) (P:Program) (w:World) (H:Hp) (s:Shared) (Q:VK) (u:Value) (s':Shared):Prop :=
 ∃v H',s'.os=s.os/\AllBare s'.gens/\Un (frs outer) [] H H' s.heap s'.heap/\HOk P w H' s'.heap/\aU v u/\Q v H'
def CR (CX:CXT) (outer:List Env) (P:Program) (w:World) (H:Hp) (s:Shared) (Q:VK) (E:XK) (r:Result) (s':Shared):Prop :=
 match r with
 | .ok (.ret u)=>CE outer P w H s Q u s'
 | .ok _=>False
 | .error e=>CX outer H s E e s'
structure FnOk (P:Program) (w:World) (K:PySem.W.Frag) (mg:A2) (base:Heap) (CX:CXT) (k:Nat) (f:Addr) (fd:FuncData) (ps:List Str) (sp:Sp):Prop where
 len:∀vs H Q E,sp vs H Q E->vs.length=ps.length
 run:∀(A:Around) (outer:List Env) (s:Shared) (H:Hp) (args:Args) (us:List Value) (vs:List V) (Q:VK) (E:XK),Room k A->Env0 P w K mg base A outer s H->BindsTo s fd args (ps.zip us)->aM vs us->sp vs H Q E ->
  codeAny (model P w) A (.call (.ref f) args) (CR CX outer P w H s Q E) s
theorem Env0.make {P:Program} {w:World} {K:PySem.W.Frag} {mg:A2} {base:Heap} {outer:List Env} (e:Env0 P w K mg base A outer s H) (C:Addr) (us:List Value) (kw:List (Str × Value)) :
  Env0 P w K mg base (A.under (.builtin "type.__call__" ⟨.ref C::us,kw⟩)) outer s H:=⟨by first|exact e.frames|(simpa[Around.under,Code.envs,Code.isFrame,pushEnvs] using e.frames),e.mod,e.bs,e.bsz,e.funs,e.frf,e.hok,e.bare⟩
section
variable {X:Cx} {pins:A1} {σ:St} {H:Hp} {s s':Shared}
theorem Inv.env0 (I:Inv X pins σ H s):Env0 X.prog X.w X.K X.mg X.base X.A X.stack s H :=
 ⟨I.ok.frames,I.ok.mod,I.bs,QQ I.ok.bsz I.sz,I.stack,I.stkFree,I.hok,I.bare⟩
theorem Inv.after {Q:VK} {u:Value} (I:Inv X pins σ H s) (h:CE X.stack X.prog X.w H s Q u s'):EP X pins σ Q u s':=by
 obtain⟨v,H',os,bare,un,hok,r,q⟩:=h;obtain⟨hh,g,d,t,os'⟩:=s';obtain rfl:os'=s.os:=os;exact⟨v,H',I.call (h':=hh) (g':=g) (d':=d) (t':=t) (ch:=[]) un hok bare (λb z=>absurd z (by simp)),r,q⟩
end
def eG (sp:Sp) (dvs:List V) (E:XK) (t:TA):TE:=λσ H Q=>t σ H λvs H1=>sp (vs++dvs) H1 Q E
def b9 (K:PySem.W.Frag) (fd:FuncData) (ps:List Str) (ds:List Value):Prop :=
 ∀(s:Shared) (us:List Value),K.In s.heap->(us++ds).length=ps.length->BindsTo s fd ⟨us,[]⟩ (ps.zip (us++ds))
variable {ps N:List Str}
theorem b9.all {K:PySem.W.Frag} {fd:FuncData} (h:∀us:List Value,us.length=ps.length->bindArgs fd ⟨us,[]⟩=pure (ps.zip us)):b9 K fd ps []:=λs us _ hl=>by
 rw[List.append_nil]at hl ⊢;exact .of_eq (h us hl)
def eA (CX:CXT) (X:Cx) (E:XK):Prop:=∀(pins:A1) (σ:St) (H:Hp) (s:Shared) (e:Value) (s':Shared),Inv X pins σ H s->CX X.stack H s E e s'->X.xe e s'
section
variable {X:Cx} {CX:CXT} {k:Nat} {f C:Addr} {fd:FuncData} {ps:List Str} {sp:Sp} {dvs:List V} {ds:List Value} {E:XK} {x m:Str} {p pos apos:Pos} {e o:Expr} {es:List Expr} {ta:TE} {t:TA}
theorem si {pins:A1} {σ:St} {H:Hp} {s:Shared} {Q:VK} {us:List Value} {vs:List V} (F:FnOk X.prog X.w X.K X.mg X.base CX k f fd ps sp) (hr:Room k X.A) (hb:b9 X.K fd ps ds) (hd:aM dvs ds) (hx:eA CX X E)
  (I:Inv X pins σ H s) (r:aM vs us) (h:sp (vs++dvs) H Q E):wpAny (model X.prog X.w) X.A (call (.ref f) us) (EP X pins σ Q) X.xe s:=by
 have r2:aM (vs++dvs) (us++ds):=r.append hd;have hl:(us++ds).length=ps.length:=by rw[<-r2.length];exact F.len _ _ _ _ h
 refine wpAny_call (codeAny_mono (F.run X.A X.stack s H ⟨us,[]⟩ (us++ds) (vs++dvs) Q E hr I.env0 (hb s us I.kIn hl) r2 h) λr s' hq=>?_)
 cases r with
 | error e=>exact hx pins σ H s e s' I hq
 | ok fl =>
 cases fl with
 | ret u=>exact I.after hq
 | next=>exact False.elim hq
 | brk=>exact False.elim hq
 | cont=>exact False.elim hq
theorem i_ (F:FnOk X.prog X.w X.K X.mg X.base CX k f fd ps sp) (hr:Room k X.A) (hg:Gl X x) (hm:X.mg x=some (.ref f)) (hk:PySem.W.keepIn X.K (.ref f)=true) (hb:b9 X.K fd ps ds) (hd:aM dvs ds) (hx:eA CX X E)
  (ha:PA X (e::es) t) (hdb:(x==("__debug__" : Str))=false:=by decide) (he:starEach (e::es) X.env=(false,eval e X.env)::starEach es X.env:=by rfl) (hpl:(backTo pos (starEach es X.env)).any (·.1)=false:=by rfl) :
  PE X (.Call (.Name x p) (e::es) [] pos) (eG sp dvs E t):=by
 intro pins s σ H Q I h;refine wpAny_Call_Name_kw (c_ I hg hm ?_ hdb);refine PySem.W.callWith_K (h₀:=X.base) I.ok.mod.kin hk (thn (ha pos pins s σ H _ I h) λus s1 ⟨vs,H1,I1,r,q⟩=>⟨I1.kIn,?_⟩) he hpl;exact si F hr hb hd hx I1 r q
structure Mk (K:PySem.W.Frag) (C f:Addr):Prop where
 makes:PySem.W.makesIn K C=true
 init:PySem.W.findIn K (.ref C) "__init__" = some (some (.ref f))
 fn:PySem.W.isFn K (.ref f)=true
 kp:PySem.W.keepIn K (.ref C)=true
end
def PK (X:Cx) (kws:List Keyword) (t:TA):Prop :=
 ∀(pos:Pos) (pins:A1) (s:Shared) (σ:St) (H:Hp) (Q:List V->Hp->Prop),Inv X pins σ H s->t σ H Q->wpAny (model X.prog X.w) X.A (evalAll ((backToKw pos (keywordEach kws X.env)).map (·.2))) (AP X pins σ Q) X.xe s
section
variable {X:Cx} {CX:CXT} {k:Nat} {f C:Addr} {fd:FuncData} {ps ks:List Str} {sp:Sp} {E:XK} {x m:Str} {p pos apos kpos:Pos} {e o:Expr} {es:List Expr} {kws:List Keyword} {te ta:TE} {t tk:TA} {nm:Option Str}
theorem su:PK X [] d4:=λ_ _ _ _ H Q I h=>wpAny_evalAll_nil ⟨[],H,I,.nil,h⟩
theorem pV (ha:PE X e te) (hr:PK X kws t):PK X (⟨nm,e,kpos⟩::kws) (be te t):=by
 intro pos pins s σ H Q I h;show wpAny _ _ (evalAll ((do let v <-eval e X.env;standAt pos;pure v)::(backToKw pos (keywordEach kws X.env)).map (·.2))) _ _ s;refine wpAny_evalAll_cons (Qa (thn (ha pins s σ H _ I h) λu s1 ⟨x,H1,I1,r1,q1⟩=>Qa (wpAny_standAt (Qg ?_))));exact thn (hr pos pins s1 σ H1 _ I1 q1) λus s2 ⟨xs,H2,I2,r2,q2⟩=>⟨x::xs,H2,I2,.cons r1 r2,q2⟩
structure KBinds (K:PySem.W.Frag) (fd:FuncData) (ps ks:List Str) (g:List Value->List Value->List Value) (gV:List V->List V->List V):Prop where
 to:∀(s:Shared) (us ws:List Value),K.In s.heap->(g us ws).length=ps.length->BindsTo s fd ⟨us,ks.zip ws⟩ (ps.zip (g us ws))
 rel:∀{vs:List V} {us:List Value} {zs:List V} {ws:List Value},aM vs us->aM zs ws->aM (gV vs zs) (g us ws)
variable {g:List Value->List Value->List Value} {gV:List V->List V->List V}
end
structure FnScope (N P:List Str) (sc:Scope):Prop where
 kind:sc.kind=.function
 co:sc.isCoroutine=false
 gen:sc.isGenerator=false
 nd:N.Nodup
 pre:N.take P.length=P
 par:∀x∈P,sc.names.lookup x=some .local\/sc.names.lookup x=some .cell
 nofree:∀y∈sc.names,y.2≠.free
theorem iy {kindOf:Str->Option NameKind} {x:Str}:∀{binds:List (Str × Value)} {m:A2},(∀v,(x,v)∉binds)->bindL kindOf binds m x=m x
 | [],_,_=>rfl
 | (n,v)::r,m,h=>by
  unfold bindL;rw[iy λw hw=>h w (Qp _ hw)]
  split
  ·have:x≠n:=by rintro rfl;exact h v xn
   simp[this]
  rfl
theorem iA {kindOf:Str->Option NameKind} {x:Str}:∀{binds:List (Str × Value)} {m:A2},(∀v,(x,v)∉binds)->bindC kindOf binds m x=m x
 | [],_,_=>rfl
 | (n,v)::r,m,h=>by
  unfold bindC;rw[iA λw hw=>h w (Qp _ hw)]
  split
  ·rfl
  have:x≠n:=by rintro rfl;exact h v xn
  simp[this]
theorem iz {kindOf:Str->Option NameKind} {x:Str} {v:Value}:∀{P:List Str} {vs:List Value} {i:Nat} {m:A2},P.Nodup->P[i]?=some x->vs[i]?=some v->kindOf x=some .local ->
  bindL kindOf (P.zip vs) m x=some v
 | [],_,_,_,_,h,_,_=>by simp at h
 | _::_,[],_,_,_,_,h,_=>by simp at h
 | p::P,w::vs,0,m,nd,h1,h2,hk=>by
  simp at h1 h2;subst h1;subst h2;show bindL kindOf ((p,w)::P.zip vs) m p=_;unfold bindL;rw[iy λv hv=>(xk.mp nd).1 (List.of_mem_zip hv).1,QH hk];simp
 | p::P,w::vs,i+1,m,nd,h1,h2,hk=>by
  show bindL kindOf ((p,w)::P.zip vs) m x=_;unfold bindL;exact iz (i:=i) (xk.mp nd).2 (by simpa using h1) (by simpa using h2) hk
theorem iB {kindOf:Str->Option NameKind} {x:Str} {v:Value}:∀{P:List Str} {vs:List Value} {i:Nat} {m:A2},P.Nodup->P[i]?=some x->vs[i]?=some v->kindOf x≠some .local ->
  bindC kindOf (P.zip vs) m x=some v
 | [],_,_,_,_,h,_,_=>by simp at h
 | _::_,[],_,_,_,_,h,_=>by simp at h
 | p::P,w::vs,0,m,nd,h1,h2,hk=>by
  simp at h1 h2;subst h1;subst h2;show bindC kindOf ((p,w)::P.zip vs) m p=_;unfold bindC;rw[iA λv hv=>(xk.mp nd).1 (List.of_mem_zip hv).1,QB hk];simp
 | p::P,w::vs,i+1,m,nd,h1,h2,hk=>by
  show bindC kindOf ((p,w)::P.zip vs) m x=_;unfold bindC;exact iB (i:=i) (xk.mp nd).2 (by simpa using h1) (by simpa using h2) hk
def start (N:List Str) (vs:List V):St:=vs.map some++List.replicate (N.length-vs.length) none
noncomputable def cxOf (CX:CXT) (P:Program) (w:World) (K:PySem.W.Frag) (mg:A2) (base:Heap) (N:List Str) (qual:Str) (scope:Scope) (f:Addr) (cd:Value) (A:Around) (outer:List Env) (s:Shared) (H:Hp) (E:XK):Cx where
 prog:=P
 w:=w
 K:=K
 mg:=mg
 base:=base
 A:=A.deeper (envOfC qual scope s.heap.objs.size f cd)
 N:=N
 s₀:=s
 H₀:=H
 env:=envOfC qual scope s.heap.objs.size f cd
 outer:=outer
 stack:=envOfC qual scope s.heap.objs.size f cd::outer
 ex:=[]
 calm:=true
 fn:=λ_=>true
 pn:=[]
 xe:=λe s'=>wpAny (model P w) (A.deeper (envOfC qual scope s.heap.objs.size f cd)) (leaving (envOfC qual scope s.heap.objs.size f cd) e) (λ_ s''=>CX outer H s E e s'') (λe' s''=>CX outer H s E e' s'') s'
variable {sc scope:Scope}
theorem j1 {n:Nat} {x:Str} (h:sc.names.lookup x=some .cell):∃c,(cellsFrom n sc.names []).lookup x=some c:=by
 have q:=PySem.W.cellsFrom_some sc.names n [] (.inl h);exact Option.isSome_iff_exists.mp q
theorem mY {CX:CXT} {P:Program} {w:World} {K:PySem.W.Frag} {mg:A2} {base:Heap} {qual:Str} {outer:List Env} {E:XK} {vs:List V}
  (S:FnScope N ps scope) (hd:A.handled=none) (e0:Env0 P w K mg base A outer s H) (hl:vs.length=ps.length) (r:aM vs us)
  (x:InCallC s s.heap.objs.size (bindL (envOfC qual scope s.heap.objs.size f cd).kindOf (ps.zip us) λ_=>none) (cellsFrom (s.heap.objs.size+1) scope.names []) (bindC (envOfC qual scope s.heap.objs.size f cd).kindOf (ps.zip us) λ_=>none) s1) :
  Inv (cxOf CX P w K mg base N qual scope f cd A outer s H E) [] (start N vs) H s1:=by
 have hpl:ps.length<=N.length:=by have:=congrArg List.length S.pre;rw[Qu]at this;omega
 obtain⟨h1,tk,rfl,hk⟩:=x.done;have noA:∀b:Addr,b∉(cxOf CX P w K mg base N qual scope f cd A outer s H E).ex:=λb z=>absurd (show b∈([]:A3) from z) (by simp)
 refine⟨⟨e0.mod,S.kind,rfl,rfl,Qh _,λy z c h1 h2=>?_,λy hy=>?_,λy c _ h=>?_,λ_=>hd,Around.frames_deeper e0.frames,.inr ⟨rfl,rfl⟩,λb z=>absurd z (noA b),e0.bs,e0.bsz,λb _ _=>noA b,λb z=>absurd z (noA b),e0.funs,e0.frf⟩,
  rfl,e0.bare,Un.kept hk,⟨_,x.toInCall.ns,λi y v h1 h2 h3=>?_⟩,λy c h=>⟨_,x.cell y c h⟩,e0.hok.fresh (Qh _),λy c h=>?_,λp hp=>absurd (show p∈([]:A1) from hp) (by simp),e0.hok.kept hk,?_⟩
 ·exact name_of_addr x.apart (PySem.mem_of_lookup h1) (PySem.mem_of_lookup h2)
 ·have hy:scope.names.lookup y=some .cell\/scope.names.lookup y=some .free:=hy;rcases hy with hy|hy
  ·exact j1 hy
  exact absurd rfl (S.nofree _ (PySem.mem_of_lookup hy))
 ·exact Nat.le_of_lt (x.above y c (PySem.mem_of_lookup h))
 ·have hi:i<vs.length:=by
   unfold start at h2;by_cases hi:i<vs.length
   ·exact hi
   rw[Q4 (by simpa using hi)]at h2;rw[List.getElem?_replicate]at h2
   split at h2 <;> cases h2
  have ha:vs[i]?=some v:=by
   unfold start at h2;rw[xj (by simpa using hi),Ql]at h2
   cases e:vs[i]? with
   | none=>rw[e]at h2;cases h2
   | some a=>rw[e]at h2;cases h2;rfl
  obtain⟨u,hu,rv⟩:=r.get ha
  have hp:ps[i]?=some y:=by
   rw[<-S.pre,List.getElem?_take_of_lt (by omega)];exact h1
  have ndP:ps.Nodup:=by rw[<-S.pre];exact S.nd.sublist (List.take_sublist _ _)
  refine⟨u,rv,?_⟩;rcases S.par y (QP hp) with k|k
  ·exact .inl ⟨k,iz ndP hp hu k⟩
  obtain⟨c,e⟩:=j1 (n:=s.heap.objs.size+1) k;refine .inr ⟨.inl k,c,e,?_⟩;have q:=x.cell y c e;rw[iB ndP hp hu (by show scope.names.lookup y≠_;rw[k];decide)]at q;exact q
 ·exact e0.hok.fresh (Nat.le_of_lt (x.above y c (PySem.mem_of_lookup h)))
 unfold start;show _=N.length;rw[Qi,Qb,List.length_replicate];omega
theorem eU {CX:CXT} {P:Program} {w:World} {K:PySem.W.Frag} {mg:A2} {base:Heap} {k:Nat} {name qual:Str} {params:Arguments} {body:List Stmt} {kV:Value} {an od:Option Addr}
  {osl:Array (Option Value)} {sp:Sp} (lk:K.lookup f=some ⟨oc,od,.func (PySem.W.fnOf name qual params body scope dV kV doc pm an cdv ct),osl⟩) (hcd:PySem.W.codeIn K cdv qual=true) (S:FnScope N ps scope)
  (len:∀vs H Q E,sp vs H Q E->vs.length=ps.length)
  (hbody:∀(A:Around) (outer:List Env) (s:Shared) (H:Hp) (vs:List V) (Q:VK) (E:XK),Room k (A.deeper (envOfC qual scope s.heap.objs.size f cdv))->sp vs H Q E ->
   ∃t,PSs (cxOf CX P w K mg base N qual scope f cdv A outer s H E) body t/\t { nx:=λ_ H'=>Q .non H',rt:=Q } (start N vs) H) :
  FnOk P w K mg base CX (k+1) f (PySem.W.fnOf name qual params body scope dV kV doc pm an cdv ct) ps sp:=by
 refine⟨len,λA outer s H args us vs Q E hr e0 hb r hsp=>?_⟩;have hl:=len _ _ _ _ hsp;have KX:K.In s.heap:=e0.mod.kin.keeps λb o e=>(e0.bs b o e).1;have lim:s.heap.NoLimit:=e0.mod.nolimit.keeps λb o e=>(e0.bs b o e).1
 have hkind:∀y∈ps.zip us,scope.names.lookup y.1=some .local\/(scope.names.lookup y.1=some .cell/\((cellsFrom (s.heap.objs.size+1) scope.names []).lookup y.1).isSome=true):=λ⟨n,v⟩ hy=>by
  rcases S.par n (List.of_mem_zip hy).1 with q|q
  ·exact .inl q
  exact .inr ⟨q,PySem.W.cellsFrom_some _ _ _ (.inl q)⟩
 refine codeAny_call_function hr.depth (KX _ _ lk) rfl S.co S.gen rfl (PySem.W.codeRec_of KX hcd) (hb _ _ _ _ ?_);refine wpAny_newFunctionEnv_cells S.kind hkind λenv he s1 x=>?_;subst he;refine⟨lim.keeps x.toInCall.keep,codeAny_func ?_⟩;obtain⟨t,ht,hq⟩:=hbody A outer s H vs Q E (hr.deeper _) hsp;have I:Inv (cxOf CX P w K mg base N qual scope f cdv A outer s H E) [] (start N vs) H s1:=mY S hr.hd e0 hl r x;refine Q1 (ht [] s1 (start N vs) H _ I hq) (λfl s' hs=>?_) λe s' hs=>hs
 have fin:∀{σ':St} {H':Hp} {v:V} {u:Value},Inv (cxOf CX P w K mg base N qual scope f cdv A outer s H E) [] σ' H' s'->aU v u->Q v H'->CE outer P w H s Q u s' :=
  λ{σ' H' v u} J rv q=>⟨v,H',J.os,J.bare,J.base,J.hok,rv,q⟩
 cases fl with
 | ret u =>
  obtain⟨v,σ',H',J,rv,q⟩:=hs;exact fin J rv q
 | next =>
  obtain⟨σ',H',J,q⟩:=hs;exact fin (v:=V.non) (u:=Value.none) J rfl q
 | brk =>
  obtain⟨_,_,_,q⟩:=hs;exact False.elim q
 | cont =>
 obtain⟨_,_,_,q⟩:=hs;exact False.elim q
section
variable {X:Cx} {x:Str} {p pos:Pos} {e:Expr} {es:List Expr} {t:TA} {id T:String} {r:List V->Hp->VK->Prop}
def tCB (r:List V->Hp->VK->Prop) (t:TA):TE:=λσ H Q=>t σ H λvs H1=>r vs H1 Q
theorem au (hc:cD X (.builtin id) r) (hg:Gl X x) (hm:X.mg x=none) (hv:bootBuiltins x=some (.builtin id)) (ha:PA X (e::es) t) (hn:x ≠ "__name__" := by decide) (hdb:(x==("__debug__" : Str))=false:=by decide)
  (he:starEach (e::es) X.env=(false,eval e X.env)::starEach es X.env:=by rfl) (hpl:(backTo pos (starEach es X.env)).any (·.1)=false:=by rfl):PE X (.Call (.Name x p) (e::es) [] pos) (tCB r t):=by
 intro pins s σ H Q I h;refine wpAny_Call_Name_kw (cO I hg hm hv ?_ hn hdb);exact PyProof.Rows.callWith_builtin1 (thn (ha pos pins s σ H _ I h) λus s1 ⟨vs,H1,I1,r1,q1⟩=>hc pins s1 σ H1 vs us Q I1 r1 q1) he hpl
theorem bK (hc:cD X (.type T) r) (hg:Gl X x) (hm:X.mg x=none) (hv:bootBuiltins x=some (.type T)) (ha:PA X (e::es) t) (hn:x ≠ "__name__" := by decide) (hdb:(x==("__debug__" : Str))=false:=by decide)
  (he:starEach (e::es) X.env=(false,eval e X.env)::starEach es X.env:=by rfl) (hpl:(backTo pos (starEach es X.env)).any (·.1)=false:=by rfl):PE X (.Call (.Name x p) (e::es) [] pos) (tCB r t):=by
 intro pins s σ H Q I h;refine wpAny_Call_Name_kw (cO I hg hm hv ?_ hn hdb);exact Q3 (thn (ha pos pins s σ H _ I h) λus s1 ⟨vs,H1,I1,r1,q1⟩=>hc pins s1 σ H1 vs us Q I1 r1 q1) he hpl
end
end L2
namespace HT
open PySem PyProof.Rows
section
open PySem.SeqAt
open PySem.AutoSeq1 (wpAny_loadPart')
open PySem.MeetsSeq PySem.MeetsSeq2 PySem.MeetsSeq3
end
section
variable {prog:Program} {w:World} {A:Around} {E:A0} {s:Shared}
def sIx (n d:Nat):Option Int->Nat
 | none=>d
 | some v=>if v<0 then (v+(n:Int)).toNat else min v.toNat n
theorem f6 (n d:Nat):sIx n d none=d:=rfl
theorem cX (n d k:Nat):sIx n d (some (k:Int))=min k n:=by
 show (if (k:Int)<0 then ((k:Int)+(n:Int)).toNat else min (k:Int).toNat n)=min k n;rw[QB (by omega),xa]
end
end HT
namespace L2
open PySem PySem.Spec PyProof.Rows
abbrev TO:=St->Hp->(Option Int->Hp->Prop)->Prop
def PO (X:Cx) (e:Option Expr) (t:TO):Prop :=
 ∀(pins:A1) (s:Shared) (σ:St) (H:Hp) (Q:Option Int->Hp->Prop),Inv X pins σ H s->t σ H Q ->
  wpAny (model X.prog X.w) X.A (evalPart e X.env) (λu s'=>∃o H',Inv X pins σ H' s'/\IsPart u o/\Q o H') X.xe s
def lw:TO:=λ_ H Q=>Q none H
def qU (t:TE):TO:=λσ H Q=>t σ H λx H1=>∃i,x=.int i/\Q (some i) H1
section
variable {X:Cx} {e:Expr} {te:TE} {lo hi:Option Expr} {tl th:TO} {pos p2:Pos}
theorem aX:PO X none lw:=by
 intro pins s σ H Q I h;rw[evalPart_none];exact Qg ⟨none,H,I,.none,h⟩
theorem aS (h:PE X e te):PO X (some e) (qU te):=by
 intro pins s σ H Q I hw;rw[evalPart_some];refine thn (h pins s σ H _ I hw) λu s1 ⟨x,H1,I1,r1,q1⟩=>?_;obtain⟨i,rfl,q⟩:=q1;obtain⟨t,rfl⟩:=r1;exact⟨some i,H1,I1,.int i t,q⟩
def SlR (X:Cx) (r:V->Option Int->Option Int->Hp->VK->Prop):Prop :=
 ∀(pins:A1) (s:Shared) (σ:St) (H:Hp) (x:V) (v vl vu:Value) (lo hi:Option Int) (sl:Addr) (Q:VK),Inv X pins σ H s->aU x v->s.heap.IsSliceOf sl vl vu .none->IsPart vl lo->IsPart vu hi->r x lo hi H Q ->
  ∃T id,typeLookup (.type T) "__getitem__" = pure (some (.builtin id))/\s.TypeIs v T/\wpAny (model X.prog X.w) X.A (getItem v (.ref sl)) (EP X pins σ Q) X.xe s
def tSl (r:V->Option Int->Option Int->Hp->VK->Prop) (te:TE) (tl th:TO):TE:=λσ H Q=>te σ H λx H1=>tl σ H1 λl H2=>th σ H2 λu H3=>r x l u H3 Q
theorem aK {r:V->Option Int->Option Int->Hp->VK->Prop} (hr:SlR X r) (he:PE X e te) (hl:PO X lo tl) (hu:PO X hi th):PE X (.Subscript e (.Slice lo hi none p2) pos) (tSl r te tl th):=by
 intro pins s σ H Q I h;refine Subscript_ (thn (he pins s σ H _ I h) λv s1 ⟨x,H1,I1,r1,q1⟩=>?_);refine wpAny_Slice (thn (hl pins s1 σ H1 _ I1 q1) λvl s2 ⟨l,H2,I2,pl,q2⟩=>thn (hu pins s2 σ H2 _ I2 q2) λvu s3 ⟨u,H3,I3,pu,q3⟩=>?_);rw[evalPart_none];refine Qg ?_;have I4:Inv X pins σ H3 { s3 with heap:=s3.heap.push { cls:=.type "slice", data:=.fields #[vl,vu,.none] } }:=I3.kept (t':=s3.toks) λb ob q=>Qc _ q;obtain⟨T,id,hT,ht,hg⟩:=hr pins { s3 with heap:=s3.heap.push { cls:=.type "slice", data:=.fields #[vl,vu,.none] } } σ H3 x v vl vu l u s3.heap.objs.size Q I4 r1 (Heap.IsSliceOf.new ..) pl pu q3;show wpAny (model X.prog X.w) X.A (subscriptTail e (.Slice lo hi none p2) v (.ref s3.heap.objs.size)) (EP X pins σ Q) X.xe { s3 with heap:=s3.heap.push { cls:=.type "slice", data:=.fields #[vl,vu,.none] } };exact tail_any (ops:=[.ref s3.heap.objs.size,v]) ht hT hg (by with_unfolding_all rfl)
def cP (xs:List V) (lo hi:Option Int):List V:=(xs.drop (HT.sIx xs.length 0 lo)).take (HT.sIx xs.length xs.length hi-HT.sIx xs.length 0 lo)
theorem fu (xs:List V) (lo hi:Option Int):(cP xs lo hi).length<=xs.length:=by
 unfold cP;rw[Qu,QU];omega
end
def ixN (n:Nat) (i:Int):Option Nat:=if 0<=i then (if i<n then some i.toNat else none) else if -(n:Int)<=i then some (i+n).toNat else none
def atI {α:Type} (xs:List α) (i:Int):Option α:=(ixN xs.length i).bind λj=>xs[j]?
theorem lT {n:Nat} {i:Int} {j:Nat} (h:ixN n i=some j):seqIndex? i n=some j/\j<n/\-(n:Int)<=i/\i<n:=by
 unfold ixN at h;by_cases h0:0<=i
 ·rw[QH h0]at h;by_cases h1:i<n
  ·rw[QH h1]at h;have e:i.toNat=j:=QO h;exact⟨by rw[seqIndex_of h0 h1,e],by omega,by omega,h1⟩
  rw[QB h1]at h;cases h
 rw[QB h0]at h;by_cases h1:-(n:Int)<=i
 ·rw[QH h1]at h;have e:(i+n).toNat=j:=QO h;exact⟨by rw[seqIndex_neg (by omega) h1,e],by omega,h1,by omega⟩
 rw[QB h1]at h;cases h
theorem jk {α:Type} {xs:List α} {i:Int} {v:α} (h:atI xs i=some v):∃j,seqIndex? i xs.length=some j/\xs[j]?=some v/\j<xs.length/\-(xs.length:Int)<=i/\i<xs.length:=by
 unfold atI at h
 cases e:ixN xs.length i with
 | none=>rw[e]at h;cases h
 | some j =>
 rw[e]at h;obtain⟨h1,h2,h3,h4⟩:=lT e;exact⟨j,h1,h,h2,h3,h4⟩
theorem a_ {α:Type} {xs:List α} {j:Nat} {v:α} (h:xs[j]?=some v):atI xs (j:Int)=some v:=by
 have hj:j<xs.length:=(Qf.mp h).1
 have e:ixN xs.length (j:Int)=some j:=by
  unfold ixN;rw[QH (by omega),QH (by omega)];simp
 unfold atI;rw[e];exact h
def qO (b:Expr):Prop:=∀o i,subscripted b false o i=operate [o,i] (getItem o i)
def IxR (X:Cx) (r:R2):Prop :=
 ∀(value slice:Expr) (pins:A1) (s:Shared) (σ:St) (H:Hp) (x y:V) (v u:Value) (Q:VK),Inv X pins σ H s->aU x v->aU y u->r x y H Q ->
  subscripted slice false v u=operate [v,u] (getItem v u)->wpAny (model X.prog X.w) X.A (subscriptTail value slice v u) (EP X pins σ Q) X.xe s
def MtR (X:Cx) (id:String) (r:V->List V->Hp->VK->Prop):Prop :=
 ∀(pins:A1) (s:Shared) (σ:St) (H:Hp) (x:V) (xs:List V) (v:Value) (us:List Value) (Q:VK),Inv X pins σ H s->aU x v->aM xs us->r x xs H Q ->
  wpAny (model X.prog X.w) X.A (call (.builtin id) (v::us)) (EP X pins σ Q) X.xe s
section
variable {X:Cx} {a b:Expr} {ta tb:TE} {pos:Pos}
theorem al {r:R2} (hr:IxR X r) (ha:PE X a ta) (hb:PE X b tb) (hs:qO b:=by exact λ_ _=>rfl):PE X (.Subscript a b pos) (tOp r ta tb):=by
 intro pins s σ H Q I h;exact Subscript_ (s0 ha hb I h λv u s2 x y H2 I2 rx ry q=>hr a b pins s2 σ H2 x y v u Q I2 rx ry q (hs _ _))
def kA (K:PySem.W.Frag):R2:=λx y H Q=>∃p xs i v,x=.ref p/\y=.int i/\SqL K H p xs/\atI xs i=some v/\Q v H
def jL (K:PySem.W.Frag):R2:=λx y H Q=>∃p xs i v,x=.ref p/\y=.int i/\SqT K H p xs/\atI xs i=some v/\Q v H
def tS:R2:=λx y H Q=>∃z i c,x=.str z/\y=.int i/\z.length<=sizeLine/\atI z.cps.toList i=some c/\Q (.str ⟨#[c]⟩) H
theorem ao:IxR X (kA X.K):=by
 intro value slice pins s σ H x y v u Q I rx ry h hs;obtain⟨p,xs,i,z,rfl,rfl,hq,he,q⟩:=h;cases rx;obtain⟨t,rfl⟩:=ry;obtain⟨its,r,pl,hz⟩:=I.list hq;obtain⟨j,h1,h2,h3,h4,h5⟩:=jk he;obtain⟨w,ew,rw'⟩:=r.get h2;have hl:=r.length;have hn:=fm;have fin:EP X pins σ Q w s:=⟨z,H,I,rw',q⟩;by_cases h0:0<=i
 ·have hj:i.toNat=j:=by
   rw[seqIndex_of h0 h5]at h1;exact QO h1
  exact item_listR pl.isList h0 (by omega) (by rw[hj];simpa using ew) fin hs
 have hj:(i+(its.toArray.size:Int)).toNat=j:=by
  rw[seqIndex_neg (by omega) h4]at h1;rw[Qe,<-hl];exact QO h1
 exact subscriptTail_builtinR (x:=w) pl.isList.typeIs slot_list_getitem.lookup
  (wpAny_getItem_list_neg (Q:=λr s'=>r=w/\EP X pins σ Q r s') pl.isList (by omega) (by rw[Qe] <;> omega) (by omega) (by rw[hj];simpa using ew) ⟨rfl,fin⟩) hs
theorem aR:IxR X (jL X.K):=by
 intro value slice pins s σ H x y v u Q I rx ry h hs;obtain⟨p,xs,i,z,rfl,rfl,hq,he,q⟩:=h;cases rx;obtain⟨t,rfl⟩:=ry;obtain⟨its,r,pl,hz⟩:=I.tuple hq;obtain⟨j,h1,h2,h3,h4,h5⟩:=jk he;obtain⟨w,ew,rw'⟩:=r.get h2;have hl:=r.length;have hn:=fm;have fin:EP X pins σ Q w s:=⟨z,H,I,rw',q⟩
 exact subscriptTail_builtinR (x:=w) pl.typeIs slot_tuple_getitem.lookup
  (getItem_tuple (j:=j) (Q:=λr s'=>r=w/\EP X pins σ Q r s') pl (by omega) (by omega) (by rw[Qe,<-hl];exact h1) (by simpa using ew) ⟨rfl,fin⟩) hs
theorem cB:IxR X tS:=by
 intro value slice pins s σ H x y v u Q I rx ry h hs;obtain⟨z,i,c,rfl,rfl,hz,he,q⟩:=h;obtain⟨t,rfl⟩:=rx;obtain⟨t',rfl⟩:=ry;obtain⟨j,h1,h2,h3,h4,h5⟩:=jk he;have hl:z.cps.toList.length=z.length:=by simp[Str.length]
 rw[hl]at h1 h4 h5;have hn:=fm
 exact tail_any (typeIs_str s z t) slot_str_getitem.lookup (getItem_str (c:=c) (by
  have e1:decide (i < -(2 ^ 63:Int))=false:=xf (by omega);have e2:decide (i>=2 ^ 63)=false:=xf (by omega)
  rw[e1,e2,Bool.or_false]) (by rw[h1];simpa using h2) ⟨.str ⟨#[c]⟩,H,I.tok _,⟨_,rfl⟩,q⟩) hs
theorem kN (its:List Value) (n j:Nat) (u:Value):Obj.mapSeq (·.setIfInBounds j u) { cls:=.type "list", data:=.seq its.toArray n }={ cls:=.type "list", data:=.seq (its.set j u).toArray n }:=by
 simp[Obj.mapSeq]
variable {s:Shared} {pins:A1}
theorem Inv.lst {σ:St} {H:Hp} {p:Addr} {xs:List V} (I:Inv X pins σ H s) (h:H p=some (.lst xs)) :
  ∃(its:List Value) (n:Nat),aM xs its/\s.heap.get? p=some { cls:=.type "list", data:=.seq its.toArray n }/\xs.length<=sizeLine:=by
 obtain⟨z,its,n,r,e⟩:=I.hok p _ h;exact⟨its,n,r,e,z⟩
theorem Inv.lstUpd {σ:St} {H:Hp} {p:Addr} {xs ys:List V} {its its':List Value} {n n':Nat} {f:Obj->Obj} (I:Inv X pins σ H s) (h:H p=some (.lst xs))
  (ho:s.heap.get? p=some { cls:=.type "list", data:=.seq its.toArray n }) (hf:f { cls:=.type "list", data:=.seq its.toArray n }={ cls:=.type "list", data:=.seq its'.toArray n' }) (r:aM ys its') (hz:ys.length<=sizeLine) (t:Nat) :
  Inv X pins σ (upd H p (.lst ys)) { s with heap:=s.heap.update p f,toks:=t }:=by
 have e:(s.heap.update p f).get? p=some { cls:=.type "list", data:=.seq its'.toArray n' }:=by
  rw[QI f ho (by rw[hf] <;> rfl),hf]
 refine I.write (x:=p) (e:=p) (by rw[h];trivial) (.inl rfl) (λb u hb q=>(Qj _ _ (QT hb)).trans q) ⟨_,e⟩ ?_;exact⟨hz,its',n',r,e⟩
def re:V->V->V->Hp->(Hp->Prop)->Prop:=λo i v H Q=>∃p xs k j,o=.ref p/\i=.int k/\H p=some (.lst xs)/\ixN xs.length k=some j/\Q (upd H p (.lst (xs.set j v)))
theorem jC:uV X re:=by
 intro pins s σ H o i v ov iv u Q I ro ri rv h;obtain⟨p,xs,k,j,rfl,rfl,hp,hj,q⟩:=h;cases ro;obtain⟨t,rfl⟩:=ri;obtain⟨its,n,r,ho,hz⟩:=I.lst hp;obtain⟨h1,h2,h3,h4⟩:=lT hj;have hl:=r.length;have hn:=fm
 have I':Inv X pins σ (upd H p (.lst (xs.set j v))) { s with heap:=s.heap.update p (Obj.mapSeq (·.setIfInBounds j u)) } :=
  I.lstUpd hp ho (kN its n j u) (r.set rv j) (by rw[List.length_set];exact hz) s.toks
 by_cases h0:0<=k
 ·have hk:k.toNat=j:=by
   rw[seqIndex_of h0 h4]at h1;exact QO h1
  exact PySem.W.ki_setAt ho h0 (by omega) (by rw[Qe,<-hl];exact h4) (by rw[hk];exact⟨_,I',q⟩)
 have hk:(k+(its.toArray.size:Int)).toNat=j:=by
  rw[seqIndex_neg (by omega) h3]at h1;rw[Qe,<-hl];exact QO h1
 exact PySem.W.ki_setBack ho (by omega) (by rw[Qe,<-hl];exact h3) (by omega) (by rw[hk];exact⟨_,I',q⟩)
theorem rb (i:Int) (n:Nat):max 0 (min (if i<0 then i+(n:Int) else i) (n:Int))=(((if i<0 then (i+(n:Int)).toNat else min i.toNat n):Nat):Int):=by
 by_cases h:i<0
 ·rw[QH h,QH h,Int.min_eq_left (by omega)];omega
 obtain⟨k,rfl⟩:=Int.eq_ofNat_of_zero_le (Int.not_lt.mp h);rw[QB h,QB h,xa];omega
theorem iM (lo hi:Option Int) (n:Nat):(sliceBounds lo hi none n).1=((HT.sIx n 0 lo:Nat):Int)/\(sliceBounds lo hi none n).2.1=((HT.sIx n n hi:Nat):Int)/\(sliceBounds lo hi none n).2.2=1:=by
 refine⟨?_,?_,rfl⟩
 ·cases lo with
  | none=>simp[sliceBounds,HT.sIx]
  | some i =>
   simp only[sliceBounds,HT.sIx,Option.getD_none,show (1:Int)>0 by decide,if_true];exact rb i n
 cases hi with
 | none=>simp[sliceBounds,HT.sIx]
 | some i =>
 simp only[sliceBounds,HT.sIx,Option.getD_none,show (1:Int)>0 by decide,if_true];exact rb i n
theorem gJ (its:List Value) (lo hi:Option Int):slicePick its.toArray lo hi none=((its.drop (HT.sIx its.length 0 lo)).take (HT.sIx its.length its.length hi-HT.sIx its.length 0 lo)).toArray:=by
 obtain⟨h1,h2,h3⟩:=iM lo hi its.toArray.size;unfold slicePick;rw[h1,h2,h3];simp only[sliceRange_one,pick_run,Qe] <;> rfl
def sk (K:PySem.W.Frag):V->Option Int->Option Int->Hp->VK->Prop:=λx lo hi H Q=>∃a xs,x=.ref a/\SqL K H a xs/\∀p,H p=none->Q (.ref p) (upd H p (.lst (cP xs lo hi)))
theorem bH:SlR X (sk X.K):=by
 intro pins s σ H x v vl vu lo hi sl Q I rx hs pl pu h;obtain⟨a,xs,rfl,hx,q⟩:=h;cases rx;obtain⟨its,r,ht,hz⟩:=I.list hx;have hlen:=r.length;refine⟨"list", _,slot_list_getitem.lookup,ht.isList.typeIs,?_⟩;refine wpAny_getItem_list_slice ht.isList hs pl pu .none (by simp) ?_ (by rw[Qe] <;> omega);rw[gJ,<-hlen];refine⟨.ref s.heap.objs.size,_,I.laid (t':=s.toks) (o:=.lst (cP xs lo hi)) (λb ob q=>Qc _ q) (Qh _) ?_,rfl,q _ (I.hok.fresh (Qh _))⟩;exact⟨QQ (fu xs lo hi) hz,_,0,(r.drop (HT.sIx xs.length 0 lo)).take (HT.sIx xs.length xs.length hi-HT.sIx xs.length 0 lo),Qn _ rfl⟩
def cC:V->Bool
 | .non=>true
 | .bl _=>true
 | .int _=>true
 | .str _=>true
 | _=>false
def eqV:V->V->Bool
 | .non,.non=>true
 | .bl a,.bl b=>a==b
 | .bl a,.int b=>(if a then 1 else 0)==b
 | .int a,.bl b=>a==(if b then 1 else 0)
 | .int a,.int b=>a==b
 | .str a,.str b=>a==b
 | _,_=>false
variable {u v:Value}
theorem o9 {A:Around} {y x:V} (ry:aU y u) (rx:aU x v) (fy:cC y=true) (fx:cC x=true):SeqAt.EqAt A s u v (eqV y x):=by
 cases y with
 | non =>
  cases ry
  cases x with
  | non=>cases rx;exact SeqAt.EqAt.same _
  | bl b=>cases rx;exact SeqAt.EqAt.none_bool b
  | int b=>obtain⟨t,rfl⟩:=rx;exact SeqAt.EqAt.none_int b t
  | str b=>obtain⟨t,rfl⟩:=rx;exact SeqAt.EqAt.none_str b t
  | _=>exact absurd (show false=true from fx) Qm
 | bl a =>
  cases ry
  cases x with
  | non=>cases rx;exact SeqAt.EqAt.bool_none a
  | bl b=>cases rx;exact SeqAt.EqAt.bool_bool a b
  | int b=>obtain⟨t,rfl⟩:=rx;exact SeqAt.EqAt.bool_int a b t
  | str b=>obtain⟨t,rfl⟩:=rx;exact SeqAt.EqAt.bool_str a b t
  | _=>exact absurd (show false=true from fx) Qm
 | int a =>
  obtain⟨t',rfl⟩:=ry
  cases x with
  | non=>cases rx;exact SeqAt.EqAt.int_none a t'
  | bl b=>cases rx;exact SeqAt.EqAt.int_bool a t' b
  | int b=>obtain⟨t,rfl⟩:=rx;exact SeqAt.EqAt.int_int a t' b t
  | str b=>obtain⟨t,rfl⟩:=rx;exact SeqAt.EqAt.int_str a t' b t
  | _=>exact absurd (show false=true from fx) Qm
 | str a =>
  obtain⟨t',rfl⟩:=ry
  cases x with
  | non=>cases rx;exact SeqAt.EqAt.str_none a t'
  | bl b=>cases rx;exact SeqAt.EqAt.str_bool a t' b
  | int b=>obtain⟨t,rfl⟩:=rx;exact SeqAt.EqAt.str_int a t' b t
  | str b=>obtain⟨t,rfl⟩:=rx;exact SeqAt.EqAt.str_str a t' b t
  | _=>exact absurd (show false=true from fx) Qm
 | _=>exact absurd (show false=true from fy) Qm
def eqU (x:V) (u:Value):Bool:=match u with
 | .none=>eqV .non x
 | .bool b=>eqV (.bl b) x
 | .int i _=>eqV (.int i) x
 | .str z _=>eqV (.str z) x
 | _=>false
theorem o8 {x y:V} (r:aU y u) (f:cC y=true):eqU x u=eqV y x:=by
 cases y with
 | non=>cases r;rfl
 | bl b=>cases r;rfl
 | int i=>obtain⟨t,rfl⟩:=r;rfl
 | str z=>obtain⟨t,rfl⟩:=r;rfl
 | _=>exact absurd (show false=true from f) Qm
theorem eW {x:V}:∀{xs:List V} {us:List Value},aM xs us->xs.all cC=true->us.any (eqU x)=xs.any λy=>eqV y x
 | _,_,.nil,_=>rfl
 | y::xs,u::us,.cons r t,f=>by
  rw[List.all_cons,xp]at f;rw[List.any_cons,List.any_cons,o8 r f.1,eW t f.2]
theorem dE {A:Around} {s:Shared} {x:V} {v:Value} (rx:aU x v) (fx:cC x=true):∀{xs:List V} {us:List Value},aM xs us->xs.all cC=true->∀u∈us,SeqAt.EqAt A s u v (eqU x u)
 | _,_,.nil,_=>λu hu=>by cases hu
 | y::xs,u::us,.cons r t,f=>λu' hu=>by
  rw[List.all_cons,xp]at f;rcases Q5.mp hu with rfl|hu
  ·rw[o8 r f.1];exact o9 r rx f.1 fx
  exact dE rx fx t f.2 u' hu
def inV (x:V) (xs:List V):Bool:=xs.any λy=>eqV y x
def rIn (K:PySem.W.Frag) (neg:Bool):R2:=λx y H Q=>∃p xs,y=.ref p/\(SqL K H p xs\/SqT K H p xs)/\cC x=true/\xs.all cC=true/\Q (.bl (if neg then !inV x xs else inV x xs)) H
theorem ig:OpR X (compareOp .In) (rIn X.K false):=by
 intro pins s σ H x y v u Q I rx ry h;obtain⟨p,xs,rfl,hq,fx,fs,q⟩:=h;cases ry;rcases hq with hq|hq
 ·obtain⟨its,r,pl,hz⟩:=I.list hq;refine SeqAt.in_listAt (eqU x) pl.isList (λw hw=>dE rx fx r fs w (by simpa using hw)) ⟨.bl _,H,I,rfl,?_⟩;rw[show its.toArray.any (eqU x)=its.any (eqU x) by simp,eW r fs];exact q
 obtain⟨its,r,pl,hz⟩:=I.tuple hq;refine SeqAt.in_tupleAt (eqU x) pl (λw hw=>dE rx fx r fs w (by simpa using hw)) ⟨.bl _,H,I,rfl,?_⟩;rw[show its.toArray.any (eqU x)=its.any (eqU x) by simp,eW r fs];exact q
theorem jc:OpR X (compareOp .NotIn) (rIn X.K true):=by
 intro pins s σ H x y v u Q I rx ry h;obtain⟨p,xs,rfl,hq,fx,fs,q⟩:=h;cases ry;rcases hq with hq|hq
 ·obtain⟨its,r,pl,hz⟩:=I.list hq;refine SeqAt.notIn_listAt (eqU x) pl.isList (λw hw=>dE rx fx r fs w (by simpa using hw)) ⟨.bl _,H,I,rfl,?_⟩;rw[show its.toArray.any (eqU x)=its.any (eqU x) by simp,eW r fs];exact q
 obtain⟨its,r,pl,hz⟩:=I.tuple hq;refine SeqAt.notIn_tupleAt (eqU x) pl (λw hw=>dE rx fx r fs w (by simpa using hw)) ⟨.bl _,H,I,rfl,?_⟩;rw[show its.toArray.any (eqU x)=its.any (eqU x) by simp,eW r fs];exact q
theorem aA:cD X (.builtin "len") (λxs H Q=>∃p ys,xs=[.ref p]/\(SqL X.K H p ys\/SqT X.K H p ys)/\Q (.int ys.length) H):=by
 intro pins s σ H xs us Q I r h;obtain⟨p,ys,rfl,hq,q⟩:=h;obtain⟨u,rfl,rx⟩:=dg r;cases rx;have hn:=fm;rcases hq with hq|hq
 ·obtain⟨its,r',pl,hz⟩:=I.list hq;have hlen:=r'.length;exact Calls.call_len_list pl.isList (by simp only[Qe] <;> omega) ⟨.int ys.length,H,I.tok _,⟨s.toks+1,by rw[Qe,hlen]⟩,q⟩
 obtain⟨its,r',pl,hz⟩:=I.tuple hq;have hlen:=r'.length;exact len_tuple pl (by simp only[Qe] <;> omega) ⟨.int ys.length,H,I.tok _,⟨s.toks+1,by rw[Qe,hlen]⟩,q⟩
theorem cr:cD X (.builtin "len") (λxs H Q=>∃z,xs=[.str z]/\z.length<=sizeLine/\Q (.int z.length) H):=by
 intro pins s σ H xs us Q I r h;obtain⟨z,rfl,hz,q⟩:=h;obtain⟨u,rfl,t,rfl⟩:=dg r;have hn:=fm;exact len_str (by omega) ⟨.int z.length,H,I.tok _,⟨_,rfl⟩,q⟩
theorem bY:cD X (.type "list") (λxs H Q=>∃p ys,xs=[.ref p]/\(SqL X.K H p ys\/SqT X.K H p ys)/\∀l,H l=none->Q (.ref l) (upd H l (.lst ys))):=by
 intro pins s σ H xs us Q I r h;obtain⟨p,ys,rfl,hq,q⟩:=h;obtain⟨u,rfl,rx⟩:=dg r;cases rx
 have fin:∀(its:List Value),aM ys its->ys.length<=sizeLine->∀(h':Heap) (c':Nat),(∀b o',s.heap.get? b=some o'->h'.get? b=some o') ->
   h'.get? s.heap.objs.size=some { cls:=.type "list", dict:=none,data:=.seq its.toArray c',slots:=#[] }->EP X pins σ Q (.ref s.heap.objs.size) { s with heap:=h' }:=λits r' hz h' c' kp e =>
  ⟨.ref s.heap.objs.size,_,I.laid (t':=s.toks) kp (Qh _) (show ba X.prog X.w _ h' _ (.lst ys) from⟨hz,its,c',r',e⟩),rfl,q _ (I.hok.fresh (Qh _))⟩
 rcases hq with hq|hq
 ·obtain⟨its,r',pl,hz⟩:=I.list hq;have hlen:=r'.length;obtain⟨o,ho,hc,n,hd⟩:=pl.isList;exact call_list_seq p (.inl rfl) ho hc hd (λh' c' kp e=>fin its r' hz h' c' kp e) (by simp only[Qe] <;> omega)
 obtain⟨its,r',pl,hz⟩:=I.tuple hq;have hlen:=r'.length;obtain⟨o,ho,hc,n,hd⟩:=pl;exact call_list_seq p (.inr rfl) ho hc hd (λh' c' kp e=>fin its r' hz h' c' kp e) (by simp only[Qe] <;> omega)
theorem gU:cD X (.type "tuple") (λxs H Q=>∃p ys,xs=[.ref p]/\((SqL X.K H p ys/\∀l,H l=none->Q (.ref l) (upd H l (.tup ys)))\/(SqT X.K H p ys/\Q (.ref p) H))):=by
 intro pins s σ H xs us Q I r h;obtain⟨p,ys,rfl,h⟩:=h;obtain⟨u,rfl,rx⟩:=dg r;cases rx;rcases h with⟨hq,q⟩|⟨hq,q⟩
 ·obtain⟨its,r',pl,hz⟩:=I.list hq;have hlen:=r'.length;refine call_tuple_list pl.isList (λh' kp=>?_) (by simp only[Qe] <;> omega);have I1:Inv X pins σ H { s with heap:=h' }:=I.kept (t':=s.toks) kp
  have I2:Inv X pins σ (upd H h'.objs.size (.tup ys)) { s with heap:=h'.push { cls:=.type "tuple", data:=.seq its.toArray } } :=
   I1.laid (t':=s.toks) (λb o e=>Qc _ e) (Qh _) (show ba X.prog X.w _ _ _ (.tup ys) from⟨hz,its,r',IsTup.new _ _⟩)
  exact⟨.ref h'.objs.size,_,I2,rfl,q _ (I1.hok.fresh (Qh _))⟩
 obtain⟨its,r',pl,hz⟩:=I.tuple hq;exact call_tuple_same pl ⟨.ref p,H,I,rfl,q⟩
def tyV (K:PySem.W.Frag) (T:String) (x:V) (H:Hp):Prop:=match x with
 | .str _=>T = "str"
 | .int _=>T = "int"
 | .ref p=>(T = "list" /\ ∃xs,SqL K H p xs)\/(T = "tuple" /\ ∃o,K.lookup p=some o/\o.cls=.type "tuple" /\ o.dict=none) \/
   (T = "dict" /\ ((∃kvs,H p=some (.dK kvs))\/∃kvs,H p=some (.dT kvs)))\/(T = "set" /\ ∃S n,H p=some (.set S n))
 | _=>False
theorem nF {σ:St} {H:Hp} {T:String} {x:V} (I:Inv X pins σ H s) (r:aU x v) (ty:tyV X.K T x H) :
  s.TypeIs v T/\∀a,v=.ref a->∃ob,s.heap.get? a=some ob/\ob.dict=none:=by
 cases x with
 | str z =>
  obtain⟨t,rfl⟩:=r;cases (show T = "str" from ty);exact⟨typeIs_str s z t,λ_ e=>nomatch e⟩
 | int i =>
  obtain⟨t,rfl⟩:=r;cases (show T = "int" from ty);exact⟨typeIs_int s i t,λ_ e=>nomatch e⟩
 | ref p =>
  cases r;rcases ty with⟨rfl,xs,hq⟩|⟨rfl,o,hk,hc,hd⟩|⟨rfl,hk⟩|⟨rfl,S,n,hk⟩
  ·obtain⟨its,_,pl,_⟩:=I.list hq;refine⟨pl.isList.typeIs,λa e=>?_⟩;cases e;obtain⟨o,n,e,c,hd,_⟩:=pl;exact⟨o,e,hd⟩
  ·refine⟨⟨o,I.kIn p o hk,hc⟩,λa e=>?_⟩;cases e;exact⟨o,I.kIn _ o hk,hd⟩
  ·have z:∃o,s.heap.get? p=some o/\o.ExactDict:=by
    rcases hk with⟨kvs,hk⟩|⟨kvs,hk⟩
    ·obtain⟨_,_,_,_,o,_,_,e,ex,_⟩:=I.hok p _ hk;exact⟨o,e,ex⟩
    obtain⟨_,_,_,_,o,_,_,e,ex,_⟩:=I.hok p _ hk;exact⟨o,e,ex⟩
   obtain⟨o,e,ex⟩:=z;refine⟨⟨o,e,ex.1⟩,λa e2=>?_⟩;cases e2;exact⟨o,e,ex.2.1⟩
  obtain⟨o,_,_,_,e,ex,_⟩:=I.hok p _ hk;refine⟨⟨o,e,ex.1⟩,λa e2=>?_⟩;cases e2;exact⟨o,e,ex.2.1⟩
 | _=>exact False.elim ty
def u8 (K:PySem.W.Frag) (T:String) (r:V->List V->Hp->VK->Prop) (to:TE):TE:=λσ H Q=>to σ H λx H1=>tyV K T x H1/\r x [] H1 Q
def tBM (K:PySem.W.Frag) (T:String) (r:V->List V->Hp->VK->Prop) (to:TE) (t:TA):TE:=λσ H Q=>to σ H λx H1=>tyV K T x H1/\t σ H1 λxs H2=>r x xs H2 Q
variable {o e:Expr} {es:List Expr} {to:TE} {t:TA} {name:Str} {apos cpos:Pos} {T id:String} {r:V->List V->Hp->VK->Prop}
theorem sC (pa:PlainAttrs T) (slot:Slot T name id) (hty:typeOf (.builtin id)=pure (.type "method_descriptor")) (hm:MtR X id r) (ho:PE X o to)
  (hbase:attributeBase o name X.env (eval o X.env)=eval o X.env:=by rfl) (hline:(apos.endLine==cpos.line)=true:=by rfl):PE X (.Call (.Attribute o name apos) [] [] cpos) (u8 X.K T r to):=by
 intro pins s σ H Q I h;refine wpAny_Call_method0_late hbase hline (thn (ho pins s σ H _ I h) λv s1 ⟨x,H1,I1,r1,ty,q1⟩=>?_);obtain⟨h1,h2⟩:=nF I1 r1 ty;exact⟨T,id,pa,slot,hty,h1,h2,Calls.callWith_builtin rfl (PySem.evalArgs_none (hm pins s1 σ H1 x [] v [] Q I1 r1 .nil q1))⟩
theorem cA (pa:PlainAttrs T) (slot:Slot T name id) (hty:typeOf (.builtin id)=pure (.type "method_descriptor")) (hm:MtR X id r) (ho:PE X o to) (ha:PA X (e::es) t)
  (hbase:attributeBase o name X.env (eval o X.env)=eval o X.env:=by rfl)
  (hfew:((backTo cpos (starEach (e::es) X.env)).all (fun x=>!x.1)&&(backToKw cpos (keywordEach [] X.env)).all (fun x=>x.1.isSome)
   && decide ((e::es).length+([]:List Keyword).length+(if ([]:List Keyword).isEmpty then 0 else 1)<30))=true:=by rfl)
  (hline:(apos.endLine==cpos.line)=true:=by rfl) (hs:starEach (e::es) X.env=(false,eval e X.env)::starEach es X.env:=by rfl) (hplain:(backTo cpos (starEach es X.env)).any (·.1)=false:=by rfl) :
  PE X (.Call (.Attribute o name apos) (e::es) [] cpos) (tBM X.K T r to t):=by
 intro pins s σ H Q I h;refine wpAny_Call_method_late hbase hfew hline rfl (thn (ho pins s σ H _ I h) λv s1 ⟨x,H1,I1,r1,ty,q1⟩=>?_);obtain⟨h1,h2⟩:=nF I1 r1 ty;refine⟨T,id,pa,slot,hty,h1,h2,?_⟩;have hA:=ha cpos pins s1 σ H1 _ I1 q1;rw[hs]at hA ⊢;refine Calls.callWith_builtin (by show (false || (backTo cpos (starEach es X.env)).any (·.1))=false;rw[hplain] <;> rfl) (Calls.evalArgs_plain ?_);exact thn hA λus s2 ⟨vs,H2,I2,r2,q2⟩=>hm pins s2 σ H2 x vs v us Q I2 r1 r2 q2
end
def MtM (X:Cx) (id:String) (r:V->List V->Hp->VK->Prop):Prop :=
 ∀(pins:A1) (s:Shared) (σ:St) (H:Hp) (x:V) (xs:List V) (v:Value) (us:List Value) (Q:VK),Inv X pins σ H s->aU x v->aM xs us->r x xs H Q ->
  wpAny (model X.prog X.w) X.A (call (.builtin id) (v::us)) (EP X pins σ Q) X.xe s
theorem aM.one:∀{x:V} {us:List Value},aM [x] us->∃u,us=[u]/\aU x u
 | _,_,.cons r .nil=>⟨_,rfl,r⟩
theorem aM.rep {xs:List V} {us:List Value} (h:aM xs us):∀k:Nat,aM (List.replicate k xs).flatten (List.replicate k us).flatten
 | 0=>.nil
 | k+1=>by
  rw[QS,QS,Q0,Q0];exact aM.append h (aM.rep h k)
theorem iq (its:List Value):∀(k:Nat) (acc:List Value),
  List.foldl (λx1 x2=>x1++x2) acc.toArray (List.replicate k its.toArray)=(acc++(List.replicate k its).flatten).toArray
 | 0,acc=>by simp
 | k+1,acc=>by
  have e:acc.toArray++its.toArray=(acc++its).toArray:=by simp
  have e2:(acc++its)++(List.replicate k its).flatten=acc++(List.replicate (k+1) its).flatten:=by
   rw[QS,Q0,List.append_assoc]
  rw[<-e2,<-iq its k (acc++its),<-e,QS,List.foldl_cons]
section
variable {X:Cx} {pins:A1} {σ:St} {H:Hp} {s:Shared} {l b:Addr} {xs ys zs:List V}
theorem Inv.lset {its its':List Value} {n:Nat} {f:Array Value->Array Value} {t':Nat} (I:Inv X pins σ H s) (hH:H l=some (.lst xs))
  (e:s.heap.get? l=some { cls:=.type "list", data:=.seq its.toArray n }) (hf:f its.toArray=its'.toArray) (hv:aM ys its') (hz:ys.length<=sizeLine) :
  Inv X pins σ (upd H l (.lst ys)) { s with heap:=s.heap.update l (Obj.mapSeq f),toks:=t' }:=by
 have q:=PySem.IsL.update e f;rw[hf]at q;refine I.write (x:=l) (e:=l) (by rw[hH];exact trivial) (.inl rfl) (λb' u hb hu=>(Qj s.heap (Obj.mapSeq f) (QT hb)).trans hu) ⟨_,q⟩ ?_;exact⟨hz,its',_,hv,q⟩
theorem Inv.lnew {its:List Value} {t':Nat} (I:Inv X pins σ H s) (hv:aM ys its) (hz:ys.length<=sizeLine) :
  Inv X pins σ (upd H s.heap.objs.size (.lst ys)) { s with heap:=s.heap.push { cls:=.type "list", data:=.seq its.toArray },toks:=t' } :=
 I.laid (λ_ _ q=>Qc _ q) (Qh _) ⟨hz,its,0,hv,Qn _ rfl⟩
theorem Inv.fresh (I:Inv X pins σ H s):H s.heap.objs.size=none:=I.hok.fresh (Qh _)
theorem Inv.lstM (I:Inv X pins σ H s) (hH:H l=some (.lst xs)):xs.length<=sizeLine/\∃(its:List Value) (n:Nat),aM xs its/\xs.length=its.length/\s.heap.get? l=some { cls:=.type "list", data:=.seq its.toArray n }:=by
 obtain⟨z,its,n,r,e⟩:=I.hok l _ hH;exact⟨z,its,n,r,r.length,e⟩
theorem oJ {n:Nat} (h:n<=sizeLine):Builtin.List.listTooLong n=false:=by
 unfold Builtin.List.listTooLong;exact xf (by omega)
end
section
variable {X:Cx}
def i0:V->List V->Hp->VK->Prop:=λx vs H Q=>∃l xs y,x=.ref l/\vs=[y]/\H l=some (.lst xs)/\xs.length<sizeLine/\Q .non (upd H l (.lst (xs++[y])))
theorem bg:MtM X "list.append" i0:=by
 intro pins s σ H x vs v us Q I rx rv h;obtain⟨l,xs,y,rfl,rfl,hH,hz,q⟩:=h;cases rx;obtain⟨u,rfl,ru⟩:=rv.one;obtain⟨z,its,n,r,hl,e⟩:=I.lstM hH;refine call_meets F.slot_list_append ⟨_,e,rfl⟩ F.entry_list_append (F.args_list_append_2 _ _) (PySem.list_append l its.toArray n u (by rw[Qe];omega)) ⟨e,?_⟩;refine⟨.non,_,I.lset (its':=its++[u]) hH e (by simp) (r.append (.cons ru .nil)) ?_,rfl,q⟩;rw[Qi,List.length_singleton];omega
def pP:R2:=λx y H Q=>∃l b xs zs,x=.ref l/\y=.ref b/\H l=some (.lst xs)/\H b=some (.lst zs)/\xs.length+zs.length<=sizeLine/\∀p,H p=none->Q (.ref p) (upd H p (.lst (xs++zs)))
theorem bF:OpR X (binaryOp .Add) pP:=by
 intro pins s σ H x y v u Q I rx ry h;obtain⟨l,b,xs,zs,rfl,rfl,hH,hB,hz,q⟩:=h;cases rx;cases ry;obtain⟨z,its,n,r,hl,e⟩:=I.lstM hH;obtain⟨z2,its2,n2,r2,hl2,e2⟩:=I.lstM hB;refine PySem.P.add_list e e2 ?_ (by rw[Qe,Qe];omega);have ea:its.toArray++its2.toArray=(its++its2).toArray:=by simp
 rw[ea];exact⟨.ref _,_,I.lnew (t':=s.toks) (r.append r2) (by rw[Qi];omega),rfl,q _ I.fresh⟩
def u_:R2:=λx y H Q=>∃l k xs,x=.ref l/\y=.int k/\H l=some (.lst xs)/\-(2 ^ 63)<=k/\k<2 ^ 63/\xs.length*k.toNat<=sizeLine /\
 ∀p,H p=none->Q (.ref p) (upd H p (.lst (List.replicate k.toNat xs).flatten))
theorem lR {α:Type} (xs:List α) (k:Nat):(List.replicate k xs).flatten.length=k*xs.length:=by
 induction k with
 | zero=>simp
 | succ k ih=>rw[QS,Q0,Qi,ih,Nat.succ_mul,Nat.add_comm]
theorem sE:OpR X (binaryOp .Mult) u_:=by
 intro pins s σ H x y v u Q I rx ry h;obtain⟨l,k,xs,rfl,rfl,hH,h1,h2,hz,q⟩:=h;cases rx;obtain⟨t,rfl⟩:=ry;obtain⟨z,its,n,r,hl,e⟩:=I.lstM hH;have hlen:its.toArray.size*k.toNat<=sizeLine:=by rw[Qe,<-hl];exact hz
 have hcap:¬its.toArray.size*k.toNat>(2 ^ 63-1) / 8:=by
  have:(sizeLine:Nat)<=(2 ^ 63-1) / 8:=by decide
  omega
 have hfit:¬(!Builtin.List.listFitsIndex k)=true:=by
  rw[fitsIndex_both h1 h2];exact Qm
 have hlong:¬Builtin.List.listTooLong (its.toArray.size*k.toNat)=true:=by
  rw[oJ hlen];exact Qm
 have hnew:List.foldl (λx1 x2=>x1++x2) #[] (List.replicate (if its.toArray.isEmpty=true then 0 else k.toNat) its.toArray)=(List.replicate k.toNat its).flatten.toArray:=by
  have f0:∀m:Nat,List.foldl (λx1 x2=>x1++x2) #[] (List.replicate m its.toArray)=(List.replicate m its).flatten.toArray:=λm=>by
   have:=iq its m [];rw[List.nil_append]at this;exact this
  rw[f0]
  cases its with
  | nil=>simp
  | cons a r'=>rw[QB (by simp)]
 refine wpAny_binaryOp_repeat_ref (T := "list") (U := "int") (by decide) ⟨_,e,rfl⟩ (λs'=>typeIs_int s' k t) noFill_list_mul F.fills_int_mul F.slot_int_rmul repeat_list F.slot_int_index.lookup
  (call_meets F.slot_int_rmul (typeIs_int s k t) F.entry_int_rmul (F.args_int_rmul_2 _ _) (int___rmul___int_list k t l its.toArray n)
   ⟨e,rfl,⟨_,e,rfl⟩,call_meets F.slot_list_mul ⟨_,e,rfl⟩ F.entry_list_mul (F.args_list_mul_2 _ _) (AutoListH.list___mul___list_int_3 l its.toArray n k t hfit hcap hlong) ⟨e,?_⟩⟩)
 rw[hnew];exact⟨.ref _,_,I.lnew (t':=s.toks) (r.rep k.toNat) (by rw[lR,Nat.mul_comm];exact hz),rfl,q _ I.fresh⟩
end
section
variable {prog:Program} {w:World} {A:Around} {E:A0} {s:Shared}
end
section
variable {X:Cx}
end
section
variable {κ:Type} [DecidableEq κ]
def bE (kvs:List (κ × V)) (k:κ):Option V:=(kvs.find? λkv=>decide (kv.1=k)).map (·.2)
def cS (kvs:List (κ × V)) (k:κ) (v:V):List (κ × V) :=
 if (kvs.any λkv=>decide (kv.1=k))=true then kvs.map (λkv=>if kv.1=k then (kv.1,v) else kv) else kvs++[(k,v)]
variable {r kvs:List (κ × V)}
theorem bI {p:κ × V} {k:κ} (e:p.1=k):bE (p::r) k=some p.2:=by simp[bE,List.find?_cons,e]
theorem bJ {p:κ × V} {k:κ} (e:¬p.1=k):bE (p::r) k=bE r k:=by simp[bE,List.find?_cons,e]
theorem eE (k:κ):∀kvs:List (κ × V),(kvs.any λkv=>decide (kv.1=k))=(bE kvs k).isSome
 | []=>rfl
 | p::r=>by
  rw[List.any_cons];by_cases e:p.1=k
  ·simp only[bI e,decide_eq_true e,Bool.true_or,Option.isSome_some]
  rw[bJ e,xf e,Bool.false_or];exact eE k r
theorem jq (k j:κ) (y:V):∀kvs:List (κ × V),bE (kvs.map λkv=>if kv.1=k then (kv.1,y) else kv) j=(bE kvs j).map λx=>if j=k then y else x
 | []=>rfl
 | p::r=>by
  have ih:=jq k j y r;rw[Qs];by_cases h:p.1=k
  ·rw[QH h];by_cases e:p.1=j
   ·rw[bI (p:=(p.1,y)) e,bI e,Option.map_some,QH (e.symm.trans h)]
   rw[bJ (p:=(p.1,y)) e,bJ e,ih]
  rw[QB h];by_cases e:p.1=j
  ·rw[bI (p:=p) e,bI e,Option.map_some,QB (λz=>h (e.trans z))]
  rw[bJ (p:=p) e,bJ e,ih]
theorem hV (k j:κ) (y:V):∀kvs:List (κ × V),bE kvs k=none->bE (kvs++[(k,y)]) j=if j=k then some y else bE kvs j
 | [],_=>by
  by_cases e:k=j
  ·rw[QH e.symm];exact bI (p:=(k,y)) e
  rw[QB (λz=>e z.symm)];exact bJ (p:=(k,y)) e
 | p::r,hn=>by
  rw[List.cons_append];have hk:¬p.1=k:=λz=>by rw[bI z]at hn;cases hn
  rw[bJ hk]at hn;have ih:=hV k j y r hn;by_cases e:p.1=j
  ·rw[bI e,bI e,QB (λz=>hk (e.trans z))]
  rw[bJ e,bJ e,ih]
theorem dw (kvs:List (κ × V)) (k j:κ) (y:V):bE (cS kvs k y) j=if j=k then some y else bE kvs j:=by
 unfold cS;by_cases a:(kvs.any λkv=>decide (kv.1=k))=true
 ·rw[QH a,jq];rw[eE]at a;by_cases e:j=k
  ·obtain⟨x,hx⟩:=Option.isSome_iff_exists.mp a;rw[QH e,e,hx,Option.map_some,QH rfl]
  rw[QB e]
  cases bE kvs j with
  | none=>rfl
  | some x=>rw[Option.map_some,QB e]
 rw[QB a];refine hV k j y kvs ?_;rw[eE]at a
 cases q:bE kvs k with
 | none=>rfl
 | some x=>rw[q]at a;exact(a rfl).elim
theorem cH (kvs:List (κ × V)) (k:κ) (v:V):(cS kvs k v).length<=kvs.length+1:=by
 unfold cS
 split
 ·rw[Qb];omega
 rw[Qi,QM,List.length_nil];omega
theorem eX.isSome_eq {o:Option V} {u:Option Value} (r:eX o u):o.isSome=u.isSome:=by
 cases o with
 | none=>cases u with
  | none=>rfl
  | some _=>exact(show False from r).elim
 | some _=>cases u with
  | none=>exact(show False from r).elim
  | some _=>rfl
variable {vs:List (κ × Value)}
theorem KV.val (r:KV kvs vs) (k:κ):eX (bE kvs k) (valueAt vs k):=by
 unfold KV at r
 induction r with
 | nil=>exact True.intro
 | @cons p q ps qs h t ih =>
 obtain⟨h1,h2⟩:=h;by_cases e:p.1=k
 ·have e':q.1=k:=h1.symm.trans e;have b:valueAt (q::qs) k=some q.2:=by simp[valueAt,List.find?_cons,e']
  rw[bI e,b];exact h2
 have e':¬q.1=k:=λz=>e (h1.trans z);have b:valueAt (q::qs) k=valueAt qs k:=by simp[valueAt,List.find?_cons,e']
 rw[bJ e,b];exact ih
theorem KV.any (r:KV kvs vs) (k:κ):(kvs.any λkv=>decide (kv.1=k))=vs.any λkv=>decide (kv.1=k):=by
 unfold KV at r
 induction r with
 | nil=>rfl
 | cons h t ih=>rw[List.any_cons,List.any_cons,ih,h.1]
theorem KV.repl (r:KV kvs vs) (k:κ) {y:V} {u:Value} (ry:aU y u) :
  KV (kvs.map λkv=>if kv.1=k then (kv.1,y) else kv) (vs.map λkv=>if kv.1=k then (kv.1,u) else kv):=by
 unfold KV at r ⊢
 induction r with
 | nil=>exact .nil
 | @cons p q ps qs h t ih =>
 rw[Qs,Qs];refine .cons ?_ ih;obtain⟨h1,h2⟩:=h;by_cases e:p.1=k
 ·rw[QH e,QH (h1.symm.trans e)];exact⟨h1,ry⟩
 rw[QB e,QB (λz=>e (h1.trans z))];exact⟨h1,h2⟩
theorem KV.put (r:KV kvs vs) (k:κ) {y:V} {u:Value} (ry:aU y u):KV (cS kvs k y) (stored vs k u):=by
 unfold cS stored;rw[r.any k];by_cases e:(vs.any λkv=>decide (kv.1=k))=true
 ·rw[QH e,QH e];exact r.repl k ry
 rw[QB e,QB e];exact Paired.snoc r ⟨rfl,ry⟩
theorem KV.length (r:KV kvs vs):kvs.length=vs.length:=Paired.length r
end
variable {u:Value}
theorem lS {P:Program} {w:World} {k:Key} (r:aU (kV k) u):(bu P w).is k u=true:=by
 cases k with
 | inl i=>obtain⟨t,e⟩:=(show ∃t,u=Value.int i t from r);subst e;exact jV P w i t
 | inr x=>obtain⟨t,e⟩:=(show ∃t,u=Value.str x t from r);subst e;exact dD P w x t
theorem io {P:Program} {w:World}:∀{ks:List Key} {us:List Value},aM (ks.map kV) us->ItemsAre (bu P w) ks us
 | [],_,r=>by rw[List.map_nil]at r;cases r;exact .nil
 | k::ks,_,r=>by
  rw[Qs]at r
  cases r with
  | cons h t=>exact .cons (lS h) (io t)
abbrev KT (H:Hp):List (List Key × V)->List (List Key × Addr × Value)->Prop:=Paired λp q=>p.1=q.1/\H q.2.1=some (.tup (p.1.map kV))/\aU p.2 q.2.2
variable {xs:List (List Key × Addr × Value)} {kvs:List (List Key × V)} {H H':Hp}
theorem KT.val (r:KT H kvs xs) (k:List Key):eX (bE kvs k) ((atKey xs k).map (·.2)):=by
 induction r with
 | nil=>exact True.intro
 | @cons p q ps qs h t ih =>
 obtain⟨h1,_,h2⟩:=h;by_cases e:p.1=k
 ·have e':q.1=k:=h1.symm.trans e;have b:atKey (q::qs) k=some q.2:=by simp[atKey,List.find?_cons,e']
  rw[bI e,b];exact h2
 have e':¬q.1=k:=λz=>e (h1.trans z);have b:atKey (q::qs) k=atKey qs k:=by simp[atKey,List.find?_cons,e']
 rw[bJ e,b];exact ih
theorem KT.repl (r:KT H kvs xs) (k:List Key) {y:V} (ry:aU y u) :
  KT H (kvs.map λkv=>if kv.1=k then (kv.1,y) else kv) (xs.map (putAt k u)):=by
 induction r with
 | nil=>exact .nil
 | @cons p q ps qs h t ih =>
 rw[Qs,Qs];refine .cons ?_ ih;obtain⟨h1,h2,h3⟩:=h;unfold putAt;by_cases e:p.1=k
 ·rw[QH e,QH (h1.symm.trans e)];exact⟨h1,h2,ry⟩
 rw[QB e,QB (λz=>e (h1.trans z))];exact⟨h1,h2,h3⟩
theorem KT.put (r:KT H kvs xs) (k:List Key) {b:Addr} {y:V} (hb:H b=some (.tup (k.map kV))) (ry:aU y u) :
  KT H (cS kvs k y) (storedH xs k b u):=by
 have e:(kvs.any λkv=>decide (kv.1=k))=(atKey xs k).isSome:=by
  rw[eE,(r.val k).isSome_eq,Option.isSome_map]
 unfold cS storedH;rw[e];by_cases q:(atKey xs k).isSome=true
 ·rw[QH q,QH q];exact r.repl k ry
 rw[QB q,QB q];exact Paired.snoc r ⟨rfl,hb,ry⟩
theorem KT.keeps (r:KT H kvs xs) (ht:∀b ys,H b=some (.tup ys)->H' b=some (.tup ys)):KT H' kvs xs :=
 Paired.mapP r λ_ _ z=>⟨z.1,ht _ _ z.2.1,z.2.2⟩
section
variable {P:Program} {w:World} {H:Hp} {h:Heap} {a:Addr}
theorem rc {u:HO} (ok:HOk P w H h) (e:Rd H a u):ba P w H h a u:=e.ok ok
theorem lZ {kvs:List (Key × V)} (ok:HOk P w H h) (e:Rd H a (.dK kvs)):kvs.length<=sizeLine/\(a==sysModules)=false/\∃vs,KV kvs vs/\h.DictOf (bu P w) a vs :=
 show ba P w H h a (.dK kvs) from rc ok e
theorem uO {kvs:List (Key × V)} (ok:HOk P w H h) (e:H a=some (.dK kvs)):kvs.length<=sizeLine/\(a==sysModules)=false/\∃vs,KV kvs vs/\h.DictOf (bu P w) a vs:=lZ ok (.inl e)
theorem je {ks:List Key} (ok:HOk P w H h) (e:H a=some (.tup (ks.map kV))):(tupleKind (bu P w)).is h ks a:=by
 obtain⟨_,its,r,o,h1,h2,n,h3⟩:=(show ba P w H h a (.tup (ks.map kV)) from ok a _ e);exact⟨o,its.toArray,n,h1,h2,h3,by simpa using io r⟩
variable {kvs:List (List Key × V)}
theorem lY (ok:HOk P w H h) (e:Rd H a (.dT kvs)):kvs.length<=sizeLine/\(a==sysModules)=false /\
  ∃xs,KT H kvs xs/\h.DictOfH (tupleKind (bu P w)) a xs:=by
 obtain⟨z,y,xs,r,o,es,ep,h1,h2,h3,h4,h5⟩:=(show ba P w H h a (.dT kvs) from rc ok e);refine⟨z,y,xs,r,o,es,ep,h1,h2,h3,h4,λx hx=>?_,h5⟩
 have all:∀{l:List (List Key × V)} {m:List (List Key × Addr × Value)},KT H l m->∀x∈m,(tupleKind (bu P w)).is h x.1 x.2.1:=by
  intro l m q
  induction q with
  | nil=>intro x hx;exact nomatch hx
  | @cons p q ps qs hq t ih =>
  intro x hx;rcases Q5.mp hx with e|hx
  ·subst e;exact je ok (by rw[<-hq.1];exact hq.2.1)
  exact ih x hx
 exact all r x hx
theorem uN (ok:HOk P w H h) (e:H a=some (.dT kvs)):kvs.length<=sizeLine/\(a==sysModules)=false /\
  ∃xs,KT H kvs xs/\h.DictOfH (tupleKind (bu P w)) a xs:=lY ok (.inl e)
end
def du (H:Hp) (a:Addr) (y:V) (r:Option V):Prop :=
 (∃kvs k,Rd H a (.dK kvs)/\y=kV k/\r=bE kvs k)\/∃kvs k b,Rd H a (.dT kvs)/\y=.ref b/\H b=some (.tup (k.map kV))/\r=bE kvs k
def pE (H:Hp) (a:Addr) (y v:V) (H':Hp):Prop :=
 (∃kvs k,H a=some (.dK kvs)/\y=kV k/\kvs.length<sizeLine/\H'=upd H a (.dK (cS kvs k v))) \/
 ∃kvs k b,H a=some (.dT kvs)/\y=.ref b/\H b=some (.tup (k.map kV))/\kvs.length<sizeLine/\H'=upd H a (.dT (cS kvs k v))
theorem du.k {H:Hp} {a:Addr} {kvs:List (Key × V)} {k:Key} (e:H a=some (.dK kvs)):du H a (kV k) (bE kvs k):=.inl ⟨kvs,k,.inl e,rfl,rfl⟩
theorem pE.k {H:Hp} {a:Addr} {kvs:List (Key × V)} {k:Key} {v:V} (e:H a=some (.dK kvs)) (hl:kvs.length<sizeLine):pE H a (kV k) v (upd H a (.dK (cS kvs k v))):=.inl ⟨kvs,k,e,rfl,hl,rfl⟩
section
variable {X:Cx} {pins:A1} {σ:St} {H:Hp} {s:Shared} {a:Addr} {y v:V} {u r:Value} {o:Option V} {A:Around} {E:A0}
theorem Inv.big (I:Inv X pins σ H s):sysModules<s.heap.objs.size:=by
 have h:mainGlobals<s.heap.objs.size:=(I.mod.glob.keeps I.bk).lt;exact Nat.lt_trans (by decide) h
variable {Q:A0}
theorem nj (hu:A.units+1<cLine) (I:Inv X pins σ H s) (g:du H a y (some v)) (ry:aU y u) (h:∀w' s',Inv X pins σ H s'->aU v w'->Q w' s') :
  wpAny (model X.prog X.w) A (getItem (.ref a) u) Q E s:=by
 rcases g with⟨kvs,k,e,ey,l⟩|⟨kvs,k,b,e,ey,eb,l⟩
 ·subst ey;obtain⟨z,hd,vs,rel,dd⟩:=lZ I.hok e;obtain⟨w',hw,rw'⟩:=eX.some_of (v:=v) (o:=valueAt vs k) (by rw[l];exact rel.val k);exact wpAny_getItem_of (lS ry) dd.mapOf hw (h w' _ (I.tok _) rw')
 subst ey;cases (show u=Value.ref b from ry);obtain⟨z,hd,xs,rel,dd⟩:=lY I.hok e;obtain⟨w',hw,rw'⟩:=eX.some_of (v:=v) (o:=(atKey xs k).map (·.2)) (by rw[l];exact rel.val k);obtain⟨p,hp,hp2⟩:=Option.map_eq_some_iff.mp hw;refine wpAny_getItem_heap (tupleKind_room_in1 hu) (je I.hok eb) dd hp ?_;rw[hp2];exact h w' _ (I.tok _) rw'
theorem qE (hu:A.units+1<cLine) (I:Inv X pins σ H s) (g:du H a y o) (ry:aU y u) (h:∀s',Inv X pins σ H s'->Q (.bool (!o.isSome)) s') :
  wpAny (model X.prog X.w) A (compareOp .NotIn u (.ref a)) Q E s:=by
 rcases g with⟨kvs,k,e,ey,l⟩|⟨kvs,k,b,e,ey,eb,l⟩
 ·subst ey;obtain⟨z,hd,vs,rel,dd⟩:=lZ I.hok e;refine wpAny_notIn_of (lS ry) hd dd.mapOf ?_;rw[<-(rel.val k).isSome_eq,<-l];exact h _ (I.tok _)
 subst ey;cases (show u=Value.ref b from ry);obtain⟨z,hd,xs,rel,dd⟩:=lY I.hok e;refine wpAny_notIn_heap (tupleKind_room_in1 hu) (je I.hok eb) hd dd ?_;have q:=(rel.val k).isSome_eq;rw[Option.isSome_map]at q;rw[<-q,<-l];exact h _ (I.tok _)
theorem md {h':Heap} {t':Nat} {ob:HO} (I:Inv X pins σ H s) (mu:Mut (H a)) (hs:Heap.SameBut a s.heap h') (he:∃q,h'.get? a=some q) (new:ba X.prog X.w (upd H a ob) h' a ob) :
  Inv X pins σ (upd H a ob) { s with heap:=h',toks:=t' } :=
 I.write (x:=a) (e:=a) mu (.inl rfl) (λb q hb z=>(hs.2 b hb).trans z) he new
theorem sY {P:Program} {w:World} {H':Hp} {h':Heap} {kvs:List (Key × V)} {vs:List (Key × Value)} (z:kvs.length<=sizeLine) (hd:(a==sysModules)=false) (rel:KV kvs vs) (dd:h'.DictOf (bu P w) a vs) :
  ba P w H' h' a (.dK kvs):=⟨z,hd,vs,rel,dd⟩
theorem ni {H':Hp} {Q:Unit->Shared->Prop} (hu:A.units+1<cLine) (I:Inv X pins σ H s) (g:pE H a y v H') (ry:aU y u) (rv:aU v r) (h:∀s',Inv X pins σ H' s'->Q () s') :
  wpAny (model X.prog X.w) A (setItem (.ref a) u r) Q E s:=by
 rcases g with⟨kvs,k,e,ey,l,eH⟩|⟨kvs,k,b,e,ey,eb,l,eH⟩
 ·subst ey eH;obtain⟨z,hd,vs,rel,dd⟩:=uO I.hok e;have hz:vs.length<=sizeLine:=by rw[<-rel.length];exact z
  have hl:(cS kvs k v).length<=sizeLine:=by have:=cH kvs k v;omega
  refine wpAny_setItem_pairs (hsz:=hz) (lS ry) dd λh' dd' hs=>h _ ?_;have he:∃q,h'.get? a=some q:=let ⟨q,_,_,hq,_⟩:=dd';⟨q,hq⟩;exact md I (by rw[e];exact True.intro) hs he (sY hl hd (rel.put k rv) dd')
 subst ey eH;cases (show u=Value.ref b from ry);obtain⟨z,hd,xs,rel,dd⟩:=uN I.hok e;have hz:xs.length<=sizeLine:=by rw[<-Paired.length rel];exact z
 have hl:(cS kvs k v).length<=sizeLine:=by have:=cH kvs k v;omega
 refine wpAny_setItem_heap (hsz:=hz) (tupleKind_room_in1 hu) (je I.hok eb) dd λh' dd' hs=>h _ ?_;obtain⟨q,es,ep,hq,h2,h3,h4,_,h5⟩:=dd';refine md I (by rw[e];exact True.intro) hs ⟨q,hq⟩ ⟨hl,hd,_,(rel.put k eb rv).keeps λc ys ec=>?_,q,es,ep,hq,h2,h3,h4,h5⟩;rw[am (cU ec e (λz=>nomatch z))];exact ec
end
section
variable {X:Cx} {pins:A1} {σ:St} {H:Hp} {s:Shared} {a:Addr} {kvs:List (Key × V)} {k:Key} {u:Value} {A:Around} {E:A0}
end
def uX (i:Expr):Prop:=∀ov iv,subscripted i false ov iv=operate [ov,iv] (getItem ov iv)
variable {Q E:A0}
theorem pL {prog:Program} {w:World} {A:Around} {s:Shared} {env:Env} {value slice:Expr} {pos:Pos} {T id:String}
  (hl:typeLookup (.type T) "__getitem__" = pure (some (.builtin id))) (hs:uX slice)
  (h:wpAny (model prog w) A (eval value env) (λo s₁=>wpAny (model prog w) A (eval slice env) (λi s₂=>s₂.TypeIs o T/\wpAny (model prog w) A (getItem o i) Q E s₂) E s₁) E s) :
  wpAny (model prog w) A (eval (.Subscript value slice pos) env) Q E s:=by
 refine Subscript_ (Q1 h (λo s₁ h₁=>Q1 h₁ (λi s₂ h₂=>?_) λ_ _ x=>x) λ_ _ x=>x);obtain⟨hT,h₂⟩:=h₂;unfold subscriptTail;refine Qa ?_;rw[getitemInPython_of_ne hT.not_modules];refine Qa (wpAny_specialOf hT hl ?_)
 have fin:wpAny (model prog w) A (subscripted slice false o i) (λr s₃=>wpAny (model prog w) A (letTemporaryGo value o r >>= λ_=>pure r) Q E s₃) E s₂:=by
  rw[hs o i];exact wpAny_operating (Q1 h₂ (λr s₃ h₃=>Qa (wpAny_letTemporaryGo (Qg h₃))) λ_ _ x=>x)
 first
  | exact Qg (Qa fin)
  | exact Qa (Qg (Qa fin))
  | exact Qa fin
theorem jZ {X:Cx} {pins:A1} {σ:St} {s:Shared} {a:Addr} {y:V} {o:Option V} (I:Inv X pins σ H s) (g:du H a y o):s.TypeIs (.ref a) "dict" := by
 rcases g with⟨kvs,k,e,_,_⟩|⟨kvs,k,b,e,_,_,_⟩
 ·obtain⟨_,_,vs,_,dd⟩:=lZ I.hok e;exact dd.typeIs
 obtain⟨_,_,xs,_,dd⟩:=lY I.hok e;exact dd.typeIs
def qY (td ty:TE):TE:=λσ H Q=>td σ H λx H1=>ty σ H1 λy H2=>∃a v,x=.ref a/\du H2 a y (some v)/\Q v H2
def pK (ty td:TE):TE:=λσ H Q=>ty σ H λy H1=>td σ H1 λx H2=>∃a o,x=.ref a/\du H2 a y o/\Q (.bl (!o.isSome)) H2
def tP (td ty tv:TE):TS:=λD σ H=>tv σ H λv H1=>td σ H1 λx H2=>ty σ H2 λy H3=>∃a H4,x=.ref a/\pE H3 a y v H4/\D.nx σ H4
section
variable {X:Cx} {o i e value:Expr} {pos pos' tpos:Pos} {td ty tv:TE}
theorem dN (hu:X.A.units+1<cLine) (ho:PE X o td) (hi:PE X i ty) (hs:uX i:=by exact λ_ _=>rfl):PE X (.Subscript o i pos) (qY td ty):=by
 intro pins s σ H Q I h;refine pL PySem.F.slot_dict_getitem.lookup hs (thn (ho pins s σ H _ I h) λu s1 ⟨x,H1,I1,rx,q1⟩=>thn (hi pins s1 σ H1 _ I1 q1) λiv s2 ⟨y,H2,I2,ry,a,v,ex,g,q2⟩=>?_);subst ex;obtain rfl:u=Value.ref a:=rx;exact⟨jZ I2 g,nj hu I2 g ry λw' s3 I3 rw'=>⟨v,H2,I3,rw',q2⟩⟩
theorem ib (hu:X.A.units+1<cLine) (hi:PE X i ty) (ho:PE X o td):PC X .NotIn i o (pK ty td):=by
 intro pins s σ H Q I h;refine thn (hi pins s σ H _ I h) λiv s1 ⟨y,H1,I1,ry,q1⟩=>thn (ho pins s1 σ H1 _ I1 q1) λu s2 ⟨x,H2,I2,rx,a,ov,ex,g,q2⟩=>?_;subst ex;obtain rfl:u=Value.ref a:=rx;exact qE hu I2 g ry λs3 I3=>⟨.bl (!ov.isSome),H2,I3,rfl,q2⟩
theorem pU (hu:X.A.units+1<cLine) (ho:PE X o td) (hi:PE X i ty) (hv:PE X value tv) (hs:swapsWith value (some (.Subscript o i pos')) pos.line X.env=pure false) :
  PS X (.Assign [.Subscript o i pos'] value pos) (tP td ty tv):=by
 intro pins s σ H D I h;refine wpAny_Assign_Subscript (thn (hv pins s σ H _ I h) λr s1 ⟨v,H1,I1,rv,q1⟩=>thn (ho pins s1 σ H1 _ I1 q1) λu s2 ⟨x,H2,I2,rx,q2⟩=>thn (hi pins s2 σ H2 _ I2 q2) λiv s3 ⟨y,H3,I3,ry,a,H4,ex,g,q3⟩=>?_) hs;subst ex;obtain rfl:u=Value.ref a:=rx;exact ni hu I3 g ry rv λs4 I4=>⟨σ,H4,I4,q3⟩
end
theorem o_ {P:Program} {w:World} (h:Heap) (hb:sysModules<h.objs.size):ba P w H (h.push { cls:=.type "dict", data:=.dict #[] }) h.objs.size (.dK []) :=
 ⟨QZ _,beq_eq_false_iff_ne.mpr (QT (Qy hb)),[],.nil,Heap.DictOf.new h⟩
def se:TE:=λ_ H Q=>∀p,H p=none->Q (.ref p) (upd H p (.dK []))
section
variable {X:Cx} {pos:Pos}
theorem eM:PE X (.Dict [] [] pos) se:=λpins s σ H Q I h =>
 wpAny_Dict_empty ⟨.ref s.heap.objs.size,_,I.laid (a:=s.heap.objs.size) (o:=.dK []) (t':=s.toks) (λ_ _ q=>Qc _ q) (Qh _) (o_ s.heap I.big),rfl,h _ (I.hok.fresh (Qh _))⟩
end
structure M1 (X:Cx) (o:Expr) (m:Str) (apos:Pos) (e:Expr) (cpos:Pos):Prop where
 base:attributeBase o m X.env (eval o X.env)=eval o X.env
 few:((backTo cpos (starEach [e] X.env)).all (λx=>!x.1)&&(backToKw cpos (keywordEach [] X.env)).all (λx=>x.1.isSome)
  && decide (([e]:List Expr).length+([]:List Keyword).length+(if ([]:List Keyword).isEmpty then 0 else 1)<30))=true
 line:(apos.endLine==cpos.line)=true
 trees:backTo cpos (starEach [e] X.env)=[(false,eval e X.env)]
structure M2 (X:Cx) (o:Expr) (m:Str) (apos:Pos) (e f:Expr) (cpos:Pos):Prop where
 base:attributeBase o m X.env (eval o X.env)=eval o X.env
 few:((backTo cpos (starEach [e,f] X.env)).all (λx=>!x.1)&&(backToKw cpos (keywordEach [] X.env)).all (λx=>x.1.isSome)
  && decide (([e,f]:List Expr).length+([]:List Keyword).length+(if ([]:List Keyword).isEmpty then 0 else 1)<30))=true
 line:(apos.endLine==cpos.line)=true
 trees:backTo cpos (starEach [e,f] X.env)=[(false,eval e X.env),(false,eval f X.env)]
section
variable {X:Cx} {pins:A1} {σ:St} {H:Hp} {s:Shared} {a:Addr} {y d:V} {u r:Value} {o:Option V} {A:Around} {E:A0}
end
section
variable {X:Cx} {o e f:Expr} {apos cpos:Pos} {td ty tx:TE}
end
section
variable {X:Cx} {pins:A1} {σ:St} {H:Hp} {s:Shared} {a:Addr} {kvs:List (Key × V)} {A:Around} {E:A0}
end
section
variable {X:Cx} {pins:A1} {σ:St} {H:Hp} {s:Shared} {a:Addr} {y:V} {u:Value} {A:Around} {E:A0}
end
end L2
namespace Att
open PySem PySem.W PySem.Calls PyProof.Rows
theorem fG {P:Params} {h:Heap}:∀(ns:List Int) (vs:List Value),WellAll P h vs (ns.map WData.int)->IntsAre vs ns:=by
 intro ns
 induction ns with
 | nil =>
  intro vs w;rw[List.map_nil]at w;cases w;exact .nil
 | cons n ns ih =>
 intro vs w;rw[Qs]at w
 cases w with
 | cons a b =>
 cases a;exact .cons _ _ (ih _ b)
theorem mv {l:OpenLaw} {n:Nat} (hn:l.most=some n) {P:Params} {h:Heap} {args:List WData} {vals:List Value}
  (hpre:l.row.toRowW.claim.pre args=true) (hwl:WellAll P h vals args) :
  ∃a vs ns,vals=[Value.ref a]/\args=[WData.list (ns.map WData.int)]/\h.get? a=some { cls:=.type "list", data:=.seq vs.toArray }/\IntsAre vs ns/\ns.length<=n:=by
 have hsh:WShape.hasAll [] args [.list .int]=true:=(pre_splitW hpre).1;have hc:l.pre.holds [] { args:=args }=true:=(pre_splitW hpre).2;obtain⟨d,r,rfl,h1,h2⟩:=hasAllW_cons hsh;obtain rfl:=hasAllW_nil h2;obtain⟨xs,rfl,h3⟩:=hasW_list h1;obtain⟨ns,rfl⟩:=items_int h3
 have hlen:ns.length<=n:=by
  unfold OpenLaw.pre at hc
  have h4:(WTm.not (.lt (.lit (.int (n:Int))) (.len (.arg 0)))).holds [] { args:=[.list (ns.map .int)] }=true:=by
   have h4:=(holds_andW hc).1;rw[hn]at h4;exact h4
  have h5:=condW_of h4 (w_not (w_lt w_lit (w_len_list (w_arg rfl))));rw[Qb]at h5;refine Nat.le_of_not_lt λq=>?_;have q':(n:Int)<((ns.length:Nat):Int):=by omega
  first
   | (rw[decide_eq_true q']at h5;exact absurd h5 (by decide))
   | (simp at h5;omega)
 cases hwl with
 | cons w1 w2 =>
 cases w2
 cases w1 with
 | list ho hall=>exact⟨_,_,ns,rfl,rfl,ho,fG ns _ hall,hlen⟩
theorem mx (l:OpenLaw) (args:List WData):l.row.toRowW.claim.post args (.bool true) args=true :=
 postW_of (r:=l.row.toRowW) (X:=(true==true))
  (show WShape.has [] (.bool true) .bool=true by first|rfl|decide|simp[WShape.has,WShape.arms,WShape.armsAll])
  (show (WTm.eq .res (.lit (.bool true))).value [] { args:=args,res:=some (.bool true),after:=args }=some (.bool (true==true)) from w_eq_bool (w_res rfl) w_lit) rfl
theorem j4 {l:OpenLaw} {n:Nat} {q:Program} {loose:List Str} {XP:A2->Heap->Prop} {YP:World->Heap->Prop} {d:DefRec}
  (hn:l.most=some n) (hdf:d.params.defaults=[])
  (call:∀(w:World) (s₀ s₁:Shared) (mg mb:A2) (fa:Addr) (o:Obj) (pm cd doc:Value) (a:Addr) (vs:List Value) (ns:List Int),
   Ground q loose [] XP w s₀ mg mb s₁.heap->YP w s₁.heap ->
   s₁.heap.get? fa=some o->o.data=.func (docDef d.name d.params d.body d.scope pm cd doc)->s₁.heap.CodeRec cd d.name->mg d.name=some (.ref fa) ->
   s₁.heap.get? a=some { cls:=.type "list", data:=.seq vs.toArray }->IntsAre vs ns->ns.length<=n->s₁.gens=#[] ->
   codeAny (model l.prog w) callerA (.call (.ref fa) ⟨[.ref a],[]⟩) (λr s'=>r=.ok (.ret (.bool true))/\OldK s₁.heap s'.heap/\s'.os=s₁.os/\AllBare s'.gens) s₁) :
  WalkO q loose XP YP l.row.toRowW d [] (λf vs=>PySem.call f vs):=by
 intro w s₀ s₁ mg mb G Y fa o pm cd doc dV kV ho hd hcd hD hmg hg args vals as hpre hlay hrd hwl hlo;obtain rfl:dV=.none:=Dflts.none hD hdf;obtain rfl:kV=.none:=Dflts.noKw hD;obtain⟨a,vs,ns,rfl,rfl,hobj,hints,hlen⟩:=mv hn hpre hwl;refine enter_call (codeAny_mono (call w s₀ s₁ mg mb fa o pm cd doc a vs ns G Y ho (fd_plain hd) hcd hmg hobj hints hlen hg) λr s' hq=>?_);obtain⟨rfl,h2,h3,h4⟩:=hq;exact⟨.inl ⟨.bool true,.bool true,[],rfl,λ_=>rfl,.bool true,mx l _,λ_=>⟨List.Pairwise.nil,λ_ hm=>(nomatch hm)⟩⟩,h2,h3,h4⟩
section
variable {prog:Program} {w:World} {A:Around} {E:A0} {s:Shared} {K:Frag}
end
end Att
namespace L2
open PySem PySem.Spec PyProof.Rows
theorem hU:∀{vs:List Value} {ns:List Int},IntsAre vs ns->aM (ns.map V.int) vs
 | _,_,.nil=>.nil
 | _,_,.cons n t h=>.cons ⟨t,rfl⟩ (hU h)
end L2
/- THE LAST THEOREM (shape;LID,My.* are yours):
  My.Adr: a structure of the addresses that your layer names (classes,functions);My.Txt K t: a structure (Prop) of the equations over K;
  My.txt_mk:{K} {implicit addresses ..} (e1:nsIn K mainGlobals "law" = some (some (.ref f))) (e2:K.lookup f=some ⟨oc,od,.func (fnOf "law" "law" params body scope dV kV doc pm an cdv ct),sl⟩) (e3:codeIn K cdv "law" = true) ..:∃t,My.Txt K t
(the tactic k_is has no namespace: write k_is) -/
namespace L2
open PySem PySem.Spec PyProof.Rows
abbrev CX0:CXT:=λ_ _ _ _ _ _=>False
abbrev E0:XK:=λ_ _ _=>False
theorem tX {X:Cx}:eA CX0 X E0:=λ_ _ _ _ _ _ _ h=>h.elim
structure Fun (K:PySem.W.Frag) (x qual:Str) (st:Stmt) (f:Addr) (fd:FuncData):Prop where
 ex:∃(oc:Value) (od:Option Addr) (kV doc pm:Value) (an:Option Addr) (cdv ct:Value) (osl:Array (Option Value)),
  fd=PySem.W.fnOf x qual (bM st) (bB st) (ap st) .none kV doc pm an cdv ct/\K.lookup f=some ⟨oc,od,.func fd,osl⟩/\PySem.W.codeIn K cdv qual=true
 kp:PySem.W.keepIn K (.ref f)=true
section
variable {P:Program} {w:World} {K:PySem.W.Frag} {mg:A2} {base:Heap}
variable {x qual:Str}
theorem Fun.ok {st:Stmt} {f:Addr} {fd:FuncData} {N ps:List Str} {k:Nat} {sp:Sp} (F:Fun K x qual st f fd) (S:FnScope N ps (ap st)) (len:∀vs H Q E,sp vs H Q E->vs.length=ps.length)
  (hbody:∀(cdv:Value) (A:Around) (outer:List Env) (s:Shared) (H:Hp) (vs:List V) (Q:VK) (E:XK),Room k (A.deeper (envOfC qual (ap st) s.heap.objs.size f cdv))->sp vs H Q E ->
   ∃t,PSs (cxOf CX0 P w K mg base N qual (ap st) f cdv A outer s H E).nox (bB st) t/\t { nx:=λ_ H'=>Q .non H',rt:=Q } (start N vs) H):FnOk P w K mg base CX0 (k+1) f fd ps sp:=by
 obtain⟨oc,od,kV,doc,pm,an,cdv,ct,osl,rfl,lk,hcd⟩:=F.ex;refine eU lk hcd S len λA outer s H vs Q E hr hsp=>?_;obtain⟨t,h,q⟩:=hbody cdv A outer s H vs Q E hr hsp;exact⟨t,h.nox,q⟩
theorem Fun.binds {st:Stmt} {f:Addr} {fd:FuncData} {ps:List Str} (F:Fun K x qual st f fd)
  (h:∀(kV doc pm:Value) (an:Option Addr) (cdv ct:Value) (us:List Value),us.length=ps.length->bindArgs (PySem.W.fnOf x qual (bM st) (bB st) (ap st) .none kV doc pm an cdv ct) ⟨us,[]⟩=pure (ps.zip us)):b9 K fd ps []:=by
 obtain⟨oc,od,kV,doc,pm,an,cdv,ct,osl,rfl,lk,hcd⟩:=F.ex;exact .all (h kV doc pm an cdv ct)
theorem oW {st:Stmt} {f:Addr} {oc:Value} {od an:Option Addr} {osl:Array (Option Value)} {kV doc pm cdv ct:Value} (l:K.lookup f=some ⟨oc,od,.func (PySem.W.fnOf x qual (bM st) (bB st) (ap st) .none kV doc pm an cdv ct),osl⟩)
  (c:PySem.W.codeIn K cdv qual=true) (k:PySem.W.keepIn K (.ref f)=true):Fun K x qual st f (PySem.W.fnOf x qual (bM st) (bB st) (ap st) .none kV doc pm an cdv ct):=⟨⟨oc,od,kV,doc,pm,an,cdv,ct,osl,rfl,l,c⟩,k⟩
end
theorem lX {A:Around} {k:Nat} (hr:Room k A):A.units+1<cLine:=Nat.lt_of_le_of_lt (Nat.add_le_add_left (by decide:1<=64) _) hr.units
section
variable {X:Cx}
theorem pv (i:Nat) {x:Str} {pos:Pos} (hN:X.N[i]?=some x:=by rfl) (hv:Vis X.env.scope x:=by first|exact Or.inl rfl|exact Or.inr (Or.inl rfl)|exact Or.inr (Or.inr rfl)) (hd:(x==("__debug__" : Str))=false:=by decide)
  (hcd:(x==("__classdict__" : Str))=false:=by decide):PE X (.Name x pos) (bA i):=sw hN hv hd hcd
end
variable {A B c:Prop}
theorem iteF (h:B):if false=true then A else B:=by
 rw[QB Qm];exact h
theorem cc (h:A):if true=true then A else B:=by
 rw[QH rfl];exact h
theorem ce [Decidable c] (h1:c->A) (h2:¬c->B):if c then A else B:=by
 by_cases h:c
 ·rw[QH h];exact h1 h
 rw[QB h];exact h2 h
def aj (H H':Hp):Prop:=∀b o,H b=some o->H' b=some o
theorem aj.refl (H:Hp):aj H H:=λ_ _ h=>h
theorem aj.trans {H H1 H2:Hp} (a:aj H H1) (b:aj H1 H2):aj H H2:=λc o h=>b c o (a c o h)
theorem aj.free {H H':Hp} (e:aj H H') {l:Addr} (h:H' l=Option.none):H l=Option.none:=by
 cases q:H l with
 | none=>rfl
 | some o =>
 rw[e l o q]at h;cases h
theorem aj.seq {K:PySem.W.Frag} {H H':Hp} {a:Addr} {xs:List V} (e:aj H H') (h:SqL K H a xs):SqL K H' a xs:=by
 rcases h with(h|⟨o,h⟩)|h
 ·exact .inl (.inl (e _ _ h))
 ·exact .inl (.inr ⟨o,e _ _ h⟩)
 exact .inr h
section
variable {κ:Type} [DecidableEq κ]
end
section
variable {X:Cx}
end
end L2
set_option maxHeartbeats 4000000
namespace L2
open PySem PySem.Spec PyProof.Rows
def wk:St->St->Prop
 | [],[]=>True
 | none::a,_::b=>wk a b
 | some x::a,y::b=>y=some x/\wk a b
 | _,_=>False
theorem iG:∀{a b:St},wk a b->a.length=b.length
 | [],[],_=>rfl
 | [],_::_,h=>h.elim
 | none::_,[],h=>h.elim
 | some _::_,[],h=>h.elim
 | none::a,_::b,h=>congrArg (·+1) (iG (a:=a) (b:=b) h)
 | some _::a,_::b,h=>congrArg (·+1) (iG (a:=a) (b:=b) h.2)
theorem iH:∀{a b:St},wk a b->∀(i:Nat) (v:V),a[i]?=some (some v)->b[i]?=some (some v)
 | [],[],_,i,v,e=>by simp at e
 | [],_::_,h,_,_,_=>h.elim
 | none::_,[],h,_,_,_=>h.elim
 | some _::_,[],h,_,_,_=>h.elim
 | none::a,y::b,h,0,v,e=>by simp at e
 | none::a,y::b,h,i+1,v,e=>by
  have:=iH (a:=a) (b:=b) h i v (by simpa using e);simpa using this
 | some x::a,y::b,h,0,v,e=>by
  have e':x=v:=by simpa using e
  subst e';rw[h.1];rfl
 | some x::a,y::b,h,i+1,v,e=>by
  have:=iH (a:=a) (b:=b) h.2 i v (by simpa using e);simpa using this
def b8 (env:Env):List (Str × NameKind)->List (Str × Addr)->List (Str × Addr)
 | [],acc=>acc
 | (n,k)::r,acc=>b8 env r (if (k==.free)=true then (n,(env.cells.lookup n).getD 0)::acc else acc)
theorem gC {env:Env}:∀(ns:List (Str × NameKind)) (acc:List (Str × Addr)),(∀y∈ns,y.2=.free->∃c,env.cells.lookup y.1=some c) ->
  (forIn ns acc (fun x r=>match x with
   | (name,kind)=>if (kind==NameKind.free)=true then (do let c <-cellOf env name;pure (ForInStep.yield ((name,c)::r))) else pure (ForInStep.yield r)):Sem (List (Str × Addr)))=pure (b8 env ns acc)
 | [],acc,_=>rfl
 | (n,k)::r,acc,h=>by
  rw[List.forIn_cons];have ih:=λa=>gC (env:=env) r a λy hy=>h y (Qp _ hy);by_cases hk:(k==NameKind.free)=true
  ·obtain⟨c,hc⟩:=h (n,k) xn (by simpa using hk);have e1:cellOf env n=pure c:=by unfold cellOf;rw[hc]
   simp only[hk,if_true,e1,pure_bind];unfold b8;simp only[hk,if_true,hc,Option.getD_some];exact ih _
  simp only[hk,if_false,pure_bind];unfold b8;simp only[hk,if_false];exact ih _
variable {env:Env} {scope:Scope}
theorem gD (h:∀y∈scope.names,y.2=.free->∃c,env.cells.lookup y.1=some c):closureFor scope env=pure (b8 env scope.names []):=by
 have e:=gC scope.names [] h;unfold closureFor
 first
  | (rw[show (forIn scope.names ([]:List (Str × Addr)) _:Sem (List (Str × Addr)))=pure (b8 env scope.names []) from e];rfl)
  | (simp only[bind_pure];exact e)
  | exact(congrArg (· >>= pure) e)
theorem fo {env:Env}:∀(ns:List (Str × NameKind)) (acc:List (Str × Addr)) (n:Str) (a:Addr),(n,a)∈b8 env ns acc->(n,a)∈acc\/(a=(env.cells.lookup n).getD 0/\(n,NameKind.free)∈ns)
 | [],acc,n,a,h=>.inl h
 | (m,k)::r,acc,n,a,h=>by
  unfold b8 at h;by_cases hk:(k==NameKind.free)=true
  ·rw[QH hk]at h;rcases fo r _ n a h with q|⟨q1,q2⟩
   ·rcases Q5.mp q with q|q
    ·cases q;have hk':k=.free:=by simpa using hk
     subst hk';exact .inr ⟨rfl,xn⟩
    exact .inl q
   exact .inr ⟨q1,Qp _ q2⟩
  rw[QB hk]at h;rcases fo r _ n a h with q|⟨q1,q2⟩
  ·exact .inl q
  exact .inr ⟨q1,Qp _ q2⟩
theorem iw {env:Env}:∀(ns:List (Str × NameKind)) (acc:List (Str × Addr)) (p:Str × Addr),p∈acc->p∈b8 env ns acc
 | [],_,_,h=>h
 | (m,k)::r,acc,p,h=>by
  unfold b8;refine iw r _ p ?_
  split
  ·exact Qp _ h
  exact h
theorem gB {env:Env}:∀(ns:List (Str × NameKind)) (acc:List (Str × Addr)) (n:Str),(n,NameKind.free)∈ns->(n,(env.cells.lookup n).getD 0)∈b8 env ns acc
 | [],_,_,h=>nomatch h
 | (m,k)::r,acc,n,h=>by
  unfold b8;rcases Q5.mp h with q|q
  ·cases q;refine iw r _ _ ?_;rw[QH (by rfl)];exact xn
  exact gB r _ n q
theorem c8 {α β:Type} [BEq α] [LawfulBEq α]:∀{l:List (α × β)} {x:α} {y:β},l.lookup x=some y->(x,y)∈l
 | [],_,_,h=>by simp at h
 | (a,b)::r,x,y,h=>by
  rw[QV]at h;by_cases e:(x==a)=true
  ·rw[e]at h;have e':x=a:=by simpa using e
   have h':b=y:=by simpa using h
   subst e' h';exact xn
  have e2:(x==a)=false:=by simpa using e
  rw[e2]at h;exact Qp _ (c8 (by simpa using h))
theorem dX {α β:Type} [BEq α] [LawfulBEq α]:∀{l:List (α × β)} {x:α} {y:β},(x,y)∈l->∃z,l.lookup x=some z
 | [],_,_,h=>nomatch h
 | (a,b)::r,x,y,h=>by
  rw[QV];by_cases e:(x==a)=true
  ·rw[e];exact⟨b,rfl⟩
  have e2:(x==a)=false:=by simpa using e
  rw[e2];rcases Q5.mp h with q|q
  ·cases q;simp at e
  exact dX q
variable {c it e T a p:Addr} {x z:Str} {ns:List (Str × NameKind)}
theorem ph (h:(b8 env ns []).lookup x=some c) (hall:∀y∈ns,y.2=.free->∃c,env.cells.lookup y.1=some c):env.cells.lookup x=some c:=by
 rcases fo ns [] x c (c8 h) with q|⟨q1,q2⟩
 ·nomatch q
 obtain⟨c',hc⟩:=hall _ q2 rfl;have hc':env.cells.lookup x=some c':=hc;rw[hc']at q1;rw[hc',q1];rfl
theorem me {env:Env} (h:(x,NameKind.free)∈ns):∃c,(b8 env ns []).lookup x=some c:=dX (gB ns [] x h)
noncomputable def Cx.block (X:Cx) (N:List Str) (scope:Scope) (C:Addr) (s:Shared) (H:Hp) (fp:A3):Cx :=
 { X with N:=N,s₀:=s,H₀:=H,env:=compEnvC scope (b8 X.env scope.names []) C X.env,outer:=X.stack,ex:=fp,fn:=λ_=>false,pn:=[],xe:=λ_ _=>False }
theorem iY {k:NameKind} (h:(relabel scope env).names.lookup x=some k):∃k',scope.names.lookup x=some k'/\(k=k'\/(k'=.free/\k=.cell)):=by
 unfold relabel at h;generalize scope.names=ns at h
 induction ns with
 | nil=>simp at h
 | cons p r ih =>
 obtain⟨n,k0⟩:=p;rw[Qs]at h;by_cases e:(x==n)=true
 ·refine⟨k0,by rw[QV,e],?_⟩;by_cases c:(k0==NameKind.free&&env.scope.kind==.function&&env.kindOf n==some .cell)=true
  ·have h1:some NameKind.cell=some k:=by
    have h2:=h;simp only[c,if_true]at h2;rw[QV,e]at h2;exact h2
   have h3:k0=.free:=by
    simp only[xp,beq_iff_eq]at c;exact c.1.1
   exact .inr ⟨h3,(QO h1).symm⟩
  have h1:some k0=some k:=by
   have h2:=h;simp only[c,QK,if_false]at h2;rw[QV,e]at h2;exact h2
  exact .inl (QO h1).symm
 have e2:(x==n)=false:=by simpa using e
 rw[QV,e2];refine ih ?_;by_cases c:(k0==NameKind.free&&env.scope.kind==.function&&env.kindOf n==some .cell)=true
 ·have h2:=h;simp only[c,if_true]at h2;rw[QV,e2]at h2;exact h2
 have h2:=h;simp only[c,QK,if_false]at h2;rw[QV,e2]at h2;exact h2
theorem iZ (h:scope.names.lookup x=some .free):(relabel scope env).names.lookup x=some .cell\/(relabel scope env).names.lookup x=some .free:=by
 unfold relabel;show List.lookup x (scope.names.map _)=_\/List.lookup x (scope.names.map _)=_;generalize scope.names=ns at h
 induction ns with
 | nil=>simp at h
 | cons p r ih =>
 obtain⟨n,k0⟩:=p;rw[Qs];by_cases e:(x==n)=true
 ·rw[QV,e]at h;have h':k0=.free:=by simpa using h
  subst h';by_cases c:(NameKind.free==NameKind.free&&env.scope.kind==.function&&env.kindOf n==some .cell)=true
  ·left
   simp only[c,if_true];rw[QV,e]
  right
  simp only[c,QK,if_false];rw[QV,e]
 have e2:(x==n)=false:=by simpa using e
 rw[QV,e2]at h;have h3:=ih h;by_cases c:(k0==NameKind.free&&env.scope.kind==.function&&env.kindOf n==some .cell)=true
 ·simp only[c,if_true];rw[QV,e2];exact h3
 simp only[c,QK,if_false];rw[QV,e2];exact h3
def qP (X:Cx) (ifs:List Expr) (t:TT):Prop :=
 ∀(pins:A1) (s:Shared) (σ:St) (H:Hp) (Q:Bool->Hp->Prop),Inv X pins σ H s->t σ H Q ->
  wpAny (model X.prog X.w) X.A (forIn ifs true λc r=>if r=true then do let ok <-isTrue c X.env (eval c X.env);pure (ForInStep.yield ok) else pure (ForInStep.yield r)) (TP X pins σ Q) X.xe s
def fB:TT:=λ_ H Q=>Q true H
theorem dB {X:Cx}:qP X [] fB:=λ_ _ _ H _ I h=>wpAny_tests_nil ⟨H,I,h⟩
theorem jN {X:Cx} {c:Expr} {t:TT} (h:PT X c t):qP X [c] t:=λpins s σ H Q I hw=>wpAny_tests_one (h pins s σ H Q I hw)
variable {pos px:Pos}
theorem eV {prog:Program} {w:World} {A:Around} {R:Result->Shared->Prop} {s:Shared} {elt target iter:Expr} {ifs:List Expr} {it acc:Value} (I:Nat->Shared->Prop)
  (turn:∀n s,I n s->wpAny (model prog w) A (pyNext it) (fun r s1=>match r with
   | none=>R (.ok .next) s1
   | some v=>wpAny (model prog w) A (letOwnedTupleGo target it v) (λ_ s2=>wpAny (model prog w) A (assign target env v) (λ_ s3 =>
     wpAny (model prog w) A (forIn ifs true λc r=>if r=true then do let ok <-isTrue c env (eval c env);pure (ForInStep.yield ok) else pure (ForInStep.yield r)) (λok s4 =>
      if ok=true then wpAny (model prog w) A (eval elt env) (λx s5 =>
       wpAny (model prog w) A (call (.builtin "list.append") [acc,x]) (λ_ s6=>∃m,m<n/\I m s6) (λ_ _=>False) s5) (λ_ _=>False) s4
      else ∃m,m<n/\I m s4) (λ_ _=>False) s3) (λ_ _=>False) s2) (λ_ _=>False) s1) (λ_ _=>False) s)
  (n:Nat) (h:I n s):codeAny (model prog w) A (.compLoop (.ListComp elt [⟨target,iter,ifs,0⟩] scope pos) 0 it acc env) R s:=by
 refine codeAny_loop rfl I (λn s hI=>?_) n h;show wpAny _ A ((compTurn (.ListComp elt [⟨target,iter,ifs,0⟩] scope pos) 0 it acc env).onRaise (λx=>do noteFrame x env;theTreesLotGoes x)) _ _ s;refine wpAny_noted ?_;rw[compTurn_list];have no:∀{E:A0},∀e s',(λ(_:Value) (_:Shared)=>False) e s'->E e s':=λ_ _ z=>False.elim z;refine Qa (wpAny_standAt (Qa (Q1 (turn n s hI) (λr s1 h1=>?_) no)))
 cases r with
 | none=>exact Qg h1
 | some v =>
 refine Qa (Q1 h1 (λ_ s2 h2=>?_) no);refine Qa (Q1 h2 (λ_ s3 h3=>Qa (Q1 h3 (λok s4 h4=>?_) no)) no)
 cases ok with
 | false=>exact Qg ⟨rfl,h4⟩
 | true =>
 exact Qa (Qa (Q1 h4 (λx s5 h5=>Qa (Q1 h5 (λ_ s6 h6=>Qg (Qg ⟨rfl,h6⟩)) no)) no))
def bw (tgs:List Str) (cap:List (Str × Nat)) (σ:St):St:=tgs.map (λ_=>none)++cap.map λc=>(σ[c.2]?).join
def fP (wi:TI) (g:TG) (tt:TT) (te:TE) (f:St->St):TE:=λσ H Q=>wi σ H λJ H1=>∀D,H1 D=none->∃W:Nat->Nat->Hp->List V->Prop,(∃m,W 0 m (upd H1 D (.lst [])) []) /\
 ∀i m H ys,W i m H ys->H D=some (.lst ys)/\((J.stop i H/\Q (.ref D) H)\/(J.go i H/\∀x H',J.yld i H x H'->g x (f σ) H' λσ2 H2=>wk (f σ) σ2/\tt σ2 H2 λb H3 =>
  if b=true then te σ2 H3 λv H4=>H4 D=some (.lst ys)/\ys.length<sizeLine/\∃m',m'<m/\W (i+1) m' (upd H4 D (.lst (ys++[v]))) (ys++[v])
  else ∃m',m'<m/\W (i+1) m' H3 ys))
structure BlockOk (X:Cx) (scope:Scope) (tgs:List Str) (cap:List (Str × Nat)):Prop where
 kind:scope.kind=.function
 nocell:(scope.names.all λy=>!(y.2==NameKind.cell))=true
 names:(scope.names.all λy=>!(y.2==NameKind.local) || (scope.names.lookup y.1==some .local))=true
 free:(scope.names.all λy=>!(y.2==NameKind.free) || (X.env.scope.names.lookup y.1==some .cell) || (X.env.scope.names.lookup y.1==some .free))=true
 caps:(cap.all λc=>decide (X.N[c.2]?=some c.1)&&(scope.names.lookup c.1==some .free)&&(decide (X.env.scope.names.lookup c.1=some .cell) || decide (X.env.scope.names.lookup c.1=some .free)))=true
 tgl:(tgs.all λx=>(scope.names.lookup x==some .local))=true
section
variable {X:Cx} {scope:Scope} {tgs:List Str} {cap:List (Str × Nat)}
theorem BlockOk.cellAt (B:BlockOk X scope tgs cap) (ok:X.Ok):∀y∈scope.names,y.2=.free->∃c,X.env.cells.lookup y.1=some c:=λy hy hk=>by
 have q:=xg.mp B.free y hy;rw[hk]at q;refine ok.has y.1 ?_;simp only[beq_self_eq_true,Bool.not_true,Bool.false_or,Bool.or_eq_true,beq_iff_eq]at q;exact q
theorem BlockOk.noc (B:BlockOk X scope tgs cap):∀y∈scope.names,y.2≠.cell:=λy hy hk=>by
 have q:=xg.mp B.nocell y hy;rw[hk]at q;simp at q
theorem BlockOk.locs (B:BlockOk X scope tgs cap):∀y∈scope.names,y.2=.local->scope.names.lookup y.1=some .local:=λy hy hk=>by
 have q:=xg.mp B.names y hy;rw[hk]at q;simpa using q
variable {pins:A1}
theorem Inv.enter {σ:St} {H:Hp} {s:Shared} {h1:Heap} {tk:Nat} {fp:A3} (B:BlockOk X scope tgs cap) (I:Inv X pins σ H s) (hfp:∀b∈fp,eB X pins H b) (hlt:∀b∈fp,b<s.heap.objs.size)
  (hns:h1.Ns s.heap.objs.size (λ_=>none)) (old:∀b o,s.heap.get? b=some o->h1.get? b=some o) :
  Inv (X.block (tgs++cap.map (·.1)) scope s.heap.objs.size s H fp) [] (bw tgs cap σ) H { s with heap:=h1,toks:=tk }:=by
 have cellsIn:∀x c,(b8 X.env scope.names []).lookup x=some c->X.env.cells.lookup x=some c:=λx c e=>ph e (B.cellAt I.ok)
 have kindIn:∀x,((relabel scope X.env).names.lookup x=some .cell\/(relabel scope X.env).names.lookup x=some .free)->(x,NameKind.free)∈scope.names:=λx hx=>by
  have go:∀k,(relabel scope X.env).names.lookup x=some k->(k=.cell\/k=.free)->(x,NameKind.free)∈scope.names:=λk hk hc=>by
   obtain⟨k',e1,e2⟩:=iY hk;have m:=c8 e1;rcases e2 with e2|⟨e2,_⟩
   ·subst e2;rcases hc with z|z
    ·exact absurd z (B.noc _ m)
    subst z;exact m
   subst e2;exact m
  rcases hx with h|h
  ·exact go _ h (.inl rfl)
  exact go _ h (.inr rfl)
 have nocl:∀x c,X.env.cells.lookup x=some c->c≠s.heap.objs.size:=λx c e=>by
  obtain⟨v,q⟩:=I.cell x c e;exact Qy q.lt
 refine⟨⟨I.ok.mod,?_,I.ok.glob,I.ok.blt,Qh _,λx y c e1 e2=>I.ok.inj x y c (cellsIn x c e1) (cellsIn y c e2),λx hx=>?_,λx c hf _=>absurd (show false=true from hf) Qm,I.ok.hd,I.ok.frames,.inl rfl,
  λb hb=>⟨Qy (hlt b hb),λx c e=>?_⟩,I.bs,QQ I.ok.bsz I.sz,λb o e hb=>?_,λb hb hf=>?_,I.stack,I.stkFree⟩,
  rfl,I.bare,Un.kept old,⟨_,hns,λi x v h2 h3 h4=>?_⟩,λx c e=>?_,?_,λx c e=>I.freeC x c (cellsIn x c e),λp hp=>absurd (show p∈([]:A1) from hp) (by simp),I.hok.kept old,?_⟩
 ·exact B.kind
 ·exact me (kindIn x hx)
 ·exact(hfp b hb).2.2.2.2.1 x c (cellsIn x c e)
 ·-- no object of the base is an iterator of ours
  rcases(hfp b hb).2.2.2.1 with z|z
  ·exact I.ok.noex b o e z
  have q:=I.ok.bs b o e;exact absurd (Qv (Qk q.1) z) (Nat.lt_irrefl _)
 ·have hf':b∈frs X.stack:=hf;rcases Q5.mp (I.stkSub b hf') with z|z
  ·exact(hfp b hb).2.1 z
  exact(hfp b hb).2.2.1 z
 ·-- a name that is known: one of the captured ones
  have hi:tgs.length<=i:=by
   by_cases hl:i<tgs.length
   ·exfalso;unfold bw at h3;rw[xj (by simpa using hl),Ql]at h3
    cases e:tgs[i]? with
    | none=>rw[e]at h3;cases h3
    | some z=>rw[e]at h3;cases h3
   exact om2 hl
  unfold bw at h3;rw[Q4 (by simpa using hi),Qb,Ql]at h3;have h2':(tgs++cap.map (·.1))[i]?=some x:=h2;rw[Q4 hi,Ql]at h2'
  cases e:cap[i-tgs.length]? with
  | none=>rw[e]at h2';cases h2'
  | some c =>
  rw[e]at h2' h3;have hx:c.1=x:=by simpa using h2'
  have hv:(σ[c.2]?).join=some v:=by simpa using h3
  have hm:c∈cap:=QP e;have q:=xg.mp B.caps c hm;simp only[xp,decide_eq_true_eq,beq_iff_eq,Bool.or_eq_true]at q;obtain⟨⟨q1,q2⟩,q3⟩:=q
  have hσ:σ[c.2]?=some (some v):=by
   cases z:σ[c.2]? with
   | none=>rw[z]at hv;cases hv
   | some o =>
   rw[z]at hv;have:o=some v:=by simpa using hv
   rw[this]
  obtain⟨m,_,hl⟩:=I.loc
  obtain⟨u,r,l⟩:=hl c.2 c.1 v q1 hσ (by
   rcases q3 with z|z
   ·exact .inr (.inl z)
   exact .inr (.inr z))
  subst hx;refine⟨u,r,.inr ⟨iZ q2,?_⟩⟩
  have nl:¬X.env.kindOf c.1=some .local:=λz=>by
   rcases q3 with y|y
   ·have:X.env.kindOf c.1=some .cell:=y;rw[this]at z;cases z
   have:X.env.kindOf c.1=some .free:=y;rw[this]at z;cases z
  rcases l with⟨l1,_⟩|⟨_,d,l2,l3⟩
  ·exact absurd l1 nl
  obtain⟨d',e'⟩:=me (env:=X.env) (c8 q2);have:d=d':=QO (l2.symm.trans (cellsIn _ _ e'));subst this;obtain⟨oc,ho,hd⟩:=l3;exact⟨d,e',oc,old d oc ho,hd⟩
 ·obtain⟨v,oc,ho,hd⟩:=I.cell x c (cellsIn x c e);exact⟨v,oc,old c oc ho,hd⟩
 ·exact I.hok.fresh (Qh _)
 unfold bw;show _=(tgs++cap.map (·.1)).length;simp
theorem Inv.leave {σ σ':St} {H H':Hp} {s s':Shared} {h2:Heap} {fp:A3} {N:List Str} (I:Inv X pins σ H s) (hfp:∀b∈fp,eB X pins H b)
  (J:Inv (X.block N scope s.heap.objs.size s H fp) [] σ' H' s') (hs:Heap.SameBut s.heap.objs.size s'.heap h2):Inv X pins σ H' { s' with heap:=h2 }:=by
 have u:Un (frs X.stack) fp H H' s.heap s'.heap:=J.base;have ne:∀b o,s.heap.get? b=some o->b≠s.heap.objs.size:=λb o e=>Qy (Qk e);have hf:H' s.heap.objs.size=none:=J.free;have k:∀b o,b≠s.heap.objs.size->s'.heap.get? b=some o->h2.get? b=some o:=λb o hb e=>(hs.2 b hb).trans e
 have u2:Un (frs X.stack) fp H H' s.heap h2 :=
  ⟨λb o e n h1 h3=>k b o (ne b o e) (u.keep b o e n h1 h3),λb o e n h1 h3=>let ⟨sl,q⟩:=u.slot b o e n h1 h3;⟨sl,k b _ (ne b o e) q⟩,u.free,λb o e h3=>let ⟨o',q⟩:=u.there b o e h3;⟨o',k b o' (ne b o e) q⟩,u.tups,u.frzs,u.tbls⟩
 have hok:HOk X.prog X.w H' h2:=λb ob e=>(J.hok b ob e).stay (λc v hc q=>k c v (by
  rcases hc with z|z
  ·subst z;intro y;rw[y,hf]at e;cases e
  intro y
  rw[y,hf]at z;cases z) q) (λ_ q=>q) λ_ _ q=>q
 exact Inv.call' I (s':={ s' with heap:=h2 }) J.os u2 hok J.bare λb hb=>by
  obtain⟨f0,f1,f2,f3,f4,f5⟩:=hfp b hb;exact⟨f3,f1,f4,f5⟩
theorem lL {elt tg iter:Expr} {ifs:List Expr} {pos:Pos} {wi:TI} {g:TG} {tt:TT} {te:TE} (hc:X.calm=true) (B:BlockOk X scope tgs cap) (hi:PI X tg iter wi)
  (hg:∀C s H fp,PG (X.block (tgs++cap.map (·.1)) scope C s H fp) tg g) (ht:∀C s H fp,qP (X.block (tgs++cap.map (·.1)) scope C s H fp) ifs tt) (he:∀C s H fp,PE (X.block (tgs++cap.map (·.1)) scope C s H fp) elt te)
  (hs:∀x,foldedSetIterable iter X.env x=pure x:=by intro _;rfl):PE X (.ListComp elt [⟨tg,iter,ifs,0⟩] scope pos) (fP wi g tt te (bw tgs cap)):=by
 intro pins s σ H Q I h;rw[eval_ListComp];refine wpAny_comprehension_free (use:=none) rfl hs (gD (B.cellAt I.ok)) B.kind B.locs (thn (hi pins s σ H _ I h) λv s1 h1=>thn h1 λitv s2 h2=>?_);obtain⟨it,fp,tn,J,H2,e,I2,T,st2,f2,q⟩:=h2;subst e;have lt2:∀b∈fp,b<s2.heap.objs.size:=λb hb=>let ⟨o,e,_⟩:=T.obj _ _ st2 b hb;Qk e;have hD:H2 s2.heap.objs.size=none:=I2.hok.fresh (Qh _);obtain⟨W,⟨m0,w0⟩,turn⟩:=q s2.heap.objs.size hD;refine wpAny_newObj_type ?_;have I3:Inv X pins σ (upd H2 s2.heap.objs.size (.lst [])) { s2 with heap:=s2.heap.push { cls:=.type "list", dict:=none,data:=.seq ([]:List Value).toArray } }:=I2.lnew (t':=s2.toks) (ys:=[]) (its:=[]) .nil (QZ _);have st3:tn 0 (s2.heap.push { cls:=.type "list", dict:=none,data:=.seq ([]:List Value).toArray }):=T.keep _ _ _ st2 λb _ o e=>Qc _ e;have nD:∀b∈fp,b≠s2.heap.objs.size:=λb hb=>Qy (lt2 b hb);have f3:∀b∈fp,eB X pins (upd H2 s2.heap.objs.size (.lst [])) b:=λb hb=>⟨by rw[am (nD b hb)];exact(f2 b hb).1,(f2 b hb).2⟩;generalize hs3:({ s2 with heap:=s2.heap.push { cls:=.type "list", dict:=none,data:=.seq ([]:List Value).toArray } }:Shared)=s3 at I3 st3 ⊢;have st3':tn 0 s3.heap:=by rw[<-hs3];exact st3
 have lt3:∀b∈fp,b<s3.heap.objs.size:=λb hb=>let ⟨o,e,_⟩:=T.obj _ _ st3' b hb;Qk e;generalize hH3:upd H2 s2.heap.objs.size (.lst [])=H3 at I3 f3 w0;generalize s2.heap.objs.size=D at *;refine wpAny_newFunctionEnv B.noc (by intro y hy;simp at hy) (λh1 hns hsb=>?_) B.kind;have old:∀b o,s3.heap.get? b=some o->h1.get? b=some o:=λb o e=>hsb.extBut b o (Qy (Qk e)) (Qc _ e);have I4:=Inv.enter (tk:=s3.toks+([]:List (Str × Value)).length) (h1:=h1) B I3 f3 lt3 hns old;have st4:tn 0 h1:=T.keep _ _ _ st3' λb _ o e=>old b o e
 have fpB:∀{H':Hp},(∀b∈fp,H' b=none)->∀b∈fp,eB (X.block (tgs++cap.map (·.1)) scope s3.heap.objs.size s3 H3 fp) [] H' b:=λ{H'} hn b hb =>
  ⟨hn b hb,Qy (lt3 b hb),I4.ok.exfs b hb,.inl hb,λx c e=>(I4.ok.exf b hb).2 x c e,λp hp=>absurd (show p∈([]:A1) from hp) (by simp)⟩
 have loop:codeAny (model X.prog X.w) X.A (.compLoop (.ListComp elt [⟨tg,iter,ifs,0⟩] scope pos) 0 (.ref it) (.ref D) (compEnvC scope (b8 X.env scope.names []) s3.heap.objs.size X.env))
   (compPost (model X.prog X.w) X.A X.xe none (EP X pins σ Q) (.ref D) s3.heap.objs.size) { s3 with heap:=h1,toks:=s3.toks+([]:List (Str × Value)).length }:=by
  refine eV (λn s'=>∃i H' ys,Inv (X.block (tgs++cap.map (·.1)) scope s3.heap.objs.size s3 H3 fp) [] (bw tgs cap σ) H' s'/\tn i s'.heap/\(∀b∈fp,H' b=none)/\W i n H' ys) ?_ m0 ⟨0,H3,[],I4,st4,λb hb=>(f3 b hb).1,w0⟩;rintro n s5 ⟨i,H5,ys,I5,st5,fr5,w5⟩;obtain⟨hl,ht5⟩:=turn i n H5 ys w5;rcases ht5 with⟨stop,qd⟩|⟨go,step⟩
  ·refine thn (T.done (X.block (tgs++cap.map (·.1)) scope s3.heap.objs.size s3 H3 fp) rfl rfl rfl hc i [] s5 _ H5 _ I5 (fpB fr5) st5 stop) λr s6 ⟨hr,I6⟩=>?_;subst hr;obtain⟨m6,n6,_⟩:=I6.loc;exact⟨m6,n6,λh' hs'=>⟨.ref D,H5,Inv.leave I3 f3 I6 hs',rfl,qd⟩⟩
  refine thn (T.item (X.block (tgs++cap.map (·.1)) scope s3.heap.objs.size s3 H3 fp) rfl rfl rfl hc i [] s5 _ H5 _ I5 (fpB fr5) st5 go) λr s6 ⟨u,hr,h6⟩=>?_;subst hr;refine thn h6 λ_ s7 ⟨x,H7,I7,r7,y7,st7,fr7⟩=>?_;have I7':=I7.pinned (fpB fr7) (T.obj _ _ st7)
  have again:∀{σ8:St} {H8:Hp} {s8:Shared} {ys8:List V},Inv (X.block (tgs++cap.map (·.1)) scope s3.heap.objs.size s3 H3 fp) ([]++fj fp s7.heap) σ8 H8 s8->wk (bw tgs cap σ) σ8->(∃m',m'<n/\W (i+1) m' H8 ys8) ->
    ∃m,m<n/\∃i H' ys,Inv (X.block (tgs++cap.map (·.1)) scope s3.heap.objs.size s3 H3 fp) [] (bw tgs cap σ) H' s8/\tn i s8.heap/\(∀b∈fp,H' b=none)/\W i m H' ys:=λ{σ8 H8 s8 ys8} I8 k8 ⟨m',hm,w8⟩=>by
   refine⟨m',hm,i+1,H8,ys8,I8.unpinned.weak (iG k8) (iH k8),T.keep _ _ _ st7 λb hb o e=>(I8.pin (b,o) (Qw _ (Qw _ (cb hb e)))).1,λb hb=>?_,w8⟩;obtain⟨o,e,d⟩:=T.obj _ _ st7 b hb;exact(I8.pin (b,o) (Qw _ (Qw _ (cb hb e)))).2.1
  refine thn (hg _ _ _ _ _ s7 _ H7 x u _ I7' r7 (step x H7 y7)) λ_ s8 ⟨σ8,H8,I8,k8,q8⟩=>?_;refine thn (ht _ _ _ _ _ s8 σ8 H8 _ I8 q8) λok s9 ⟨H9,I9,q9⟩=>?_
  cases ok with
  | false =>
   rw[QB Qm]at q9 ⊢;exact again I9 k8 q9
  | true =>
  rw[QH rfl]at q9 ⊢;refine thn (he _ _ _ _ _ s9 σ8 H9 _ I9 q9) λy sA ⟨yv,HA,IA,rA,hA,zA,qA⟩=>?_;exact thn (bg _ sA σ8 HA (.ref D) [yv] (.ref D) [y] (λv H'=>v=.non/\∃m',m'<n/\W (i+1) m' H' (ys++[yv])) IA rfl (.cons rA .nil) ⟨D,ys,yv,rfl,rfl,hA,zA,rfl,qA⟩) λ_ sB ⟨_,HB,IB,_,_,qB⟩=>again IB k8 qB
 exact codeAny_compStart_list loop (T.self _ 0 _ _ _ st4 loop)
theorem gb {X:Cx} {scope:Scope} {elt iter:Expr} {p pos:Pos} {wi:TI} {te:TE} (x:Str) (cap:List (Str × Nat)) (hi:PI X (.Name x p) iter wi) (he:∀C s H fp,PE (X.block ([x]++cap.map (·.1)) scope C s H fp) elt te) (hc:X.calm=true:=by rfl) (B:BlockOk X scope [x] cap:=by exact⟨rfl,rfl,rfl,rfl,rfl,rfl⟩) (hN:([x]++cap.map (·.1)).Nodup:=by decide +kernel) (hg:([x]++cap.map (·.1)).Nodup->∀C s H fp,PG (X.block ([x]++cap.map (·.1)) scope C s H fp) (.Name x p) (cK 0):=by intro h _ _ _ _;exact bW (i:=0) h rfl (by z_go)) (hs:∀x,foldedSetIterable iter X.env x=pure x:=by intro _;rfl):PE X (.ListComp elt [⟨.Name x p,iter,[],0⟩] scope pos) (fP wi (cK 0) fB te (bw [x] cap)):=lL hc B hi (hg hN) (λ_ _ _ _=>dB) he hs
end
def Itf (n:Nat) (f:Nat->V):It:=⟨λi _=>i<n,λi H x H'=>H'=H/\x=f i,λi _=>i=n⟩
variable {n i:Nat}
theorem fO {P:Program} {w:World} {K:PySem.W.Frag} {f:Nat->V} {Pv:Nat->Value->Prop} {St:Nat->Heap->Prop}
  (W:∀A:Around,A.handled=none->Walks P w A it [it] [it] n Pv St) (hP:∀i v,Pv i v->aU (f i) v) (hobj:∀i h,St i h->∃o,h.get? it=some o/\∀v,o.data≠.cell v)
  (hfr:∀i h h',St i h->(∀o,h.get? it=some o->h'.get? it=some o)->St i h')
  (hself:∀(A:Around) (i:Nat) (s:Shared) (Q:A0) (E:A0),St i s.heap->Q (.ref it) s->wpAny (model P w) A (pyIter (.ref it)) Q E s) :
  Turn P w K (.Name x px) (Itf n f) [it] it St where
 mem:=by simp
 obj:=λi h st b hb=>by
  have e:b=it:=by simpa using hb
  subst e;exact hobj i h st
 keep:=λi h h' st k=>hfr i h h' st λo e=>k it (by simp) o e
 item:=by
  intro X hP' hw hK hc i pins s σ H E I hf st hg;subst hP' hw hK;obtain⟨f0,f1,f2,f3,f4,f5⟩:=hf it (by simp);refine(W X.A (I.ok.hd hc)).item i s _ _ hg st λv h' tk hv st' kk=>?_;have I1:Inv X pins σ H { s with heap:=h',toks:=tk }:=I.turned (λb o hb e=>kk b o (by simpa using hb) e) f0 f1 f3 f4 f5;refine⟨v,rfl,wpAny_of_eq (a:=()) (by rfl) ⟨f i,H,I1,hP i v hv,⟨rfl,rfl⟩,st',λb hb=>(hf b hb).1⟩⟩
 done:=by
  intro X hP' hw hK hc i pins s σ H E I hf st hg;subst hP' hw hK;obtain⟨f0,f1,f2,f3,f4,f5⟩:=hf it (by simp);have e:i=n:=hg;subst e;exact(W X.A (I.ok.hd hc)).done s _ _ st λh' tk kk=>⟨rfl,I.turned (λb o hb e=>kk b o (by simpa using hb) e) f0 f1 f3 f4 f5⟩
 self:=λA i s Q E st h=>hself A i s Q E st h
def dj (z:Str) (i:Nat):V:=.str ⟨#[z.cps.getD i 0]⟩
theorem fX {v:Value} (h:SignAt z i v):aU (dj z i) v:=by
 obtain⟨c,u,h1,h2⟩:=h;subst h2;refine⟨u,?_⟩;have:z.cps.getD i 0=c:=by rw[Array.getD_eq_getD_getElem?,h1];rfl
 rw[this]
theorem nG {P:Program} {w:World} {K:PySem.W.Frag} {t:Tok} {ty:String} (hty:ty = "str_ascii_iterator" \/ ty = "str_iterator") :
  Turn P w K (.Name x px) (Itf z.cps.size (dj z)) [it] it (λi h=>h.IsStrIter it ty z t i):=by
 rcases hty with e|e
 ·subst e
  exact fO (λA hA=>Walks.strAscii hA it z t) (λi v h=>fX h) (λi h st=>let ⟨o,e,_,d⟩:=st;⟨o,e,λv q=>by rw[d]at q;cases q⟩)
   (λi h h' st k=>let ⟨o,e,r⟩:=st;⟨o,k o e,r⟩) λA i s Q E st q=>wpAny_pyIter_striter_ascii st q
 subst e
 exact fO (λA hA=>Walks.strWide hA it z t) (λi v h=>fX h) (λi h st=>let ⟨o,e,_,d⟩:=st;⟨o,e,λv q=>by rw[d]at q;cases q⟩)
  (λi h h' st k=>let ⟨o,e,r⟩:=st;⟨o,k o e,r⟩) λA i s Q E st q=>wpAny_pyIter_striter_wide st q
section
variable {X:Cx} {x:Str} {px:Pos}
def uH (tl:TE):TI:=λσ H R=>tl σ H λv H1=>∃z:Str,v=.str z/\R (Itf z.cps.size (dj z)) H1
theorem oh {l:Expr} {tl:TE} (hl:PE X l tl):PI X (.Name x px) l (uH tl):=by
 intro pins s σ H R I h;refine thn (hl pins s σ H _ I h) λv s1 ⟨y,H1,I1,r1,q1⟩=>?_;obtain⟨z,e,q⟩:=q1;subst e;obtain⟨t,e⟩:=r1;subst e
 have fin:∀ty:String,(ty = "str_ascii_iterator" \/ ty = "str_iterator")->PIE X pins σ (.Name x px) R (.ref s1.heap.objs.size) { s1 with heap:=s1.heap.push { cls:=.type ty,data:=.fields #[.str z t,.int 0 0] } }:=λty hty=>by
  refine⟨s1.heap.objs.size,[s1.heap.objs.size],_,_,H1,rfl,I1.kept (t':=s1.toks) λb o e=>Qc _ e,nG (t:=t) hty,⟨_,Qn _ rfl,rfl,rfl⟩,λb hb=>?_,q⟩;have e:b=s1.heap.objs.size:=by simpa using hb
  subst e;exact I1.fpOk (Qh _) (I1.hok.fresh (Qh _))
 cases ha:z.cps.all (·<128) with
 | false=>exact wpAny_pyIter_wide ha (fin _ (.inr rfl))
 | true=>exact wpAny_pyIter_ascii ha (fin _ (.inl rfl))
end
section
variable {X:Cx}
def tQ:V->Option Int->Option Int->Hp->VK->Prop:=λx lo hi H Q=>∃z:Str,x=.str z/\z.length<=sizeLine/\Q (.str (Txt.slice z lo hi)) H
theorem cj:SlR X tQ:=by
 intro pins s σ H x v vl vu lo hi sl Q I rx hs pl pu h;obtain⟨z,e,hz,q⟩:=h;subst e;obtain⟨t,e⟩:=rx;subst e;refine⟨"str", _,F.slot_str_getitem.lookup,typeIs_str _ _ _,?_⟩;have fin:∀(t':Tok) (k:Nat),EP X pins σ Q (.str (Txt.slice z lo hi) t') { s with toks:=k }:=λt' k=>⟨.str _,H,I.tok k,⟨t',rfl⟩,q⟩
 cases pl with
 | none =>
  cases pu with
  | none=>exact wpAny_getItem_str_slice (l:=none) (u:=none) (st:=none) hs rfl (post_val_or_str ⟨QQ (Txt.slice_le z _ _) hz,fin⟩)
  | int j uj=>exact wpAny_getItem_str_slice (l:=none) (u:=some (j,uj)) (st:=none) hs rfl (post_val_or_str ⟨QQ (Txt.slice_le z _ _) hz,fin⟩)
 | int i ui =>
 cases pu with
 | none=>exact wpAny_getItem_str_slice (l:=some (i,ui)) (u:=none) (st:=none) hs rfl (post_val_or_str ⟨QQ (Txt.slice_le z _ _) hz,fin⟩)
 | int j uj=>exact wpAny_getItem_str_slice (l:=some (i,ui)) (u:=some (j,uj)) (st:=none) hs rfl (post_val_or_str ⟨QQ (Txt.slice_le z _ _) hz,fin⟩)
theorem d5:∀{ys:List Str} {us:List Value},aM (ys.map V.str) us->StrsAre us ys
 | [],_,r=>by
  rw[List.map_nil]at r;cases r;exact .nil
 | y::ys,_,r=>by
  rw[Qs]at r
  cases r with
  | cons r1 r2 =>
  obtain⟨t,e⟩:=r1;subst e;exact .cons y t (d5 r2)
def tR (K:PySem.W.Frag):V->List V->Hp->VK->Prop:=λx vs H Q=>∃(z:Str) (l:Addr) (ys:List Str),x=.str z/\vs=[.ref l]/\SqL K H l (ys.map V.str)/\(ys.map (·.length)).sum+ys.length*z.length<=16777216/\Q (.str (Txt.join z ys)) H
theorem lQ:MtR X "str.join" (tR X.K):=by
 intro pins s σ H x vs v us Q I rx rv h;obtain⟨z,l,ys,e1,e2,hl,hz,q⟩:=h;subst e1 e2;obtain⟨t,e⟩:=rx;subst e;obtain⟨u,e,ru⟩:=rv.one;subst e;cases ru;obtain⟨its,r,pl,_⟩:=I.list hl;exact join_list pl.isList (by simpa using d5 r) hz λt' k=>⟨.str _,H,I.tok k,⟨t',rfl⟩,q⟩
theorem ip (ys:List Str):(Txt.join Str.empty ys).cps.toList=(ys.map (·.cps.toList)).flatten:=by
 unfold Txt.join;rw[PySem.StrLaws.glued_eq_join]
 induction ys with
 | nil=>rfl
 | cons y r ih =>
 cases r with
 | nil=>simp[Str.join]
 | cons y2 r2 =>
 show (y++Str.empty++Str.join Str.empty (y2::r2)).cps.toList=_;rw[Qs,Q0,<-ih];show (y.cps++Str.empty.cps++(Str.join Str.empty (y2::r2)).cps).toList=_;simp[Str.empty]
end
inductive EqD (K:PySem.W.Frag) (H:Hp):Nat->V->V->Bool->Prop
 | flat {n:Nat} {x y:V}:cC x=true->cC y=true->EqD K H n x y (eqV x y)
 | same {n:Nat} {a:Addr}:EqD K H n (.ref a) (.ref a) true
 | lists {n:Nat} {a b:Addr} {xs ys:List V} {e:Nat->Bool}:SqL K H a xs->SqL K H b ys->xs.length=ys.length->(∀(j:Nat) x y,xs[j]?=some x->ys[j]?=some y->EqD K H n x y (e j))->a≠b ->
   EqD K H (n+1) (.ref a) (.ref b) ((List.range xs.length).all e)
 | tups {n:Nat} {a b:Addr} {xs ys:List V} {e:Nat->Bool}:SqT K H a xs->SqT K H b ys->(∀(j:Nat) x y,xs[j]?=some x->ys[j]?=some y->EqD K H n x y (e j))->a≠b ->
   EqD K H (n+1) (.ref a) (.ref b) ((List.range (min xs.length ys.length)).all e&&xs.length==ys.length)
theorem EqD.at {X:Cx} {pins:A1} {σ:St} {H:Hp} {s:Shared} (I:Inv X pins σ H s) {n:Nat} {x y:V} {b:Bool} (h:EqD X.K H n x y b) :
  ∀{A:Around} {u v:Value},A.units+n<cLine->aU x u->aU y v->SeqAt.EqAt A s u v b:=by
 induction h with
 | flat fx fy=>intro A u v _ rx ry;exact o9 rx ry fx fy
 | same =>
  intro A u v _ rx ry;cases rx;cases ry;exact SeqAt.EqAt.same _
 | @lists n a c xs ys e ha hb hl hi hne ih =>
  intro A u v hu rx ry;cases rx;cases ry;obtain⟨its,r1,p1,_⟩:=I.list ha;obtain⟨its2,r2,p2,_⟩:=I.list hb;have l1:=r1.length;have l2:=r2.length;refine SeqAt.EqAt.of_refs hne ?_
  have q:=SeqAt.RcAt.lists (A:=A) (e:=e) p1.isList p2.isList (by rw[Qe,Qe];exact om7 hl l1 l2) (by exact om8 hu) λj h1 h2=>by
   rw[Qe]at h1 h2;have e1:xs[j]?=some xs[j]:=Qd (by exact om9 hl l1 l2 h1);have e2:ys[j]?=some ys[j]:=Qd (by exact vd hl l1 l2 h1);obtain⟨w1,g1,rr1⟩:=r1.get e1;obtain⟨w2,g2,rr2⟩:=r2.get e2
   have g1':its.toArray[j]=w1:=by
    have:=(Qf.mp g1).2;simpa using this
   have g2':its2.toArray[j]=w2:=by
    have:=(Qf.mp g2).2;simpa using this
   rw[g1',g2'];exact ih j _ _ e1 e2 (by show A.units+1+n<cLine;exact uv hu) rr1 rr2
  rw[Qe,<-l1]at q;exact q
 | @tups n a c xs ys e ha hb hi hne ih =>
 intro A u v hu rx ry;cases rx;cases ry;obtain⟨its,r1,p1,_⟩:=I.tuple ha;obtain⟨its2,r2,p2,_⟩:=I.tuple hb;have l1:=r1.length;have l2:=r2.length;refine SeqAt.EqAt.of_refs hne ?_
 have q:=SeqAt.RcAt.tuples (A:=A) (e:=e) (show s.heap.IsTuple a its.toArray from p1) (show s.heap.IsTuple c its2.toArray from p2) (by exact om8 hu) λj h1 h2=>by
  rw[Qe]at h1 h2;have e1:xs[j]?=some xs[j]:=Qd (by exact ou l1 h1);have e2:ys[j]?=some ys[j]:=Qd (by exact ou l2 h2);obtain⟨w1,g1,rr1⟩:=r1.get e1;obtain⟨w2,g2,rr2⟩:=r2.get e2
  have g1':its.toArray[j]=w1:=by
   have:=(Qf.mp g1).2;simpa using this
  have g2':its2.toArray[j]=w2:=by
   have:=(Qf.mp g2).2;simpa using this
  rw[g1',g2'];exact ih j _ _ e1 e2 (by show A.units+1+n<cLine;exact uv hu) rr1 rr2
 rw[Qe,Qe,<-l1,<-l2]at q;exact q
section
variable {X:Cx}
theorem EqD.items {pins:A1} {σ:St} {H:Hp} {s:Shared} (I:Inv X pins σ H s) {n:Nat} {A:Around} (hu:A.units+1+n<cLine) {xs ys:List V} {its its2:List Value} (r1:aM xs its) (r2:aM ys its2) {e:Nat->Bool}
  (h:∀(j:Nat) x y,xs[j]?=some x->ys[j]?=some y->EqD X.K H n x y (e j)) (j:Nat) (h1:j<its.toArray.size) (h2:j<its2.toArray.size):SeqAt.EqAt A.in1 s its.toArray[j] its2.toArray[j] (e j):=by
 have l1:=r1.length;have l2:=r2.length;rw[Qe]at h1 h2;have e1:xs[j]?=some xs[j]:=Qd (by exact uu h1 l1);have e2:ys[j]?=some ys[j]:=Qd (by exact uu h2 l2);obtain⟨w1,g1,rr1⟩:=r1.get e1;obtain⟨w2,g2,rr2⟩:=r2.get e2
 have g1':its.toArray[j]=w1:=by
  have:=(Qf.mp g1).2;simpa using this
 have g2':its2.toArray[j]=w2:=by
  have:=(Qf.mp g2).2;simpa using this
 rw[g1',g2'];exact EqD.at I (h j _ _ e1 e2) (by show A.units+1+n<cLine;exact hu) rr1 rr2
def sq (K:PySem.W.Frag) (neg:Bool):R2:=λx y H Q=>∃a b xs ys e,x=.ref a/\y=.ref b/\SqL K H a xs/\SqL K H b ys/\(∀(j:Nat) x y,xs[j]?=some x->ys[j]?=some y->EqD K H 8 x y (e j)) /\
 Q (.bl (if neg then !(xs.length==ys.length&&(List.range xs.length).all e) else (xs.length==ys.length&&(List.range xs.length).all e))) H
def vb (K:PySem.W.Frag) (neg:Bool):R2:=λx y H Q=>∃a b xs ys e,x=.ref a/\y=.ref b/\SqT K H a xs/\SqT K H b ys/\(∀(j:Nat) x y,xs[j]?=some x->ys[j]?=some y->EqD K H 8 x y (e j)) /\
 Q (.bl (if neg then !((List.range (min xs.length ys.length)).all e&&xs.length==ys.length) else ((List.range (min xs.length ys.length)).all e&&xs.length==ys.length))) H
theorem oq (hu:X.A.units+64<cLine):OpR X (compareOp .Eq) (sq X.K false):=by
 intro pins s σ H x y v u Q I rx ry h;obtain⟨a,b,xs,ys,e,e1,e2,ha,hb,hi,q⟩:=h;subst e1 e2;cases rx;cases ry;obtain⟨its,r1,p1,_⟩:=I.list ha;obtain⟨its2,r2,p2,_⟩:=I.list hb;have l1:=r1.length;have l2:=r2.length;by_cases hl:xs.length=ys.length
 ·refine SeqAt.eq_listAt (e:=e) p1.isList p2.isList (by rw[Qe,Qe];exact ur l1 l2 hl) (by exact ot hu) (EqD.items I (by exact sJ hu) r1 r2 hi) ⟨.bl _,H,I,rfl,?_⟩;rw[Qe,<-l1];have:(xs.length==ys.length)=true:=by simpa using hl
  rw[this]at q;exact q
 refine SeqAt.eq_list_lengthsAt p1.isList p2.isList (by rw[Qe,Qe,<-l1,<-l2];simpa using hl) (by exact ot hu) ⟨.bl _,H,I,rfl,?_⟩;have:(xs.length==ys.length)=false:=by simpa using hl
 rw[this]at q;exact q
theorem oo (hu:X.A.units+64<cLine):OpR X (compareOp .NotEq) (sq X.K true):=by
 intro pins s σ H x y v u Q I rx ry h;obtain⟨a,b,xs,ys,e,e1,e2,ha,hb,hi,q⟩:=h;subst e1 e2;cases rx;cases ry;obtain⟨its,r1,p1,_⟩:=I.list ha;obtain⟨its2,r2,p2,_⟩:=I.list hb;have l1:=r1.length;have l2:=r2.length;by_cases hl:xs.length=ys.length
 ·refine SeqAt.RcNeAt.lists (e:=e) p1.isList p2.isList (by rw[Qe,Qe];exact ur l1 l2 hl) (by exact ot hu) (EqD.items I (by exact sJ hu) r1 r2 hi) _ _ _ _ ⟨.bl _,H,I,rfl,?_⟩;rw[Qe,<-l1];have:(xs.length==ys.length)=true:=by simpa using hl
  rw[this]at q;exact q
 refine SeqAt.RcNeAt.lists_lengths p1.isList p2.isList (by rw[Qe,Qe,<-l1,<-l2];simpa using hl) (by exact ot hu) _ _ _ _ ⟨.bl _,H,I,rfl,?_⟩;have:(xs.length==ys.length)=false:=by simpa using hl
 rw[this]at q;exact q
theorem sF (hu:X.A.units+64<cLine):OpR X (compareOp .NotEq) (vb X.K true):=by
 intro pins s σ H x y v u Q I rx ry h;obtain⟨a,b,xs,ys,e,e1,e2,ha,hb,hi,q⟩:=h;subst e1 e2;cases rx;cases ry;obtain⟨its,r1,p1,_⟩:=I.tuple ha;obtain⟨its2,r2,p2,_⟩:=I.tuple hb;have l1:=r1.length;have l2:=r2.length;refine SeqAt.RcNeAt.tuples (e:=e) (show s.heap.IsTuple a its.toArray from p1) (show s.heap.IsTuple b its2.toArray from p2) (by exact ot hu) (EqD.items I (by exact sJ hu) r1 r2 hi) _ _ _ _ ⟨.bl _,H,I,rfl,?_⟩;rw[Qe,Qe,<-l1,<-l2];exact q
end
section
variable {X:Cx}
theorem bS:cD X (.builtin "isinstance") (λxs H Q=>∃x T ty b,xs=[x,.ty T]/\TyOf X.K H x ty/\PySem.W.kitOne X.K ty (.type T)=some b/\Q (.bl b) H):=by
 intro pins s σ H xs us Q I r h;obtain⟨x,T,ty,b,e,t,k,q⟩:=h;subst e;obtain⟨u1,u2,e,r1,r2⟩:=jp r;subst e;cases r2;exact mX I r1 t k λtk=>⟨.bl b,H,I.tok tk,rfl,q⟩
theorem cV {K:PySem.W.Frag} (T:String):PySem.W.kitOne K (.type T) (.type T)=some true:=by
 unfold PySem.W.kitOne;rw[QH (by simp)]
theorem nv (bs:List Bool):(List.range bs.length).all (λi=>bs.getD i false)=bs.all id:=by
 rw[Bool.eq_iff_iff];simp only[xg,List.mem_range]
 constructor
 ·intro h x hx;obtain⟨i,hi,e⟩:=List.mem_iff_getElem.mp hx;have q:=h i hi;rw[QE,Qd hi,Option.getD_some,e]at q;exact q
 intro h i hi;rw[QE,Qd hi,Option.getD_some];exact h _ (xh hi)
theorem j2 (hc:X.calm=true):cD X (.builtin "all") (λxs H Q=>∃(l:Addr) (bs:List Bool),xs=[.ref l]/\SqL X.K H l (bs.map V.bl)/\Q (.bl (bs.all id)) H):=by
 intro pins s σ H xs us Q I r h;obtain⟨l,bs,e,hl,q⟩:=h;subst e;obtain⟨u,e,ru⟩:=dg r;subst e;cases ru;obtain⟨its,rv,pl,hz⟩:=I.list hl;have hlen:=rv.length;rw[Qb]at hlen
 have ne:l≠s.heap.objs.size:=by
  obtain⟨o,ho,_⟩:=pl.isList;exact Qy (Qk ho)
 refine call_all_walk (wpAny_pyIter_list pl.isList ?_);refine⟨s.heap.objs.size,_,_,_,_,_,(λi=>bs.getD i false),rfl,Walks.list (show X.A.in1.handled=none from I.ok.hd hc) s.heap.objs.size l ne its.toArray,⟨⟨_,Qn _ rfl,rfl,rfl⟩,pl.isList.push _⟩,?_,λh' tk hk=>?_⟩
 ·intro i v s' Q' E' hP hQ;have hP':its[i]?=some v:=by simpa using hP
  have hi:i<bs.length:=by
   have:=(Qf.mp hP').1;exact ou hlen this
  have e1:(bs.map V.bl)[i]?=some (.bl (bs.getD i false)):=by
   rw[Ql,Qd hi,QE,Qd hi];rfl
  obtain⟨u,hu,ru⟩:=rv.get e1;rw[hP']at hu;cases hu;cases ru;exact wpAny_truthy_bool hQ
 have hs:its.toArray.size=bs.length:=by rw[Qe];exact hlen.symm
 rw[hs,nv]
 exact⟨.bl _,H,I.kept λb o e=>hk b o (by
  have:=Qk e;simp only[Q2]
  exact Qy this) (Qc _ e),rfl,q⟩
abbrev lr (K:PySem.W.Frag) (T:Addr) (D:List (Str × KTD.Dat)):Prop:=KTD.tabLook (KTD.datLooks λa=>K.lookup a) (λa=>K.lookup a) T D=true
theorem ie {T:Addr} {D:List (Str × KTD.Dat)} (hT:lr X.K T D):OpR X (compareOp .In) (λx y H Q=>∃z,x=.str z/\y=.ref T/\Q (.bl (KTD.inKeys z D)) H):=by
 intro pins s σ H x y v u Q I rx ry h;obtain⟨z,e1,e2,q⟩:=h;subst e1 e2;obtain⟨t,e⟩:=rx;subst e;cases ry;exact KTD.in_text (h₀:=X.base) ⟨KTD.text_of_look (get:=λa=>X.K.lookup a) (λa o e=>I.mod.kin a o e) hT,I.bk⟩ ⟨.bl _,H,I.tok _,rfl,q⟩
theorem d_:OpR X (binaryOp .Mult) (λx y H Q=>∃z n,x=.str z/\y=.int n/\MulOk z n/\Q (.str (Txt.mul z n)) H):=by
 intro pins s σ H x y v u Q I rx ry h;obtain⟨z,n,e1,e2,hm,q⟩:=h;subst e1 e2;obtain⟨t,e⟩:=rx;subst e;obtain⟨t',e⟩:=ry;subst e;exact SB.mul hm λt' k=>⟨.str _,H,I.tok k,⟨t',rfl⟩,q⟩
theorem gY:cD X (.type "int") (λxs H Q=>∃z n,xs=[.str z]/\PySem.intText? z=some n/\z.length<=640/\Q (.int n) H):=by
 intro pins s σ H xs us Q I r h;obtain⟨z,n,e,h1,h2,q⟩:=h;subst e;obtain⟨u,e,ru⟩:=dg r;subst e;obtain⟨t,e⟩:=ru;subst e;exact PySem.W.KIN.call_text h1 h2 ⟨.int n,H,I.tok _,⟨_,rfl⟩,q⟩
end
theorem Inv.turned2 {X:Cx} {pins:A1} {σ:St} {H:Hp} {s:Shared} {h':Heap} {t':Nat} {o:HO} (I:Inv X pins σ H s) (k:∀b o,b≠e->b≠it->s.heap.get? b=some o->h'.get? b=some o)
  (f1:eB X pins H e) (f2:eB X pins H it) (hT:s.heap.objs.size<=T) (new:ba X.prog X.w (upd H T o) h' T o):Inv X pins σ (upd H T o) { s with heap:=h',toks:=t' }:=by
 have hn:H T=none:=I.hok.fresh hT;have nT:∀b u,s.heap.get? b=some u->b≠T:=λb u q=>Qy (Qv (Qk q) hT);have n1:∀b u,H b=some u->b≠e:=λb u q z=>by rw[z,f1.1]at q;cases q
 have n2:∀b u,H b=some u->b≠it:=λb u q z=>by rw[z,f2.1]at q;cases q
 have kk:∀b u,b∉[e,it]->s.heap.get? b=some u->h'.get? b=some u:=λb u hc q=>k b u (λz=>hc (by simp[z])) (λz=>hc (by simp[z])) q
 refine I.step (g':=s.gens) (d':=s.drawn) (ch:=[e,it]) (λb hb=>?_) (λb u _ _ hc q _=>kk b u hc q) (λb u _ _ hc q _=>⟨u.slots,kk b u hc q⟩) (λb u _ q n=>by rw[am (nT b u q)];exact n)
  (λb u hc q=>⟨u,kk b u hc q⟩) (λb xs q=>by rw[am (ax q hn)];exact q) (λb u xs q=>by rw[am (ax q hn)];exact q) (λb ps q=>⟨#[],by rw[am (ax q hn),q];simp⟩) (λm hm=>?_) (λb u q=>?_) I.bare
 ·have z:b=e\/b=it:=by simpa using hb
  rcases z with z|z
  ·subst z;obtain⟨_,a2,_,a4,a5,a6⟩:=f1;exact⟨a4,a2,a5,a6⟩
  subst z;obtain⟨_,a2,_,a4,a5,a6⟩:=f2;exact⟨a4,a2,a5,a6⟩
 ·obtain⟨ob,es,ep,ho,r⟩:=hm;exact⟨ob,es,ep,k _ ob (QT f1.2.1) (QT f2.2.1) ho,r⟩
 by_cases hb:b=T
 ·subst hb;rw[af]at q;cases q;exact new
 rw[am hb]at q;refine(I.hok b u q).stay (λc v hc z=>k c v ?_ ?_ z) (λc z=>by rw[am (ax z hn)];exact z) λc xs z=>by rw[am (ax z hn)];exact z
 ·rcases hc with z|z
  ·rw[z];exact n1 b u q
  exact n1 c _ z
 rcases hc with z|z
 ·rw[z];exact n2 b u q
 exact n2 c _ z
noncomputable def Ite (K:PySem.W.Frag) (a:Addr):It :=
 ⟨λi H=>∃xs x,SqL K H a xs/\xs[i]?=some x,λi H x H'=>∃T v,H T=none/\x=.ref T/\H'=upd H T (.tup [.int (i:Nat),v])/\∀xs,SqL K H a xs->xs[i]?=some v,λi H=>∃xs,SqL K H a xs/\xs.length<=i⟩
theorem mq {P:Program} {w:World} {K:PySem.W.Frag} {elts:List Expr} {k:Nat} (a e it:Addr) (hne:e≠it) :
  Turn P w K (.Tuple elts k pos) (Ite K a) [e,it] e (λi h=>(∃old,IsEnum h e it (i:Nat) old)/\h.IsListIter it a i) where
 mem:=by simp
 obj:=λi h st b hb=>by
  obtain⟨⟨old,he⟩,o,ho,hc,hd⟩:=st;have z:b=e\/b=it:=by simpa using hb
  rcases z with z|z
  ·subst z
   exact⟨_,he,λv q=>by
    have q':Data.fields _=Data.cell v:=q
    cases q'⟩
  subst z;exact⟨o,ho,λv q=>by rw[hd]at q;cases q⟩
 keep:=λi h h' st kk=>by
  obtain⟨⟨old,he⟩,hl⟩:=st;exact⟨⟨old,kk e (by simp) _ he⟩,hl.at λo q=>kk it (by simp) o q⟩
 item:=by
  intro X hP hw hK hc i pins s σ H E I hf st hg;subst hP hw hK;obtain⟨xs,x,hq,hx⟩:=hg;obtain⟨its,rv,p,hz⟩:=I.list hq;obtain⟨u,hu,ru⟩:=rv.get hx;obtain⟨⟨old,he⟩,hl⟩:=st;have f1:=hf e (by simp);have f2:=hf it (by simp);refine wpAny_pyNext_enum_item he hl p.isList (x:=u) (by simpa using hu) hne λh1 a1 a2 a3 a4 a5=>⟨_,rfl,?_⟩;refine wpAny_letOwnedTupleGo_enum a1 λh2 b1 b2=>?_
  have nTe:s.heap.objs.size≠e:=λz=>by
   have q:=Qk (show s.heap.get? e=some _ from he);rw[<-z]at q;exact Nat.lt_irrefl _ q
  have keep2:∀b o,b≠e->b≠it->s.heap.get? b=some o->h2.get? b=some o:=λb o n1 n2 q=>b2.extBut b o n1 (a5 b o n1 n2 q);have tup2:h2.get? s.heap.objs.size=some { cls:=.type "tuple", data:=.seq #[.int i s.toks,u] }:=b2.extBut _ _ nTe a3
  have I2:Inv X pins σ (upd H s.heap.objs.size (.tup [.int (i:Nat),x])) { s with heap:=h2,toks:=s.toks+1 } :=
   I.turned2 keep2 f1 f2 (Qh _) ⟨(by show 2<=sizeLine;decide),[.int i s.toks,u],.cons ⟨_,rfl⟩ (.cons ru .nil),⟨_,tup2,rfl,_,rfl⟩⟩
  refine⟨.ref s.heap.objs.size,_,I2,rfl,⟨s.heap.objs.size,x,I.hok.fresh (Qh _),rfl,rfl,λys hy=>by rw[I.list_inj hy hq];exact hx⟩,⟨⟨u,?_⟩,(a2.extBut b2.extBut (QT hne))⟩,λb hb=>?_⟩
  ·have q:IsEnum h2 e it ((i:Int)+1) u:=b1;have c:(((i+1:Nat):Nat):Int)=(i:Int)+1:=by omega
   rw[c];exact q
  have z:b=e\/b=it:=by simpa using hb
  have nT:b≠s.heap.objs.size:=by
   rcases z with z|z
   ·rw[z];exact QT nTe
   rw[z];obtain⟨o,ho,_⟩:=hl;exact Qy (Qk ho)
  rw[am nT];exact(hf b hb).1
 done:=by
  intro X hP hw hK hc i pins s σ H E I hf st hg;subst hP hw hK;obtain⟨xs,hq,hx⟩:=hg;obtain⟨its,rv,p,hz⟩:=I.list hq;obtain⟨⟨old,he⟩,hl⟩:=st;obtain⟨f0,f1,f2,f3,f4,f5⟩:=hf it (by simp);have hlen:=rv.length;exact wpAny_pyNext_enum_end (I.ok.hd hc) he hl p.isList (by simp;exact om4 hx hlen) λh' eb=>⟨rfl,I.turned (t':=s.toks) (λb o hb q=>eb b o hb q) f0 f1 f3 f4 f5⟩
 self:=λ_ _ _ _ _ st h=>by
  obtain⟨⟨old,he⟩,_⟩:=st;exact wpAny_pyIter_enum he h
section
variable {X:Cx} {elts:List Expr} {k:Nat} {tpos:Pos}
def uJ (K:PySem.W.Frag) (ta:TA):TI:=λσ H R=>ta σ H λvs H1=>∃a,vs=[.ref a]/\(∃xs,SqL K H1 a xs)/\R (Ite K a) H1
theorem i7 {a:Expr} {ta:TA} {p pos:Pos} (hg:Gl X "enumerate") (hm:X.mg "enumerate" = none) (ha:PA X [a] ta) (hs:starEach [a] X.env=[(false,eval a X.env)]:=by rfl):PI X (.Tuple elts k tpos) (.Call (.Name "enumerate" p) [a] [] pos) (uJ X.K ta):=by
 intro pins s σ H R I h;refine Call_ (cO I hg hm boot_enumerate (Q3 (thn (ha pos pins s σ H _ I h) λus s1 ⟨vs,H1,I1,r1,q1⟩=>?_) hs rfl));obtain⟨l,e,⟨xs,hq⟩,q⟩:=q1;subst e
 cases r1 with
 | cons r rr =>
 cases rr;cases r;obtain⟨its,rv,pl,hz⟩:=I1.list hq;refine call_enumerate_list pl.isList λh' b1 b2 b3 b4=>?_;refine wpAny_pyIter_enum b1 ?_;have I2:Inv X pins σ H1 { s1 with heap:=h' }:=I1.kept (t':=s1.toks) b4;refine⟨s1.heap.objs.size+1,[s1.heap.objs.size+1,s1.heap.objs.size],_,_,H1,rfl,I2,mq l (s1.heap.objs.size+1) s1.heap.objs.size (by show @Ne Nat _ _;exact om5),⟨⟨_,b1⟩,b2⟩,λb hb=>?_,q⟩;have z:b=s1.heap.objs.size+1\/b=s1.heap.objs.size:=by simpa using hb
 have hle:s1.heap.objs.size<=b:=by
  rcases z with z|z
  ·rw[z];exact Nat.le_succ _
  rw[z];exact Qh _
 exact I1.fpOk hle (I1.hok.fresh hle)
end
theorem gu {K:PySem.W.Frag} {xs:List V} {g:TG} {tb:TS} {D:Ends} {σ:St} {H:Hp} (Pv:Nat->St->Hp->Prop) (h0:Pv 0 σ H) (hl:∀i σ H,i<=xs.length->Pv i σ H->SqL K H a xs)
  (hs:∀i x σ H T,xs[i]?=some x->Pv i σ H->H T=none->g (.ref T) σ (upd H T (.tup [.int (i:Nat),x])) λσ2 H2=>tb { D with nx:=Pv (i+1),ct:=Pv (i+1),bk:=D.nx } σ2 H2) (hd:∀σ H,Pv xs.length σ H->D.nx σ H) :
  ∃W:Nat->Nat->St->Hp->Prop,(∃m,W 0 m σ H)/\∀i m σ H,W i m σ H ->
   ((Ite K a).stop i H/\D.nx σ H)\/((Ite K a).go i H/\∃N:St->Hp->Prop,(∀σ' H',N σ' H'->∃m',m'<m/\W (i+1) m' σ' H')/\∀x H',(Ite K a).yld i H x H'->g x σ H' λσ2 H2=>tb { D with nx:=N,ct:=N,bk:=D.nx } σ2 H2):=by
 refine⟨λi m σ H=>m=xs.length-i/\i<=xs.length/\Pv i σ H,⟨xs.length,by simp,QZ _,h0⟩,?_⟩;rintro i m σ H ⟨rfl,hi,p⟩;have q:=hl i σ H hi p;by_cases hlt:i<xs.length
 ·refine .inr ⟨⟨xs,xs[i],q,by simp[hlt]⟩,Pv (i+1),λσ' H' p'=>⟨xs.length-(i+1),by exact om6 hlt,rfl,hlt,p'⟩,λx H' y=>?_⟩;obtain⟨T,v,hT,ex,eH,y⟩:=y;subst ex eH;exact hs i v σ H T (y xs q) p hT
 have e:i=xs.length:=by exact om0 hi hlt
 subst e;exact .inl ⟨⟨xs,q,Qh _⟩,hd σ H p⟩
structure Fn (P:Program) (w:World) (K:PySem.W.Frag) (mg:A2) (base:Heap) (x:Str) (ps:List Str) (k:Nat) (sp:Sp):Prop where
 ex:∃f fd,FnOk P w K mg base CX0 k f fd ps sp/\mg x=some (.ref f)/\PySem.W.keepIn K (.ref f)=true/\b9 K fd ps []
section
variable {X:Cx}
theorem tV {x:Str} {ps:List Str} {k:Nat} {sp:Sp} {e:Expr} {es:List Expr} {t:TA} {p pos:Pos} (F:Fn X.prog X.w X.K X.mg X.base x ps k sp) (hr:Room k X.A) (hg:Gl X x) (ha:PA X (e::es) t)
  (hdb:(x==("__debug__" : Str))=false:=by decide) (he:starEach (e::es) X.env=(false,eval e X.env)::starEach es X.env:=by rfl) (hpl:(backTo pos (starEach es X.env)).any (·.1)=false:=by rfl) :
  PE X (.Call (.Name x p) (e::es) [] pos) (eG sp [] E0 t):=by
 obtain⟨f,fd,G,hm,hk,hb⟩:=F.ex;exact i_ G hr hg hm hk hb .nil tX ha hdb he hpl
theorem aN {x:Str} {ps:List Str} {k j:Nat} {sp:Sp} {e:Expr} {es:List Expr} {t:TA} {p pos:Pos} (F:Fn X.prog X.w X.K X.mg X.base x ps k sp) (hr:Room j X.A) (ha:PA X (e::es) t) (hk:k<=j:=by first|decide|omega) (hg:Gl X x:=by rfl) (hdb:(x==("__debug__" : Str))=false:=by decide) (he:starEach (e::es) X.env=(false,eval e X.env)::starEach es X.env:=by rfl) (hpl:(backTo pos (starEach es X.env)).any (·.1)=false:=by rfl):PE X (.Call (.Name x p) (e::es) [] pos) (eG sp [] E0 t):=tV F (hr.mono hk) hg ha hdb he hpl
end
section
variable {σ:St} {H:Hp} {Q:VK} {K:PySem.W.Frag}
variable {v x y:V}
theorem aE {i:Nat} (h:σ[i]?=some (some v)) (q:Q v H):bA i σ H Q:=⟨v,h,q⟩
theorem i_c (q:Q v H):tC v σ H Q:=q
variable {ta tb te to ti tl:TE}
theorem i_op {r:R2} (q:ta σ H λx H1=>tb σ H1 λy H2=>r x y H2 Q):tOp r ta tb σ H Q:=q
variable {i j:Int}
theorem i_rI0 {g:Int->Int->V} (q:Q (g i j) H):rI0 g (.int i) (.int j) H Q:=⟨i,j,rfl,rfl,q⟩
theorem i_rI {C:Int->Int->Prop} {g:Int->Int->V} (c:C i j) (q:Q (g i j) H):rI C g (.int i) (.int j) H Q:=⟨i,j,rfl,rfl,c,q⟩
theorem i_eq (h:pN x y=true) (q:Q (.bl (decide (x=y))) H):rEq x y H Q:=⟨h,q⟩
theorem i_ne (h:pN x y=true) (q:Q (.bl (!decide (x=y))) H):rNe x y H Q:=⟨h,q⟩
variable {R:Bool->Hp->Prop}
theorem i_test {t:TE} (q:t σ H λx H'=>∃k,x=.bl k/\R k H'):nI t σ H R:=q
theorem i_tB {t:TE} (q:t σ H λx H'=>∃k,x=.bl k/\R k H'):tB t σ H R:=q
theorem i_and {t u:TT} (q:t σ H λc H1=>if c=true then u σ H1 R else R false H1):tM t u σ H R:=q
theorem i_or {t u:TT} (q:t σ H λc H1=>if c=true then R true H1 else u σ H1 R):tOr t u σ H R:=q
theorem i_not {t:TT} (q:t σ H λc H1=>R (!c) H1):tI t σ H R:=q
theorem i_andV (q:ta σ H λx H1=>∃c,x=.bl c/\if c=true then tb σ H1 Q else Q (.bl false) H1):qZ ta tb σ H Q:=q
theorem i_orV (q:ta σ H λx H1=>∃c,x=.bl c/\if c=true then Q (.bl true) H1 else tb σ H1 Q):tH ta tb σ H Q:=q
theorem i_notV (q:ta σ H λx H1=>∃c,x=.bl c/\Q (.bl (!c)) H1):qV ta σ H Q:=q
theorem i_ifE {t:TT} (q:t σ H λc H1=>if c=true then ta σ H1 Q else tb σ H1 Q):tIf t ta tb σ H Q:=q
theorem aZ {R:List V->Hp->Prop} (q:R [] H):d4 σ H R:=q
variable {tr t:TA}
theorem aJ {R:List V->Hp->Prop} (q:te σ H λx H1=>tr σ H1 λxs H2=>R (x::xs) H2):be te tr σ H R:=q
theorem i_call {sp:Sp} {E:XK} (q:t σ H λvs H1=>sp vs H1 Q E):eG sp [] E t σ H Q:=by
 show t σ H λvs H1=>sp (vs++[]) H1 Q E;simpa only[List.append_nil] using q
theorem i_cb {r:List V->Hp->VK->Prop} (q:t σ H λvs H1=>r vs H1 Q):tCB r t σ H Q:=q
theorem i_tup (q:t σ H λxs H1=>xs.length<=sizeLine/\∀p,H1 p=none->Q (.ref p) (upd H1 p (.tup xs))):js t σ H Q:=q
theorem i_lst (q:t σ H λxs H1=>xs.length<=sizeLine/\∀p,H1 p=none->Q (.ref p) (upd H1 p (.lst xs))):tJ t σ H Q:=q
theorem i_bm {T:String} {r:V->List V->Hp->VK->Prop} (q:to σ H λx H1=>tyV K T x H1/\t σ H1 λxs H2=>r x xs H2 Q):tBM K T r to t σ H Q:=q
theorem i_sl {r:V->Option Int->Option Int->Hp->VK->Prop} {tl th:TO} (q:te σ H λx H1=>tl σ H1 λl H2=>th σ H2 λu H3=>r x l u H3 Q):tSl r te tl th σ H Q:=q
theorem i_nopart {R:Option Int->Hp->Prop} (q:R none H):lw σ H R:=q
theorem i_part {t:TE} {R:Option Int->Hp->Prop} (q:t σ H λx H1=>∃i,x=.int i/\R (some i) H1):qU t σ H R:=q
variable {xs:List V}
theorem aO {p:Addr} {v:V} (h:SqL K H p xs) (e:atI xs i=some v) (q:Q v H):kA K (.ref p) (.int i) H Q:=⟨p,xs,i,v,rfl,rfl,h,e,q⟩
theorem i_ixT {p:Addr} (h:H p=some (.tup xs)) (e:atI xs i=some v) (q:Q v H):jL K (.ref p) (.int i) H Q:=⟨p,xs,i,v,rfl,rfl,SqT.of h,e,q⟩
theorem dF {z:Str} {c:Nat} (hz:z.length<=sizeLine) (e:atI z.cps.toList i=some c) (q:Q (.str ⟨#[c]⟩) H):tS (.str z) (.int i) H Q:=⟨z,i,c,rfl,rfl,hz,e,q⟩
variable {D:Ends}
theorem s_seq {t u:TS} (q:t { D with nx:=u D } σ H):pJ t u D σ H:=q
theorem s_asg {g:TG} (q:te σ H λx H1=>g x σ H1 D.nx):ms te g D σ H:=q
theorem aB {i:Nat} {R:St->Hp->Prop} (q:R (σ.set i (some v)) H):cK i v σ H R:=q
theorem s_drop (q:te σ H λ_ H1=>D.nx σ H1):qX te D σ H:=q
theorem s_ret {te:TE} (q:te σ H D.rt):tG te D σ H:=q
theorem s_next (q:D.nx σ H):qW D σ H:=q
theorem s_if {c:TT} {t u:TS} (q:c σ H λb H1=>if b=true then t D σ H1 else u D σ H1):tK c t u D σ H:=q
theorem s_sub {t:qN} {R:St->Hp->Prop} (q:to σ H λo H1=>ti σ H1 λi H2=>t o i v H2 λH3=>R σ H3):uK to ti t v σ H R:=q
theorem s_setL {p:Addr} {k:Int} {j:Nat} {R:Hp->Prop} (h:H p=some (.lst xs)) (e:ixN xs.length k=some j) (q:R (upd H p (.lst (xs.set j v)))):re (.ref p) (.int k) v H R:=⟨p,xs,k,j,rfl,rfl,h,e,q⟩
theorem s_for {wi:TI} {g:TG} {tb:TS} (q:wi σ H λJ H1=>∃W:Nat->Nat->St->Hp->Prop,(∃m,W 0 m σ H1)/\∀i m σ H,W i m σ H ->
 (J.stop i H/\D.nx σ H)\/(J.go i H/\∃N:St->Hp->Prop,(∀σ' H',N σ' H'->∃m',m'<m/\W (i+1) m' σ' H')/\∀x H',J.yld i H x H'->g x σ H' λσ2 H2=>tb { D with nx:=N,ct:=N,bk:=D.nx } σ2 H2)):r_ wi g tb D σ H:=q
theorem s_rng1 {ta:TA} {R:It->Hp->Prop} (q:ta σ H λvs H1=>∃j:Int,vs=[.int j]/\-(2 ^ 62)<=j/\j<2 ^ 62/\R (Itr 0 j.toNat) H1):rG ta σ H R:=q
theorem s_list {R:It->Hp->Prop} (q:tl σ H λx H1=>∃a,x=.ref a/\(∃xs,SqL K H1 a xs)/\R (Itl K a) H1):jX K tl σ H R:=q
theorem s_str {R:It->Hp->Prop} (q:tl σ H λv H1=>∃z:Str,v=.str z/\R (Itf z.cps.size (dj z)) H1):uH tl σ H R:=q
theorem i_comp {wi:TI} {g:TG} {tt:TT} {f:St->St} (q:wi σ H λJ H1=>∀D,H1 D=none->∃W:Nat->Nat->Hp->List V->Prop,(∃m,W 0 m (upd H1 D (.lst [])) []) /\
 ∀i m H ys,W i m H ys->H D=some (.lst ys)/\((J.stop i H/\Q (.ref D) H)\/(J.go i H/\∀x H',J.yld i H x H'->g x (f σ) H' λσ2 H2=>wk (f σ) σ2/\tt σ2 H2 λb H3 =>
  if b=true then te σ2 H3 λv H4=>H4 D=some (.lst ys)/\ys.length<sizeLine/\∃m',m'<m/\W (i+1) m' (upd H4 D (.lst (ys++[v]))) (ys++[v])
  else ∃m',m'<m/\W (i+1) m' H3 ys))):fP wi g tt te f σ H Q:=q
end
def bN (Pv:Nat->Hp->List V->Prop) (n:Nat) (D:Addr) (i:Nat) (ys:List V):VK:=λv H4=>H4 D=some (.lst ys)/\ys.length<sizeLine/\∃m',m'<n-i/\(m'=n-(i+1)/\i+1<=n/\Pv (i+1) (upd H4 D (.lst (ys++[v]))) (ys++[v]))
theorem bN.mk {Pv:Nat->Hp->List V->Prop} {D:Addr} {ys:List V} {v:V} {H4:Hp} (hd:H4 D=some (.lst ys)) (hi:i<n) (hl:ys.length<sizeLine) (p:Pv (i+1) (upd H4 D (.lst (ys++[v]))) (ys++[v])):bN Pv n D i ys v H4 :=
 ⟨hd,hl,n-(i+1),by exact om6 hi,rfl,hi,p⟩
section
variable {K:PySem.W.Frag} {g:TG} {te:TE} {σ0:St} {QD:Hp->Prop} {H1:Hp} {D:Addr}
theorem de {lo:Int} {n:Nat} (Pv:Nat->Hp->List V->Prop) (h0:Pv 0 (upd H1 D (.lst [])) []) (hD:∀i H ys,Pv i H ys->H D=some (.lst ys))
  (hs:∀i H ys,i<n->Pv i H ys->g (.int (lo+i)) σ0 H λσ2 H2=>wk σ0 σ2/\fB σ2 H2 λb H3=>if b=true then te σ2 H3 (bN Pv n D i ys) else ∃m',m'<n-i/\(m'=n-(i+1)/\i+1<=n/\Pv (i+1) H3 ys)) (hd:∀H ys,Pv n H ys->QD H) :
  ∃W:Nat->Nat->Hp->List V->Prop,(∃m,W 0 m (upd H1 D (.lst [])) [])/\∀i m H ys,W i m H ys->H D=some (.lst ys)/\(((Itr lo n).stop i H/\QD H)\/((Itr lo n).go i H/\∀x H',(Itr lo n).yld i H x H'->g x σ0 H' λσ2 H2=>wk σ0 σ2/\fB σ2 H2 λb H3 =>
   if b=true then te σ2 H3 λv H4=>H4 D=some (.lst ys)/\ys.length<sizeLine/\∃m',m'<m/\W (i+1) m' (upd H4 D (.lst (ys++[v]))) (ys++[v]) else ∃m',m'<m/\W (i+1) m' H3 ys)):=by
 refine⟨λi m H ys=>m=n-i/\i<=n/\Pv i H ys,⟨n,by simp,QZ _,h0⟩,?_⟩;rintro i m H ys ⟨rfl,hi,p⟩;refine⟨hD i H ys p,?_⟩;by_cases hlt:i<n
 ·refine .inr ⟨hlt,λx H' y=>?_⟩;obtain⟨e,y⟩:=y;subst e y;exact hs i _ ys hlt p
 have e:i=n:=by exact om0 hi hlt
 subst e;exact .inl ⟨Qh _,hd H ys p⟩
theorem dR {a:Addr} {xs:List V} (Pv:Nat->Hp->List V->Prop) (h0:Pv 0 (upd H1 D (.lst [])) []) (hD:∀i H ys,Pv i H ys->H D=some (.lst ys)/\SqL K H a xs)
  (hs:∀i x H ys,xs[i]?=some x->Pv i H ys->g x σ0 H λσ2 H2=>wk σ0 σ2/\fB σ2 H2 λb H3=>if b=true then te σ2 H3 (bN Pv xs.length D i ys) else ∃m',m'<xs.length-i/\(m'=xs.length-(i+1)/\i+1<=xs.length/\Pv (i+1) H3 ys)) (hd:∀H ys,Pv xs.length H ys->QD H) :
  ∃W:Nat->Nat->Hp->List V->Prop,(∃m,W 0 m (upd H1 D (.lst [])) [])/\∀i m H ys,W i m H ys->H D=some (.lst ys)/\(((Itl K a).stop i H/\QD H)\/((Itl K a).go i H/\∀x H',(Itl K a).yld i H x H'->g x σ0 H' λσ2 H2=>wk σ0 σ2/\fB σ2 H2 λb H3 =>
   if b=true then te σ2 H3 λv H4=>H4 D=some (.lst ys)/\ys.length<sizeLine/\∃m',m'<m/\W (i+1) m' (upd H4 D (.lst (ys++[v]))) (ys++[v]) else ∃m',m'<m/\W (i+1) m' H3 ys)):=by
 refine⟨λi m H ys=>m=xs.length-i/\i<=xs.length/\Pv i H ys,⟨xs.length,by simp,QZ _,h0⟩,?_⟩;rintro i m H ys ⟨rfl,hi,p⟩;obtain⟨d1,d2⟩:=hD i H ys p;refine⟨d1,?_⟩;by_cases hlt:i<xs.length
 ·refine .inr ⟨⟨xs,xs[i],d2,by simp[hlt]⟩,λx H' y=>?_⟩;obtain⟨e,y⟩:=y;subst e;exact hs i x _ ys (y xs d2) p
 have e:i=xs.length:=by exact om0 hi hlt
 subst e;exact .inl ⟨⟨xs,d2,Qh _⟩,hd H ys p⟩
theorem j0 {n:Nat} {f:Nat->V} (Pv:Nat->Hp->List V->Prop) (h0:Pv 0 (upd H1 D (.lst [])) []) (hD:∀i H ys,Pv i H ys->H D=some (.lst ys))
  (hs:∀i H ys,i<n->Pv i H ys->g (f i) σ0 H λσ2 H2=>wk σ0 σ2/\fB σ2 H2 λb H3=>if b=true then te σ2 H3 (bN Pv n D i ys) else ∃m',m'<n-i/\(m'=n-(i+1)/\i+1<=n/\Pv (i+1) H3 ys)) (hd:∀H ys,Pv n H ys->QD H) :
  ∃W:Nat->Nat->Hp->List V->Prop,(∃m,W 0 m (upd H1 D (.lst [])) [])/\∀i m H ys,W i m H ys->H D=some (.lst ys)/\(((Itf n f).stop i H/\QD H)\/((Itf n f).go i H/\∀x H',(Itf n f).yld i H x H'->g x σ0 H' λσ2 H2=>wk σ0 σ2/\fB σ2 H2 λb H3 =>
   if b=true then te σ2 H3 λv H4=>H4 D=some (.lst ys)/\ys.length<sizeLine/\∃m',m'<m/\W (i+1) m' (upd H4 D (.lst (ys++[v]))) (ys++[v]) else ∃m',m'<m/\W (i+1) m' H3 ys)):=by
 refine⟨λi m H ys=>m=n-i/\i<=n/\Pv i H ys,⟨n,by simp,QZ _,h0⟩,?_⟩;rintro i m H ys ⟨rfl,hi,p⟩;refine⟨hD i H ys p,?_⟩;by_cases hlt:i<n
 ·refine .inr ⟨hlt,λx H' y=>?_⟩;obtain⟨e,y⟩:=y;subst e y;exact hs i _ ys hlt p
 have e:i=n:=by exact om0 hi hlt
 subst e;exact .inl ⟨rfl,hd H ys p⟩
end
section
variable {H:Hp} {Q:VK} {K:PySem.W.Frag}
theorem dq {z:Str} {lo hi:Option Int} (h:z.length<=sizeLine) (q:Q (.str (Txt.slice z lo hi)) H):tQ (.str z) lo hi H Q:=⟨z,rfl,h,q⟩
variable {xs zs:List V} {a p l b:Addr}
theorem cJ {lo hi:Option Int} (h:SqL K H a xs) (q:∀p,H p=none->Q (.ref p) (upd H p (.lst (cP xs lo hi)))):sk K (.ref a) lo hi H Q:=⟨a,xs,rfl,h,q⟩
theorem uG {x:V} (h:SqL K H p xs) (fx:cC x=true) (fs:xs.all cC=true) (q:Q (.bl (inV x xs)) H):rIn K false x (.ref p) H Q:=⟨p,xs,rfl,.inl h,fx,fs,q⟩
theorem bZ (h1:H l=some (.lst xs)) (h2:H b=some (.lst zs)) (hz:xs.length+zs.length<=sizeLine) (q:∀p,H p=none->Q (.ref p) (upd H p (.lst (xs++zs)))):pP (.ref l) (.ref b) H Q:=⟨l,b,xs,zs,rfl,rfl,h1,h2,hz,q⟩
theorem dY {y:V} (h:H l=some (.lst xs)) (hz:xs.length<sizeLine) (q:Q .non (upd H l (.lst (xs++[y])))):i0 (.ref l) [y] H Q:=⟨l,xs,y,rfl,rfl,h,hz,q⟩
theorem i_tyL (h:H p=some (.lst xs)):tyV K "list" (.ref p) H:=.inl ⟨rfl,xs,SqL.of h⟩
theorem uF {z:Str}:tyV K "str" (.str z) H:=rfl
end
theorem ah {H:Hp} {o:HO} (hp:H p=none):aj H (upd H p o):=λb u e=>by rw[am (ax e hp)];exact e
end L2
namespace L2
open PySem
section
variable {σ:St} {H:Hp} {D:Ends}
theorem s_seqT {t u:TS} (q:let D':Ends:={ D with nx:=u D };t D' σ H):pJ t u D σ H:=q
theorem s_nameT {i:Nat} {v:V} {R:St->Hp->Prop} (q:let σ':St:=σ.set i (some v);R σ' H):cK i v σ H R:=q
end
variable {H:Hp}
theorem i_yes {σ:St} {R:Bool->Hp->Prop} (q:R true H):fB σ H R:=q
theorem i_dget {td ty:TE} {σ:St} {Q:VK} (q:td σ H λx H1=>ty σ H1 λy H2=>∃a v,x=.ref a/\du H2 a y (some v)/\Q v H2):qY td ty σ H Q:=q
theorem i_un {r:V->Hp->VK->Prop} {ta:TE} {σ:St} {Q:VK} (q:ta σ H λx H1=>r x H1 Q):tUn r ta σ H Q:=q
theorem i_rU {g:Int->V} {i:Int} {Q:VK} (q:Q (g i) H):rU g (.int i) H Q:=⟨i,rfl,q⟩
end L2
namespace LZ
open PySem
section
variable {prog:Program} {w:World} {A:Around} {E:A0} {s:Shared}
abbrev IsZ (h:Heap) (z TI TO:Addr) (f0:Value) (f1:Bool):Prop :=
 h.get? z=some { cls:=.type "zip", dict:=none,data:=.fields #[f0,.bool f1,.bool false,.ref TI,.ref TO],slots:=#[] }
structure Apart5 (z TI TO i1 i2 l:Addr):Prop where
 TIz:TI≠z
 TOz:TO≠z
 i1z:i1≠z
 i2z:i2≠z
 TITO:TI≠TO
 TIi1:TI≠i1
 TIi2:TI≠i2
 TOi1:TO≠i1
 TOi2:TO≠i2
 i12:i1≠i2
 lz:l≠z
 lTO:l≠TO
 li1:l≠i1
 li2:l≠i2
variable {t:Tok} {x:Str} {it z i1 i2 l a:Addr} {ty:String}
theorem fb (hty:ty = "str_ascii_iterator" \/ ty = "str_iterator") {i c:Nat} {Q:A0} (hit:s.heap.IsStrIter it ty x t i) (hx:x.cps[i]?=some c)
  (hQ:∀h',h'.IsStrIter it ty x t (i+1)->Heap.SameBut it s.heap h'->Q (.str ⟨#[c]⟩ s.toks) { s with heap:=h',toks:=s.toks+1 }) :
  wpAny (model prog w) A (Builtin.SmallTypes.nextOf (.ref it)) Q E s:=by
 rcases hty with e|e
 ·subst e;exact wpAny_nextOf_ascii_item hit hx hQ
 subst e;exact wpAny_nextOf_wide_item hit hx hQ
variable {Q:Option Value->Shared->Prop} {xs:Array Value}
theorem kI (hty:ty = "str_ascii_iterator" \/ ty = "str_iterator") {TI TO:Addr} {k c:Nat} {v a b:Value} (D:Apart5 z TI TO i1 i2 l)
  (hz:IsZ s.heap z TI TO .none false) (hTI:IsPair s.heap TI (.ref i1) (.ref i2)) (hTO:IsPair s.heap TO a b) (h1:s.heap.IsListIter i1 l k) (h2:s.heap.IsStrIter i2 ty x t k) (hl:s.heap.IsList l xs) (hv:xs[k]?=some v) (hc:x.cps[k]?=some c)
  (hQ:∀h',IsZ h' z TI TO (rawInt s.heap.objs.size) false->(∃a b,IsPair h' TO a b)->h'.IsListIter i1 l (k+1)->h'.IsStrIter i2 ty x t (k+1)->IsPair h' s.heap.objs.size v (.str ⟨#[c]⟩ s.toks)->h'.objs.size=s.heap.objs.size+1 ->
   (∀c o,c≠z->c≠TO->c≠i1->c≠i2->s.heap.get? c=some o->h'.get? c=some o)->Q (some (.ref s.heap.objs.size)) { s with heap:=h',toks:=s.toks+1 }) :
  wpAny (model prog w) A (pyNext (.ref z)) Q E s:=by
 have hT:s.TypeIs (.ref z) "zip" := ⟨_,hz,rfl⟩;unfold pyNext
 refine Qa (wpAny_attempt (wpAny_callSpecial?_slot (name:=Str.ofString "__next__") hT F.slot_zip_next
  (wpAny_call_entry F.slot_zip_next hT F.entry_zip_next ?_ (F.args_zip_next_1 _))))
 show wpAny _ _ (field (.ref z) 2 >>= _) _ _ _;refine Qa (QA hz rfl (x:=.bool false) rfl ?_);show wpAny _ _ (field (.ref z) 3 >>= _) _ _ _;refine Qa (QA hz rfl (x:=.ref TI) rfl ?_);refine Qa (wpAny_seqItems hTI rfl ?_);show wpAny _ _ (Builtin.SmallTypes.ownedTupleIsFree (.ref z) >>= _) _ _ _;refine Qa ?_;unfold Builtin.SmallTypes.ownedTupleIsFree;refine Qa (QA hz rfl (x:=.none) rfl (Qg ?_));simp only[if_true];refine Qa (wpAny_rule ?_);refine Qa (QA hz rfl (x:=.ref TO) rfl ?_);refine Qa (QW hz (by simp) λh₁ hz1 hs₁=>?_)
 replace hz1:IsZ h₁ z TI TO .ellipsis false:=hz1
 refine Qa ?_;simp only[List.zipIdx_cons,List.zipIdx_nil,List.forIn_cons,List.forIn_nil];refine Qa (Qa (wpAny_onRaise ?_));show wpAny _ _ (Builtin.SmallTypes.nextOf (.ref i1) >>= _) _ _ _;refine Qa (wpAny_nextOf_list_item (h1.extBut hs₁.extBut D.i1z) (hl.extBut hs₁.extBut D.lz) hv λh₂ h12 hs₂=>Qg ?_);have hTO2:IsPair h₂ TO a b:=hs₂.extBut _ _ D.TOi1 (hs₁.extBut _ _ D.TOz hTO);refine Qa (wpAny_seqItems hTO2 rfl ?_);refine Qa (wpAny_updateSeq_pair hTO2 λh₃ hTO3 hs₃=>?_)
 replace hTO3:IsPair h₃ TO v b:=hTO3
 refine Qa (wpAny_letGo (Qg ?_));refine Qa (Qa (wpAny_onRaise ?_));show wpAny _ _ (Builtin.SmallTypes.nextOf (.ref i2) >>= _) _ _ _;have h23:h₃.IsStrIter i2 ty x t k:=((h2.extBut hs₁.extBut D.i2z).extBut hs₂.extBut D.i12.symm).extBut hs₃.extBut D.TOi2.symm;refine Qa (fb hty h23 hc λh₄ h2₄ hs₄=>Qg ?_);have hTO4:IsPair h₄ TO v b:=hs₄.extBut _ _ D.TOi2 hTO3;refine Qa (wpAny_seqItems hTO4 rfl ?_);refine Qa (wpAny_updateSeq_pair hTO4 λh₅ hTO5 hs5=>?_)
 replace hTO5:IsPair h₅ TO v (.str ⟨#[c]⟩ s.toks):=hTO5
 refine Qa (wpAny_letGo (Qg (Qg ?_)));refine Qa (wpAny_seqItems hTO5 rfl ?_);refine Qa (wpAny_newTuple ?_);have hsz:h₅.objs.size=s.heap.objs.size:=by rw[hs5.1,hs₄.1,hs₃.1,hs₂.1,hs₁.1]
 have hz5:IsZ h₅ z TI TO .ellipsis false:=hs5.extBut _ _ D.TOz.symm (hs₄.extBut _ _ D.i2z.symm (hs₃.extBut _ _ D.TOz.symm (hs₂.extBut _ _ D.i1z.symm hz1)))
 have hk₅:∀c o,c≠z->c≠TO->c≠i1->c≠i2->s.heap.get? c=some o->h₅.get? c=some o:=λc o c1 c2 c3 c4 e =>
  hs5.extBut _ _ c2 (hs₄.extBut _ _ c4 (hs₃.extBut _ _ c2 (hs₂.extBut _ _ c3 (hs₁.extBut _ _ c1 e))))
 have h15:h₅.IsListIter i1 l (k+1):=((h12.extBut hs₃.extBut D.TOi1.symm).extBut hs₄.extBut D.i12).extBut hs5.extBut D.TOi1.symm;have h25:h₅.IsStrIter i2 ty x t (k+1):=h2₄.extBut hs5.extBut D.TOi2.symm;have hzlt:z<h₅.objs.size:=Qk hz5;show wpAny _ _ (Builtin.SmallTypes.ownedTupleHandOut (.ref z) (.ref h₅.objs.size) >>= _) _ _ _;refine Qa ?_;unfold Builtin.SmallTypes.ownedTupleHandOut;have hz6:IsZ (h₅.push { cls:=.type "tuple", data:=.seq #[v,.str ⟨#[c]⟩ s.toks] }) z TI TO .ellipsis false:=Qc _ hz5;refine Qa (QW hz6 (by simp) λh₇ hz7 hs7=>?_)
 replace hz7:IsZ h₇ z TI TO (rawInt h₅.objs.size) false:=hz7
 refine QW hz7 (by simp) λh₈ hz₈ hs8=>?_
 replace hz₈:IsZ h₈ z TI TO (rawInt h₅.objs.size) false:=hz₈
 have up:∀c o,c≠z->h₅.get? c=some o->h₈.get? c=some o:=λc o c1 e=>hs8.extBut _ _ c1 (hs7.extBut _ _ c1 (Qc _ e));have hT8:IsPair h₈ h₅.objs.size v (.str ⟨#[c]⟩ s.toks):=hs8.extBut _ _ (Nat.ne_of_gt hzlt) (hs7.extBut _ _ (Nat.ne_of_gt hzlt) (Qn _ rfl));have hz8:h₈.objs.size=h₅.objs.size+1:=by rw[hs8.1,hs7.1,Heap.size_push]
 rw[hsz]at hz₈ hT8 hz8;refine Qg ⟨_,rfl,Qg ?_⟩;show Q (some (.ref h₅.objs.size)) _;rw[hsz];exact hQ h₈ hz₈ ⟨_,_,up _ _ D.TOz hTO5⟩ (h15.at λo e=>up _ o D.i1z e) (let ⟨o,e,r⟩:=h25;⟨o,up _ o D.i2z e,r⟩) hT8 hz8 λc o c1 c2 c3 c4 e=>up c o c1 (hk₅ c o c1 c2 c3 c4 e)
theorem rJ {o:Obj} {Q:Option Obj->Shared->Prop} (ho:s.heap.get? a=some o) (h:Q (some o) s):wpAny (model prog w) A (loadIfAlive a) Q E s:=by
 have h':Q (s.heap.get? a) s:=by rw[ho];exact h
 exact λ_ _ _=>h'
theorem kH (hty:ty = "str_ascii_iterator" \/ ty = "str_iterator") {TI TO T:Addr} {f1:Bool} {oT:Obj} {k c:Nat} {v:Value} (D:Apart5 z TI TO i1 i2 l)
  (hz:IsZ s.heap z TI TO (rawInt T) f1) (hT:s.heap.get? T=some oT) (hTI:IsPair s.heap TI (.ref i1) (.ref i2)) (h1:s.heap.IsListIter i1 l k) (h2:s.heap.IsStrIter i2 ty x t k) (hl:s.heap.IsList l xs) (hv:xs[k]?=some v) (hc:x.cps[k]?=some c)
  (hQ:∀h',IsZ h' z TI TO (rawInt T) true->h'.IsListIter i1 l (k+1)->h'.IsStrIter i2 ty x t (k+1)->IsPair h' s.heap.objs.size v (.str ⟨#[c]⟩ s.toks)->h'.objs.size=s.heap.objs.size+1 ->
   (∀c o,c≠z->c≠i1->c≠i2->s.heap.get? c=some o->h'.get? c=some o)->Q (some (.ref s.heap.objs.size)) { s with heap:=h',toks:=s.toks+1 }) :
  wpAny (model prog w) A (pyNext (.ref z)) Q E s:=by
 have hTy:s.TypeIs (.ref z) "zip" := ⟨_,hz,rfl⟩;unfold pyNext
 refine Qa (wpAny_attempt (wpAny_callSpecial?_slot (name:=Str.ofString "__next__") hTy F.slot_zip_next
  (wpAny_call_entry F.slot_zip_next hTy F.entry_zip_next ?_ (F.args_zip_next_1 _))))
 show wpAny _ _ (field (.ref z) 2 >>= _) _ _ _;refine Qa (QA hz rfl (x:=.bool false) rfl ?_);show wpAny _ _ (field (.ref z) 3 >>= _) _ _ _;refine Qa (QA hz rfl (x:=.ref TI) rfl ?_);refine Qa (wpAny_seqItems hTI rfl ?_);show wpAny _ _ (Builtin.SmallTypes.ownedTupleIsFree (.ref z) >>= _) _ _ _;refine Qa ?_;unfold Builtin.SmallTypes.ownedTupleIsFree;refine Qa (QA hz rfl (x:=rawInt T) rfl ?_);show wpAny _ _ (loadIfAlive ((T:Int).toNat) >>= _) _ _ _;rw[xa];refine Qa (rJ hT ?_);simp only[Option.isNone_some,QK,if_false];refine Qa (QA hz rfl (x:=.bool f1) rfl ?_)
 cases f1 with
 | false =>
  simp only[show (Value.bool false != Value.bool true)=true from rfl,if_true];refine Qa (QW hz (by simp) λh₁ hz1 hs₁=>Qg ?_)
  replace hz1:IsZ h₁ z TI TO (rawInt T) true:=hz1
  simp only[QK,if_false,List.forIn_toArray,List.forIn_cons,List.forIn_nil];refine Qa (Qa (Qa (QN ?_)));show wpAny _ _ (Builtin.SmallTypes.nextOf (.ref i1) >>= _) _ _ _;refine Qa (wpAny_nextOf_list_item (h1.extBut hs₁.extBut D.i1z) (hl.extBut hs₁.extBut D.lz) hv λh₂ h12 hs₂=>Qg ?_);refine Qg ?_;dsimp only;refine Qa (Qa (QN ?_));show wpAny _ _ (Builtin.SmallTypes.nextOf (.ref i2) >>= _) _ _ _;have h22:h₂.IsStrIter i2 ty x t k:=(h2.extBut hs₁.extBut D.i2z).extBut hs₂.extBut D.i12.symm;refine Qa (fb hty h22 hc λh₄ h2₄ hs₄=>Qg ?_);refine Qg (Qg ?_);dsimp only;show wpAny _ _ (newTuple [v,.str ⟨#[c]⟩ s.toks] >>= _) _ _ _;refine Qa (wpAny_newTuple ?_);have hsz:h₄.objs.size=s.heap.objs.size:=by rw[hs₄.1,hs₂.1,hs₁.1]
  have hz4:IsZ h₄ z TI TO (rawInt T) true:=hs₄.extBut _ _ D.i2z.symm (hs₂.extBut _ _ D.i1z.symm hz1);have hk₄:∀c o,c≠z->c≠i1->c≠i2->s.heap.get? c=some o->h₄.get? c=some o:=λc o c1 c3 c4 e=>hs₄.extBut _ _ c4 (hs₂.extBut _ _ c3 (hs₁.extBut _ _ c1 e));refine Qg ⟨_,rfl,Qg ?_⟩;show Q (some (.ref h₄.objs.size)) _;rw[hsz];exact hQ _ (Qc _ hz4) ((h12.extBut hs₄.extBut D.i12).at λo e=>Qc _ e) (let ⟨o,e,r⟩:=h2₄;⟨o,Qc _ e,r⟩) (by rw[<-hsz];exact Qn _ rfl) (by rw[Heap.size_push,hsz]) λc o c1 c3 c4 e=>Qc _ (hk₄ c o c1 c3 c4 e)
 | true =>
 simp only[show (Value.bool true != Value.bool true)=false from rfl,QK,if_false];refine Qg ?_;have hz1:IsZ s.heap z TI TO (rawInt T) true:=hz;have hs₁:Heap.SameBut z s.heap s.heap:=.refl ..;simp only[QK,if_false,List.forIn_toArray,List.forIn_cons,List.forIn_nil];refine Qa (Qa (Qa (QN ?_)));show wpAny _ _ (Builtin.SmallTypes.nextOf (.ref i1) >>= _) _ _ _;refine Qa (wpAny_nextOf_list_item (h1.extBut hs₁.extBut D.i1z) (hl.extBut hs₁.extBut D.lz) hv λh₂ h12 hs₂=>Qg ?_);refine Qg ?_;dsimp only;refine Qa (Qa (QN ?_));show wpAny _ _ (Builtin.SmallTypes.nextOf (.ref i2) >>= _) _ _ _;have h22:h₂.IsStrIter i2 ty x t k:=(h2.extBut hs₁.extBut D.i2z).extBut hs₂.extBut D.i12.symm;refine Qa (fb hty h22 hc λh₄ h2₄ hs₄=>Qg ?_);refine Qg (Qg ?_);dsimp only;show wpAny _ _ (newTuple [v,.str ⟨#[c]⟩ s.toks] >>= _) _ _ _;refine Qa (wpAny_newTuple ?_);have hsz:h₄.objs.size=s.heap.objs.size:=by rw[hs₄.1,hs₂.1,hs₁.1]
 have hz4:IsZ h₄ z TI TO (rawInt T) true:=hs₄.extBut _ _ D.i2z.symm (hs₂.extBut _ _ D.i1z.symm hz1);have hk₄:∀c o,c≠z->c≠i1->c≠i2->s.heap.get? c=some o->h₄.get? c=some o:=λc o c1 c3 c4 e=>hs₄.extBut _ _ c4 (hs₂.extBut _ _ c3 (hs₁.extBut _ _ c1 e));refine Qg ⟨_,rfl,Qg ?_⟩;show Q (some (.ref h₄.objs.size)) _;rw[hsz];exact hQ _ (Qc _ hz4) ((h12.extBut hs₄.extBut D.i12).at λo e=>Qc _ e) (let ⟨o,e,r⟩:=h2₄;⟨o,Qc _ e,r⟩) (by rw[<-hsz];exact Qn _ rfl) (by rw[Heap.size_push,hsz]) λc o c1 c3 c4 e=>Qc _ (hk₄ c o c1 c3 c4 e)
theorem jT {TI TO:Addr} {f0:Value} {f1:Bool} {k:Nat} {a b:Value} (hh:A.handled=none) (D:Apart5 z TI TO i1 i2 l)
  (hz:IsZ s.heap z TI TO f0 f1) (hf:(f0=.none/\f1=false/\∃a b,IsPair s.heap TO a b)\/∃(T:Addr) (oT:Obj),f0=rawInt (T:Nat)/\s.heap.get? T=some oT) (hTI:IsPair s.heap TI (.ref i1) (.ref i2)) (h1:s.heap.IsListIter i1 l k) (hl:s.heap.IsList l xs) (hv:xs[k]?=none)
  (hQ:∀h',(∀c o,c≠z->c≠i1->s.heap.get? c=some o->h'.get? c=some o)->Q none { s with heap:=h' }):wpAny (model prog w) A (pyNext (.ref z)) Q E s:=by
 have hTy:s.TypeIs (.ref z) "zip" := ⟨_,hz,rfl⟩;unfold pyNext
 refine Qa (wpAny_attempt (wpAny_callSpecial?_slot (name:=Str.ofString "__next__") hTy F.slot_zip_next
  (wpAny_call_entry F.slot_zip_next hTy F.entry_zip_next ?_ (F.args_zip_next_1 _))))
 show wpAny _ _ (field (.ref z) 2 >>= _) _ _ _;refine Qa (QA hz rfl (x:=.bool false) rfl ?_);show wpAny _ _ (field (.ref z) 3 >>= _) _ _ _;refine Qa (QA hz rfl (x:=.ref TI) rfl ?_);refine Qa (wpAny_seqItems hTI rfl ?_);show wpAny _ _ (Builtin.SmallTypes.ownedTupleIsFree (.ref z) >>= _) _ _ _;refine Qa ?_;unfold Builtin.SmallTypes.ownedTupleIsFree;refine Qa (QA hz rfl (x:=f0) rfl ?_)
 have fin:∀h' e,(∀c o,c≠z->c≠i1->s.heap.get? c=some o->h'.get? c=some o)->(∃o,h'.get? e=some o/\o.cls=.type "StopIteration") ->
   wpAny (model prog w) A (do if <-isInstance (.ref e) (.type "StopIteration") then pure none else throw (.ref e)) Q E { s with heap:=h' }:=λh' e hk ⟨o,ho,hc⟩ =>
  Qa (wpAny_isInstance (T := "StopIteration") (b:=true) ⟨o,ho,hc⟩ isSubtype_stop (Qg (hQ _ hk)))
 rcases hf with⟨e1,e2,a,b,hTO⟩|⟨T,oT,e1,hT⟩
 ·subst e1 e2;refine Qg ?_;simp only[if_true];refine Qa (wpAny_rule ?_);refine Qa (QA hz rfl (x:=.ref TO) rfl ?_);refine Qa (QW hz (by simp) λh₁ hz1 hs₁=>?_)
  replace hz1:IsZ h₁ z TI TO .ellipsis false:=hz1
  refine Qa ?_;simp only[List.zipIdx_cons,List.zipIdx_nil,List.forIn_cons,List.forIn_nil];refine Qa (Qa (wpAny_onRaise ?_));show wpAny _ _ (Builtin.SmallTypes.nextOf (.ref i1) >>= _) _ _ _;refine Qa (wpAny_nextOf_list_end hh (h1.extBut hs₁.extBut D.i1z) (hl.extBut hs₁.extBut D.lz) hv λh₂ e hs₂ he=>?_);obtain⟨oe,hoe,hce⟩:=he;have hz2:IsZ h₂ z TI TO .ellipsis false:=hs₂ _ _ D.i1z.symm hz1;have hez:e≠z:=λx=>by subst x;rw[hz2]at hoe;cases hoe;simp at hce
  refine QW hz2 (by simp) λh₃ _ hs₃=>?_;exact fin h₃ e (λc o c1 c3 x=>hs₃.extBut _ _ c1 (hs₂ _ _ c3 (hs₁.extBut _ _ c1 x))) ⟨oe,hs₃.extBut _ _ hez hoe,hce⟩
 subst e1;show wpAny _ _ (loadIfAlive ((T:Int).toNat) >>= _) _ _ _;rw[xa];refine Qa (rJ hT ?_);simp only[Option.isNone_some,QK,if_false];refine Qa (QA hz rfl (x:=.bool f1) rfl ?_)
 cases f1 with
 | false =>
  simp only[show (Value.bool false != Value.bool true)=true from rfl,if_true];refine Qa (QW hz (by simp) λh₁ hz1 hs₁=>Qg ?_)
  replace hz1:IsZ h₁ z TI TO (rawInt T) true:=hz1
  simp only[QK,if_false,List.forIn_toArray,List.forIn_cons,List.forIn_nil];refine Qa (Qa (Qa (QN ?_)));show wpAny _ _ (Builtin.SmallTypes.nextOf (.ref i1) >>= _) _ _ _;refine Qa (wpAny_nextOf_list_end hh (h1.extBut hs₁.extBut D.i1z) (hl.extBut hs₁.extBut D.lz) hv λh₂ e hs₂ he=>?_);exact fin h₂ e (λc o c1 c3 x=>hs₂ _ _ c3 (hs₁.extBut _ _ c1 x)) he
 | true =>
 simp only[show (Value.bool true != Value.bool true)=false from rfl,QK,if_false];refine Qg ?_;simp only[QK,if_false,List.forIn_toArray,List.forIn_cons,List.forIn_nil];refine Qa (Qa (Qa (QN ?_)));show wpAny _ _ (Builtin.SmallTypes.nextOf (.ref i1) >>= _) _ _ _;refine Qa (wpAny_nextOf_list_end hh h1 hl hv λh₂ e hs₂ he=>?_);exact fin h₂ e (λc o c1 c3 x=>hs₂ _ _ c3 x) he
abbrev zH1 (h:Heap) (l:Addr):Heap:=h.push { cls:=.type "list_iterator", data:=.fields #[.ref l,.int 0 0] }
abbrev zH2 (h:Heap) (l:Addr) (ty:String) (x:Str) (t:Tok):Heap:=(zH1 h l).push { cls:=.type ty,data:=.fields #[.str x t,.int 0 0] }
abbrev zH3 (h:Heap) (l:Addr) (ty:String) (x:Str) (t:Tok):Heap:=(zH2 h l ty x t).push { cls:=.type "tuple", data:=.seq #[.ref h.objs.size,.ref (zH1 h l).objs.size] }
abbrev zH4 (h:Heap) (l:Addr) (ty:String) (x:Str) (t:Tok):Heap:=(zH3 h l ty x t).push { cls:=.type "tuple", data:=.seq #[.none,.none] }
abbrev zH5 (h:Heap) (l:Addr) (ty:String) (x:Str) (t:Tok):Heap:=(zH4 h l ty x t).push { cls:=.type "zip", data:=.fields #[.none,.bool false,.bool false,.ref (zH2 h l ty x t).objs.size,.ref (zH3 h l ty x t).objs.size] }
def cR (x:Str):String:=if x.cps.all (·<128)=true then "str_ascii_iterator" else "str_iterator"
theorem mW {Q:A0} (hQ:Q (.ref s.heap.objs.size) { s with heap:=s.heap.push { cls:=.type (cR x),data:=.fields #[.str x t,.int 0 0] } }):wpAny (model prog w) A (pyIter (.str x t)) Q E s:=by
 unfold cR at hQ
 cases ha:x.cps.all (·<128) with
 | true=>rw[ha,QH rfl]at hQ;exact wpAny_pyIter_ascii ha hQ
 | false=>rw[ha,QB Qm]at hQ;exact wpAny_pyIter_wide ha hQ
theorem pG (x:Str):cR x = "str_ascii_iterator" \/ cR x = "str_iterator" := by
 unfold cR
 split
 ·exact .inl rfl
 exact .inr rfl
theorem mO (l:Addr) (xs:Array Value) (x:Str) (t:Tok) :
  Meets (Builtin.«zip.__new__» ⟨[.type "zip", .ref l,.str x t],[]⟩) (λ_ R s=>s.heap.IsList l xs/\R (.ok (.ret (.ref (zH4 s.heap l (cR x) x t).objs.size))) { s with heap:=zH5 s.heap l (cR x) x t }) :=
 .of_wp λprog w A R s h=>by
  obtain⟨hp,g,d,tk,os⟩:=s;obtain⟨hl1,h⟩:=h;have hsub:=sub_zip;have hL1:Heap.IsList (Shared.heap ⟨hp,g,d,tk,os⟩) l xs:=hl1
  wp_walk using wpAny_pyIter_list hL1,mW
  exact⟨_,rfl,h⟩
theorem pi {Q:A0} (hl1:s.heap.IsList l xs)
  (h:∀h',IsZ h' (s.heap.objs.size+4) (s.heap.objs.size+2) (s.heap.objs.size+3) .none false->IsPair h' (s.heap.objs.size+2) (.ref s.heap.objs.size) (.ref (s.heap.objs.size+1)) ->
   IsPair h' (s.heap.objs.size+3) .none .none->h'.IsListIter s.heap.objs.size l 0->h'.IsStrIter (s.heap.objs.size+1) (cR x) x t 0->h'.objs.size=s.heap.objs.size+5 ->
   (∀c o,s.heap.get? c=some o->h'.get? c=some o)->Q (.ref (s.heap.objs.size+4)) { s with heap:=h' }) :
  wpAny (model prog w) A (call (.type "zip") [.ref l,.str x t]) Q E s:=by
 refine callType_new F.called_zip (by decide) (F.typeCall_zip_2 _ _) (F.newCall_zip_2 _ _) (λobj=>F.args_object_init_3 obj _ _) F.entry_zip_new (mO l xs x t) ⟨hl1,?_⟩;have z1:(zH1 s.heap l).objs.size=s.heap.objs.size+1:=Heap.size_push ..;have z2:(zH2 s.heap l (cR x) x t).objs.size=s.heap.objs.size+2:=by rw[Heap.size_push,z1]
 have z3:(zH3 s.heap l (cR x) x t).objs.size=s.heap.objs.size+3:=by rw[Heap.size_push,z2]
 have z4:(zH4 s.heap l (cR x) x t).objs.size=s.heap.objs.size+4:=by rw[Heap.size_push,z3]
 have z5:(zH5 s.heap l (cR x) x t).objs.size=s.heap.objs.size+5:=by rw[Heap.size_push,z4]
 have g5:(zH5 s.heap l (cR x) x t).get? (zH4 s.heap l (cR x) x t).objs.size=some _:=Qn _ rfl;have g4:(zH5 s.heap l (cR x) x t).get? (zH3 s.heap l (cR x) x t).objs.size=some _:=Qc _ (Qn _ rfl);have g3:(zH5 s.heap l (cR x) x t).get? (zH2 s.heap l (cR x) x t).objs.size=some _:=Qc _ (Qc _ (Qn _ rfl));have g2:(zH5 s.heap l (cR x) x t).get? (zH1 s.heap l).objs.size=some _:=Qc _ (Qc _ (Qc _ (Qn _ rfl)));have g1:(zH5 s.heap l (cR x) x t).get? s.heap.objs.size=some _:=Qc _ (Qc _ (Qc _ (Qc _ (Qn _ rfl))));show _/\_;rw[z2,z3,z4]at g5;rw[z1,z2]at g3;rw[z3]at g4;rw[z1]at g2;rw[z4]
 exact⟨⟨_,g5,rfl⟩,h _ g5 g3 g4 ⟨_,g1,rfl,rfl⟩ ⟨_,g2,rfl,rfl⟩ z5 λc o x =>
  Qc _ (Qc _ (Qc _ (Qc _ (Qc _ x))))⟩
theorem eY:typeLookup (.type "zip") "__getattr__" = pure none:=by rw[typeLookup_type,builtinLookup_eq_fast];kernel_rfl
theorem gI:typeLookup (.type "zip") "keys" = pure none:=by rw[typeLookup_type,builtinLookup_eq_fast];kernel_rfl
theorem db:entryFor table "zip.__getattribute__" = some Builtin.«object.__getattribute__» :=
 entryFor_alias (id' := "object.__getattribute__") (by kernel_rfl) (by decide +kernel) (by decide +kernel) (by kernel_rfl)
theorem gk (a:Addr) (xs:Array Value) (sl:Array (Option Value)) (u:Tok) :
  Meets (Builtin.«object.__getattribute__» ⟨[.ref a,.str "keys" u],[]⟩) (λA R s=>s.heap.get? a=some { cls:=.type "zip", dict:=none,data:=.fields xs,slots:=sl }/\raisesAttr (.ref a) "keys" A R s) :=
 Meets.of_wp λprog w A R s hs=>by
  obtain⟨hp,g,d,tk,os⟩:=s;obtain⟨hx,hs⟩:=hs;have hT:(⟨hp,g,d,tk,os⟩:Shared).TypeIs (.ref a) "zip" := ⟨_,hx,rfl⟩;have hmiss:=gI;have hname:(["__module__", "__name__", "__qualname__", "__doc__", "__annotations__"]:List Str).contains "keys" = false:=by decide +kernel
  unfold Builtin.«object.__getattribute__»
  repeat (any_goals (first|assumption|wp_step))
  try simp only[hname,QK,if_false]
  repeat (any_goals (first|assumption|wp_step))
  exact wpAny_raiseAttrError hs.1 hs.2 (attrMsg_fits (by decide +kernel) (by decide +kernel))
theorem mQ {sl:Array (Option Value)} (hx:s.heap.get? a=some { cls:=.type "zip", dict:=none,data:=.fields xs,slots:=sl }) (hA:A.handled=none)
  (h:∀h' tk,(∀c o,s.heap.get? c=some o->h'.get? c=some o)->Q none { s with heap:=h',toks:=tk }):wpAny (model prog w) A (getAttr? (.ref a) "keys") Q E s:=by
 obtain⟨hp,g,d,tk,os⟩:=s;have hT:∀tk',(⟨hp,g,d,tk',os⟩:Shared).TypeIs (.ref a) "zip" := λ_=>⟨_,hx,rfl⟩;have f1:=sub_AttributeError;have f3:=F.slot_zip_getattribute.lookup;have f4:=F.slot_zip_getattribute.bind (.ref a);have f5:=eY;unfold getAttr? getAttrBy? getAttrBy
 repeat (any_goals (first|assumption|exact hT _|((with_reducible show wpAny _ _ (call (Value.builtin "zip.__getattribute__") _ _) _ _ _);refine call_meets F.slot_zip_getattribute (hT _) db (F.args_zip_getattribute_2 _ _) (gk a xs sl _) ⟨hx,hA,λh' tk' e hx'=>?_⟩)|wp_step))
 obtain⟨t',u',he⟩:=hx'.there;show wpAny _ _ (getattributeRaised _ _ _ _ _ _ _) _ _ _;unfold getattributeRaised
 repeat (any_goals (first|assumption|wp_step))
 all_goals exact h _ _ hx'.keeps
end
theorem gj:mroOf (.type "dict")=pure [.type "dict", .type "object"]:=by rw[mroOf_type];kernel_rfl
theorem fF:typeLookup (.type "dict") "__new__" = pure (some (.builtin "dict.__new__")):=by rw[typeLookup_type,builtinLookup_eq_fast];kernel_rfl
theorem fw:TypeCalled "dict" "dict.__new__" "dict.__init__" :=
 ⟨by decide +kernel,by decide +kernel,⟨_,_,gj⟩,madeBy_type gj fF (by decide +kernel),by decide +kernel,by rw[isSubtype_type];kernel_rfl,F.slot_dict_init⟩
theorem di (a:Value):checkTypeCall "dict" ⟨[a],[]⟩=pure ():=by kernel_rfl
theorem gg (a:Value):checkBuiltinCall "dict.__new__" ⟨[.type "dict", a],[]⟩=pure ():=by kernel_rfl
theorem gx:entryFor table "dict.__new__" = some Builtin.«dict.__new__»:=entryFor_of_tree (by kernel_rfl)
theorem f9:plainId "dict.__new__" = true:=by decide +kernel
theorem nJ:isSubtype (.type "dict") (.type "dict")=pure true:=by rw[isSubtype_type];kernel_rfl
theorem dP:entryFor table "dict.update.loop" = some Builtin.«dict.update.loop»:=entryFor_of_tree (by kernel_rfl)
theorem bP:plainId "dict.update.loop" = true:=by decide +kernel
structure ApartD (z TI TO i1 i2 l d:Addr):Prop extends Apart5 z TI TO i1 i2 l where
 dz:d≠z
 dTI:d≠TI
 dTO:d≠TO
 di1:d≠i1
 di2:d≠i2
 dl:d≠l
structure ZS (h:Heap) (z TI TO i1 i2 l d:Addr) (ty:String) (x:Str) (t:Tok) (xs:Array Value) (k:Nat):Prop where
 zf:(IsZ h z TI TO .none false/\∃a b,IsPair h TO a b)\/∃(T:Addr) (f1:Bool) (oT:Obj),IsZ h z TI TO (rawInt (T:Nat)) f1/\h.get? T=some oT/\T≠z/\T≠i1/\T≠i2/\T≠d
 ti:IsPair h TI (.ref i1) (.ref i2)
 a1:h.IsListIter i1 l k
 a2:h.IsStrIter i2 ty x t k
 li:h.IsList l xs
section
variable {prog:Program} {w:World} {K:Type} [DecidableEq K] {knd:KeyKind prog w K} {A:Around} {R:Result->Shared->Prop}
variable {Q:Option Value->Shared->Prop} {xs:Array Value} {t:Tok} {x:Str} {z i1 i2 l d:Addr} {ty:String} {s:Shared} {E:A0}
theorem pF (hty:ty = "str_ascii_iterator" \/ ty = "str_iterator") {TI TO:Addr} {k c:Nat} {v:Value} {od:Obj} (D:ApartD z TI TO i1 i2 l d)
  (Z:ZS s.heap z TI TO i1 i2 l d ty x t xs k) (hod:s.heap.get? d=some od) (hv:xs[k]?=some v) (hc:x.cps[k]?=some c)
  (hQ:∀h' T u,ZS h' z TI TO i1 i2 l d ty x t xs (k+1)->IsPair h' T v (.str ⟨#[c]⟩ u)->T≠d->(∀c o,c≠z->c≠TO->c≠i1->c≠i2->s.heap.get? c=some o->h'.get? c=some o)->Q (some (.ref T)) { s with heap:=h',toks:=s.toks+1 }) :
  wpAny (model prog w) A (pyNext (.ref z)) Q E s:=by
 have lt:∀{c o},s.heap.get? c=some o->s.heap.objs.size≠c:=λe=>Nat.ne_of_gt (Qk e);have l1:s.heap.objs.size≠i1:=by obtain⟨_,e,_⟩:=Z.a1;exact lt e
 have l2:s.heap.objs.size≠i2:=by obtain⟨_,e,_⟩:=Z.a2;exact lt e
 rcases Z.zf with⟨hz,a,b,hTO⟩|⟨T,f1,oT,hz,hT,n1,n2,n3,n4⟩
 ·refine kI hty D.toApart5 hz Z.ti hTO Z.a1 Z.a2 Z.li hv hc λh' b1 b2 b3 b4 b5 b6 b7=>?_;exact hQ h' _ _ ⟨.inr ⟨_,_,_,b1,b5,lt hz,l1,l2,lt hod⟩,b7 _ _ D.TIz D.TITO D.TIi1 D.TIi2 Z.ti,b3,b4,Z.li.at λo e=>b7 _ o D.lz D.lTO D.li1 D.li2 e⟩ b5 (lt hod) b7
 refine kH hty D.toApart5 hz hT Z.ti Z.a1 Z.a2 Z.li hv hc λh' b1 b3 b4 b5 b6 b7=>?_;exact hQ h' _ _ ⟨.inr ⟨T,_,oT,b1,b7 _ _ n1 n2 n3 hT,n1,n2,n3,n4⟩,b7 _ _ D.TIz D.TIi1 D.TIi2 Z.ti,b3,b4,Z.li.at λo e=>b7 _ o D.lz D.li1 D.li2 e⟩ b5 (lt hod) λc o c1 _ c3 c4 e=>b7 c o c1 c3 c4 e
theorem rM {TI TO:Addr} {k:Nat} (hh:A.handled=none) (D:ApartD z TI TO i1 i2 l d)
  (Z:ZS s.heap z TI TO i1 i2 l d ty x t xs k) (hv:xs[k]?=none) (hQ:∀h',(∀c o,c≠z->c≠i1->s.heap.get? c=some o->h'.get? c=some o)->Q none { s with heap:=h' }):wpAny (model prog w) A (pyNext (.ref z)) Q E s:=by
 rcases Z.zf with⟨hz,a,b,hTO⟩|⟨T,f1,oT,hz,hT,n1,n2,n3,n4⟩
 ·exact jT (a:=a) (b:=b) hh D.toApart5 hz (.inl ⟨rfl,rfl,a,b,hTO⟩) Z.ti Z.a1 Z.li hv hQ
 exact jT (a:=.none) (b:=.none) hh D.toApart5 hz (.inr ⟨T,oT,rfl,hT⟩) Z.ti Z.a1 Z.li hv hQ
theorem ZS.dict {h h':Heap} {TI TO:Addr} {k:Nat} (D:ApartD z TI TO i1 i2 l d) (Z:ZS h z TI TO i1 i2 l d ty x t xs k) (hs:Heap.SameBut d h h'):ZS h' z TI TO i1 i2 l d ty x t xs k:=by
 refine⟨?_,hs.extBut _ _ D.dTI.symm Z.ti,Z.a1.extBut hs.extBut D.di1.symm,Z.a2.extBut hs.extBut D.di2.symm,Z.li.extBut hs.extBut D.dl.symm⟩;rcases Z.zf with⟨hz,a,b,hTO⟩|⟨T,f1,oT,hz,hT,n1,n2,n3,n4⟩
 ·exact .inl ⟨hs.extBut _ _ D.dz.symm hz,a,b,hs.extBut _ _ D.dTO.symm hTO⟩
 exact .inr ⟨T,f1,oT,hs.extBut _ _ D.dz.symm hz,hs.extBut _ _ n4 hT,n1,n2,n3,n4⟩
def cv (kvs:List (K × Value)) (ps:List (K × Value)):List (K × Value):=ps.foldl (λacc p=>stored acc p.1 p.2) kvs
theorem fQ (kvs:List (K × Value)) (k:K) (v:Value):(stored kvs k v).length<=kvs.length+1:=by
 unfold stored
 split
 ·rw[Qb];exact t8
 rw[Qi];simp
theorem nh (hty:ty = "str_ascii_iterator" \/ ty = "str_iterator") {TI TO:Addr} (D:ApartD z TI TO i1 i2 l d) (hh:A.handled=none) (ks:Nat->K) (hk:∀k v,xs[k]?=some v->knd.is (ks k) v=true)
  (hlen:xs.size<=x.cps.size) (hsz:xs.size<=sizeLine):∀(m k:Nat) (i:Int) (s:Shared) (kvs:List (K × Value)),xs.size-k=m->k<=xs.size->ZS s.heap z TI TO i1 i2 l d ty x t xs k->s.heap.DictOf knd d kvs->kvs.length<=k ->
  (∀h' tk (ps:List (K × Value)),ps.length=xs.size-k->(∀(j:Nat) p,ps[j]?=some p->p.1=ks (k+j)/\∃c u,x.cps[k+j]?=some c/\p.2=.str ⟨#[c]⟩ u)->h'.DictOf knd d (cv kvs ps) ->
   (∀c o,c≠z->c≠TO->c≠i1->c≠i2->c≠d->s.heap.get? c=some o->h'.get? c=some o)->R (.ok (.ret .none)) { s with heap:=h',toks:=tk }) ->
  codeAny (model prog w) A (.builtin "dict.update.loop" ⟨[.ref d,.ref z,rawInt i,.none],[]⟩) R s:=by
 intro m
 induction m with
 | zero =>
  intro k i s kvs hm hkk Z hd hkl hR;have hin:k=xs.size:=by exact rC hm hkk
  refine codeAny_builtin dP ?_;rw[Around.under_plainId bP _];show wpAny _ A.in1 (pyNext (.ref z) >>= _) _ _ s;refine Qa (rM (show A.in1.handled=none from hh) D Z (by rw[hin];simp) λh' hkeep=>?_);show wpAny _ _ (Builtin.Dict.addKeywords d [] >>= _) _ _ _;refine Qa (Qg (Qg ?_));have hdn:d≠z:=D.dz
  have hd':h'.DictOf knd d kvs:=by
   obtain⟨o,es,ep,e1,r⟩:=hd;exact⟨o,es,ep,hkeep d o D.dz D.di1 e1,r⟩
  exact hR h' s.toks [] (by simp;exact t7 hm) (λj p e=>by simp at e) hd' λc o c1 _ c3 _ _ e=>hkeep c o c1 c3 e
 | succ m ih =>
 intro k i s kvs hm hkk Z hd hkl hR;have hlt:k<xs.size:=by exact rB hm hkk
 have hv:xs[k]?=some xs[k]:=by simp[hlt]
 have hltc:k<x.cps.size:=by exact uq hlen hlt
 have hc:x.cps[k]?=some x.cps[k]:=by simp[hltc]
 obtain⟨od,es0,ep0,hod,_⟩:=id hd;refine codeAny_builtin dP ?_;rw[Around.under_plainId bP _];show wpAny _ A.in1 (pyNext (.ref z) >>= _) _ _ s;refine Qa (pF hty D Z hod hv hc λh1 T u Z1 hT hTd hkeep=>?_)
 have hd1:h1.DictOf knd d kvs:=by
  obtain⟨o,es,ep,e1,r⟩:=hd;exact⟨o,es,ep,hkeep d o D.dz D.dTO D.di1 D.di2 e1,r⟩
 refine Qa (QN ?_);have hTy:(Shared.TypeIs { s with heap:=h1,toks:=s.toks+1 } (.ref T) "tuple"):=⟨_,hT,rfl⟩;refine Qa (wpAny_tryCatch ?_);unfold Builtin.Dict.pairItems;refine Qa (wpAny_typeOf hTy ?_);rw[QH (by decide)];refine Qa (wpAny_seqItems hT rfl (Qg ?_));show wpAny _ _ (holding [xs[k],_] (dictSet d xs[k] _)) _ _ _;refine QN (wpAny_dictSet_pairs (hk k _ hv) hd1 (λh2 hd2 hs2=>?_) (by exact rq hsz hkl hlt));refine Qg ⟨plainId_quiet bP _,ih (k+1) (i+1) _ _ (by exact rm hm hlt) (by exact rk hlt) (ZS.dict D Z1 hs2) hd2 (QQ (fQ _ _ _) (by exact tZ hkl)) λh3 tk ps hl hp hd3 hk3=>?_⟩;refine hR h3 tk ((ks k,.str ⟨#[x.cps[k]]⟩ u)::ps) (by rw[QM,hl];exact t6 hm hlt) (λj p e=>?_) hd3 λc o c1 c2 c3 c4 c5 e=>hk3 c o c1 c2 c3 c4 c5 (hs2.extBut c o c5 (hkeep c o c1 c2 c3 c4 e))
 cases j with
 | zero =>
  have e':(ks k,Value.str ⟨#[x.cps[k]]⟩ u)=p:=by simpa using e
  subst e';exact⟨rfl,x.cps[k],u,hc,rfl⟩
 | succ j =>
 have q:=hp j p (by simpa using e);rw[show k+(j+1)=k+1+j by exact t5];exact q
theorem dZ (a:Value) {Q:A0} (h:Q (.ref s.heap.objs.size) { s with heap:=s.heap.push { cls:=.type "dict", data:=.dict #[] } }) :
  codeAny (model prog w) A (.call (.builtin "dict.__new__") ⟨[.type "dict", a],[]⟩) (wants Q E) s:=by
 refine codeAny_call_builtin f9 gx (wpAny_of_eq (gg a) ?_);have hsub:=nJ;have hmro:=gj;obtain⟨hp,g,d,tk,os⟩:=s;unfold Builtin.«dict.__new__»
 wp_walk
 exact h
theorem nt (hty:ty = "str_ascii_iterator" \/ ty = "str_iterator") {TI TO:Addr} {Q:A0} (D:Apart5 z TI TO i1 i2 l) (hh:A.handled=none) (ks:Nat->K)
  (hk:∀k v,xs[k]?=some v->knd.is (ks k) v=true) (hlen:xs.size<=x.cps.size) (hsz:xs.size<=sizeLine) (hz:IsZ s.heap z TI TO .none false) (hTI:IsPair s.heap TI (.ref i1) (.ref i2)) (hTO:∃a b,IsPair s.heap TO a b)
  (h1:s.heap.IsListIter i1 l 0) (h2:s.heap.IsStrIter i2 ty x t 0) (hl:s.heap.IsList l xs)
  (h:∀h' tk (ps:List (K × Value)),ps.length=xs.size->(∀(j:Nat) p,ps[j]?=some p->p.1=ks j/\∃c u,x.cps[j]?=some c/\p.2=.str ⟨#[c]⟩ u)->h'.DictOf knd s.heap.objs.size (cv [] ps) ->
   (∀c o,c≠z->c≠TO->c≠i1->c≠i2->s.heap.get? c=some o->h'.get? c=some o)->Q (.ref s.heap.objs.size) { s with heap:=h',toks:=tk }) :
  wpAny (model prog w) A (call (.type "dict") [.ref z]) Q E s:=by
 refine callType_codes (Q₁:=λobj s1=>obj=.ref s.heap.objs.size/\s1={ s with heap:=s.heap.push { cls:=.type "dict", data:=.dict #[] } }) fw (di _) F.entry_dict_init (dZ _ ⟨rfl,rfl⟩) ?_;rintro obj s1 ⟨rfl,rfl⟩;have up:∀c o,s.heap.get? c=some o->(s.heap.push { cls:=.type "dict", data:=.dict #[] }).get? c=some o:=λc o e=>Qc _ e;have hnew:(s.heap.push { cls:=.type "dict", data:=.dict #[] }).DictOf knd s.heap.objs.size []:=Heap.DictOf.new s.heap;have lt:∀{c o},s.heap.get? c=some o->s.heap.objs.size≠c:=λe=>Nat.ne_of_gt (Qk e);have l1:s.heap.objs.size≠i1:=by obtain⟨_,e,_⟩:=h1;exact lt e
 have l2:s.heap.objs.size≠i2:=by obtain⟨_,e,_⟩:=h2;exact lt e
 have ll:s.heap.objs.size≠l:=by obtain⟨_,e,_⟩:=hl;exact lt e
 obtain⟨a0,b0,hTO'⟩:=hTO;have DD:ApartD z TI TO i1 i2 l s.heap.objs.size:=⟨D,lt hz,lt hTI,lt hTO',l1,l2,ll⟩;refine⟨hnew.typeIs,F.args_dict_init_2 _ _,?_⟩;unfold Builtin.«dict.__init__»;refine Qa ?_;unfold Builtin.Dict.selfAndRest;refine Qa (wpAny_notOrdered_dict hnew.typeIs ?_);show wpAny _ _ (pure (s.heap.objs.size,[Value.ref z])) _ _ _;refine Qg ?_;show wpAny _ _ (Builtin.Dict.updateFrom "dict.__init__" s.heap.objs.size (.ref z) [] .none) _ _ _;unfold Builtin.Dict.updateFrom;have hzT:Shared.TypeIs { s with heap:=s.heap.push { cls:=.type "dict", data:=.dict #[] } } (.ref z) "zip" := ⟨_,up _ _ hz,rfl⟩;refine Qa (wpAny_typeOf hzT ?_);rw[QH (by decide)];refine Qa (mQ (up _ _ hz) (show A.in1.in1.handled=none from hh) λh3 tk k3=>?_);simp only[Option.isNone_none,if_true];refine Qa (wpAny_rule ?_);have hz3:IsZ h3 z TI TO .none false:=k3 _ _ (up _ _ hz);refine Qa (wpAny_pyIter_zip (z:=z) (TI:=TI) (TO:=TO) (f0:=.none) hz3 ?_);refine Qg ⟨plainId_quiet bP _,?_⟩;have Z3:ZS h3 z TI TO i1 i2 l s.heap.objs.size ty x t xs 0:=⟨.inl ⟨hz3,a0,b0,k3 _ _ (up _ _ hTO')⟩,k3 _ _ (up _ _ hTI),h1.at λo e=>k3 _ o (up _ o e),(let ⟨o,e,r⟩:=h2;⟨o,k3 _ o (up _ o e),r⟩),hl.at λo e=>k3 _ o (up _ o e)⟩
 have hd3:h3.DictOf knd s.heap.objs.size []:=by
  obtain⟨o,es,ep,e1,r⟩:=hnew;exact⟨o,es,ep,k3 _ _ e1,r⟩
 refine nh hty DD (show A.in1.handled=none from hh) ks hk hlen hsz xs.size 0 0 _ [] (by simp) (QZ _) Z3 hd3 (Qh _) λh4 tk4 ps hp1 hp2 hd4 hk4=>?_;refine⟨rfl,h h4 tk4 ps (by simpa using hp1) (λj p e=>by simpa using hp2 j p e) hd4 λc o c1 c2 c3 c4 e=>hk4 c o c1 c2 c3 c4 (lt e).symm (k3 _ _ (up _ _ e))⟩
end
end LZ
namespace L2
open PySem PySem.Spec PyProof.Rows
def bj (kvs:List (Key × V)):List (Key × V)->List (Key × V)
 | []=>kvs
 | p::r=>bj (cS kvs p.1 p.2) r
def bT (ns:List Str) (z:Str):List (Key × V):=(ns.zipIdx).map λp=>(Sum.inr p.1,dj z p.2)
theorem kU:∀{qs:List (Key × V)} {ps:List (Key × Value)} {kvs:List (Key × V)} {vs:List (Key × Value)},KV qs ps->KV kvs vs->KV (bj kvs qs) (LZ.cv vs ps)
 | [],_,_,_,h,r=>by cases h;exact r
 | q::qs,p::ps,kvs,vs,h,r=>by
  cases h with
  | cons h1 h2 =>
  show KV (bj (cS kvs q.1 q.2) qs) (LZ.cv (stored vs p.1 p.2) ps);rw[<-h1.1];exact kU h2 (r.put q.1 h1.2)
theorem d9 {α β:Type} {F:α->β->Prop}:∀{xs:List α} {ys:List β},xs.length=ys.length->(∀(j:Nat) x y,xs[j]?=some x->ys[j]?=some y->F x y)->Paired F xs ys
 | [],[],_,_=>.nil
 | x::xs,y::ys,hl,h=>.cons (h 0 x y rfl rfl) (d9 (by simpa using hl) λj a b e1 e2=>h (j+1) a b (by simpa using e1) (by simpa using e2))
theorem cN:∀(qs kvs:List (Key × V)),(bj kvs qs).length<=kvs.length+qs.length
 | [],kvs=>Qh _
 | q::qs,kvs=>by
  have h1:=cN qs (cS kvs q.1 q.2);have h2:=cH kvs q.1 q.2;show (bj (cS kvs q.1 q.2) qs).length<=_;rw[QM];exact uo h1 h2
section
variable {X:Cx} {a b:Expr} {ta:TA} {p1 p2 pos1 pos2:Pos}
def tL (K:PySem.W.Frag) (ta:TA):TE:=λσ H Q=>ta σ H λvs H1=>∃l ns z,vs=[.ref l,.str z]/\SqL K H1 l (ns.map V.str)/\ns.length<=z.cps.size/\ns.length<1000/\∀d,H1 d=none->Q (.ref d) (upd H1 d (.dK (bj [] (bT ns z))))
theorem lM (hc:X.calm=true) (hg:Gl X "dict") (hm:X.mg "dict" = none) (hg2:Gl X "zip") (hm2:X.mg "zip" = none) (ha:PA X [a,b] ta)
  (hs:starEach [a,b] X.env=[(false,eval a X.env),(false,eval b X.env)]:=by rfl) (hs2:starEach [b] X.env=[(false,eval b X.env)]:=by rfl)
  (hs0:starEach [.Call (.Name "zip" p2) [a,b] [] pos2] X.env=[(false,eval (.Call (.Name "zip" p2) [a,b] [] pos2) X.env)]:=by rfl) :
  PE X (.Call (.Name "dict" p1) [.Call (.Name "zip" p2) [a,b] [] pos2] [] pos1) (tL X.K ta):=by
 intro pins s σ H Q I h;refine Call_ (cO I hg hm PyProof.Rows.boot_dict (Q3 ?_ hs0 rfl));rw[hs0];show wpAny _ _ (spliced [(false,eval (.Call (.Name "zip" p2) [a,b] [] pos2) X.env)]) _ _ s;refine Calls.spliced_cons ?_;refine Call_ (cO I hg2 hm2 PyProof.Rows.boot_zip (Q3 (thn (ha pos2 pins s σ H _ I h) λus s1 ⟨vs,H1,I1,r1,q1⟩=>?_) (by rw[hs,hs2]) (by rw[hs2];rfl)));obtain⟨l,ns,z,e,hl,hlen,hsm,q⟩:=q1;subst e;obtain⟨u1,u2,e,ru1,ru2⟩:=jp r1;subst e;cases ru1;obtain⟨t,e⟩:=ru2;subst e;obtain⟨its,rv,pl,_⟩:=I1.list hl;have hits:its.length=ns.length:=by have:=rv.length;rw[Qb]at this;exact this.symm
 refine LZ.pi pl.isList λh2 b1 b2 b3 b4 b5 b6 b7=>?_;refine Calls.spliced_nil ?_;have I2:Inv X pins σ H1 { s1 with heap:=h2 }:=I1.kept (t':=s1.toks) b7;have ltl:@LT.lt Nat _ l s1.heap.objs.size:=by obtain⟨o,ho,_⟩:=pl.isList;exact Qk ho
 have big:1000<sizeLine:=by decide
 refine LZ.nt (knd:=bu X.prog X.w) (LZ.pG z) (i1:=s1.heap.objs.size) (i2:=s1.heap.objs.size+1) (l:=l) (xs:=its.toArray) ⟨(by show @Ne Nat _ _;exact um),(by show @Ne Nat _ _;exact ul),(by show @Ne Nat _ _;exact uk),(by show @Ne Nat _ _;exact uh),(by show @Ne Nat _ _;exact ug),(by show @Ne Nat _ _;exact uf),(by show @Ne Nat _ _;exact ue),(by show @Ne Nat _ _;exact uc),(by show @Ne Nat _ _;exact ub),(by show @Ne Nat _ _;exact t_),(by show @Ne Nat _ _;omega),(by show @Ne Nat _ _;omega),(by show @Ne Nat _ _;omega),(by show @Ne Nat _ _;omega)⟩ (I.ok.hd hc) (λk=>Sum.inr (ns.getD k Str.empty)) (λk v hv=>?_)
  (by rw[Qe,hits];exact hlen) (by rw[Qe,hits];omega) b1 b2 ⟨_,_,b3⟩ b4 b5 (pl.isList.at λo e=>b7 _ o e) λh3 tk ps hp1 hp2 hd3 hk3=>?_
 ·have hv':its[k]?=some v:=by simpa using hv
  have hk:k<ns.length:=by have:=(Qf.mp hv').1;exact mC hits this
  have e1:(ns.map V.str)[k]?=some (.str (ns.getD k Str.empty)):=by
   rw[Ql,Qd hk,QE,Qd hk];rfl
  obtain⟨u,hu,ru⟩:=rv.get e1;rw[hv']at hu;cases hu;obtain⟨t',e⟩:=ru;subst e;exact dD _ _ _ _
 have hlenz:(bT ns z).length=ns.length:=by unfold bT;simp
 have kv:KV (bT ns z) ps:=by
  refine d9 (by rw[hlenz,hp1,Qe,hits]) λj x y e1 e2=>?_;obtain⟨f1,c,u,f2,f3⟩:=hp2 j y e2;unfold bT at e1;rw[Ql,List.getElem?_zipIdx]at e1
  cases e:ns[j]? with
  | none=>rw[e]at e1;simp at e1
  | some n =>
  rw[e]at e1;simp at e1;subst e1;refine⟨?_,?_⟩
  ·rw[f1];show (Sum.inr n:Key)=Sum.inr (ns.getD j Str.empty);rw[QE,e];rfl
  rw[f3];refine⟨u,?_⟩;show Value.str ⟨#[c]⟩ u=Value.str ⟨#[z.cps.getD j 0]⟩ u;rw[Array.getD_eq_getD_getElem?,f2];rfl
 have hnew:H1 h2.objs.size=none:=I2.hok.fresh (Qh _)
 have kept:∀c o,s1.heap.get? c=some o->h3.get? c=some o:=λc o e=>by
  have:@LT.lt Nat _ c s1.heap.objs.size:=Qk e;exact hk3 c o (by show @Ne Nat _ _;omega) (by show @Ne Nat _ _;omega) (by show @Ne Nat _ _;omega) (by show @Ne Nat _ _;omega) (b7 c o e)
 have hle:s1.heap.objs.size<=h2.objs.size:=by exact t9 b6
 have I3:Inv X pins σ (upd H1 h2.objs.size (.dK (bj [] (bT ns z)))) { s1 with heap:=h3,toks:=tk }:=I1.laid kept hle ⟨by
   have:=cN (bT ns z) [];rw[hlenz]at this;simp only[List.length_nil]at this
   omega,beq_eq_false_iff_ne.mpr (by
   have:@LT.lt Nat _ sysModules s1.heap.objs.size:=I1.big;intro e;have e':@Eq Nat h2.objs.size sysModules:=e
   omega),_,kU kv .nil,hd3⟩
 exact⟨.ref h2.objs.size,_,I3,rfl,q _ hnew⟩
end
end L2
namespace XE
open PySem
open Sem (wp)
structure XN (fs:A3) (e T:Addr) (oe:Obj) (h h':Heap):Prop where
 keep:∀b o,b≠e->b∉fs->h.get? b=some o->h'.get? b=some o
 slot:∀b o,b≠e->h.get? b=some o->∃sl,h'.get? b=some { o with slots:=sl }
 at_:h'.get? e=some (oe.mapFields (·.setIfInBounds 1 (.ref T)))
 new:h.get? T=none
abbrev tbO (head:Value) (L:Addr) (pc:List Value):Obj:={ cls:=.type "traceback", dict:=none,data:=.fields ([head,.ref L,.none,rawInt L,.none]++(if pc.isEmpty then List.replicate 6 Value.none else pc)).toArray }
section
variable {M:Model} {A:Around} {E:A0} {s:Shared}
variable {Q:Unit->Shared->Prop} {vs ts:Array Value} {oe oT o:Obj} {L e T:Addr} {outer:List Env} {env:Env}
theorem iF {base:Heap} {head:Value} {hadNext:Bool}
  (fr:A.frames=some (env::outer)) (ff:s.heap.FunFrames base (env::outer)) (fL:env.frame=some L)
  (ee:s.heap.get? e=some oe) (ed:oe.data=.fields vs) (sz:1<vs.size)
  (h:∀h' T oT ts,XN ((env::outer).filterMap (·.frame)) e T oe s.heap h'->h'.get? T=some oT->oT.data=.fields ts->ts[3]?=some (rawInt L)->T≠e->Q () { s with heap:=h' }) :
  wpAny M A (do let a <-frameOf env;let pc <-entryPlaceOf L hadNext;let b <-EntryCells.newEntry head a .none (rawInt L) .none pc;setField (.ref e) 1 b) Q E s:=by
 have nef:e∉(env::outer).filterMap (·.frame):=λmm=>by
  obtain⟨_,o,eo,nf⟩:=ff.mem mm;rw[ee]at eo;injection eo with eo;subst eo;exact nf vs ed
 refine Qa (wpAny_frameOf_fun fr ff fL λg1 so=>?_);refine Qa (wpAny_entryPlaceOf λpc pk=>?_);unfold EntryCells.newEntry newFields;refine Qa (wpAny_newObj_type ?_ (pk.sizeOk5 _ _ _ _ _));have x1:g1.get? e=some oe:=(so.2.1 e nef).trans ee;have x2:=Qc (h:=g1) (tbO head L pc) x1;refine wpAny_setField x2 ed sz ?_;have nTe:g1.objs.size≠e:=Nat.ne_of_gt (Qk x1);have x3:=Qr ed (·.setIfInBounds 1 (Value.ref g1.objs.size));have x4:=QI (Obj.mapFields (·.setIfInBounds 1 (Value.ref g1.objs.size))) x2 (QY x3)
 have x5:=(Qj (g1.push (tbO head L pc))
  (Obj.mapFields (·.setIfInBounds 1 (Value.ref g1.objs.size))) (QT nTe)).trans (Qn g1 rfl)
 have keep:∀b o,b≠e->g1.get? b=some o ->
   ((g1.push (tbO head L pc)).update e (Obj.mapFields (·.setIfInBounds 1 (Value.ref g1.objs.size)))).get? b=some o :=
  λb o nbe eb=>by
   rw[Qj _ _ (QT nbe)];exact Qc _ eb
 refine h _ g1.objs.size _ _ ⟨λb o nbe nbf eb=>keep b o nbe ((so.2.1 b nbf).trans eb),λb o nbe eb=>?_,x4,?_⟩ x5 rfl ?_ nTe
 ·obtain⟨sl,ez⟩:=so.2.2 b o eb;exact⟨sl,keep b _ nbe ez⟩
 ·exact xb (by first|exact Nat.le_of_eq so.1.symm|exact Nat.le_of_eq so.1|(rw[so.1];exact Qh _))
 first|(simp;done)|(rcases pk with rfl|⟨_,_,_,_,_,_,_,rfl⟩ <;> simp)
theorem eD {f:Option Addr} (ee:s.heap.get? e=some oe) (ed:oe.data=.fields vs) (v1:vs[1]?=some (.ref T))
  (eT:s.heap.get? T=some oT) (dT:oT.data=.fields ts) (v3:3<ts.size)
  (h:Q () { s with heap:=s.heap.update T (Obj.mapFields (·.setIfInBounds 3 (f.elim Value.none λf=>rawInt f))) }):wpAny M A (setFlight (.ref e) f) Q E s:=by
 unfold setFlight;refine Qa (QA ee ed v1 ?_);rw[QH (show (Value.ref T != Value.none)=true from by simp)];exact wpAny_setField eT dT v3 h
structure Tr (e T:Addr) (h:Heap):Prop where
 ex:∃oe vs oT ts,h.get? e=some oe/\oe.data=.fields vs/\vs[1]?=some (.ref T)/\h.get? T=some oT/\oT.data=.fields ts/\ts[3]?=some .none
 ne:T≠e
structure XL (fs:A3) (e:Addr) (Ts:A3) (h h':Heap):Prop where
 keep:∀b o,b≠e->b∉Ts->b∉fs->h.get? b=some o->h'.get? b=some o
 slot:∀b o,b≠e->b∉Ts->h.get? b=some o->∃sl,h'.get? b=some { o with slots:=sl }
 at_:∀oe,h.get? e=some oe->∃oe',h'.get? e=some oe'/\oe'.cls=oe.cls/\oe'.dict=oe.dict
theorem bR {f:Array Value->Array Value}:(o.mapFields f).cls=o.cls/\(o.mapFields f).dict=o.dict:=by
 obtain⟨c,d,dt,sl⟩:=o;cases dt <;> exact⟨rfl,rfl⟩
theorem rT {base:Heap}
  (fr:A.frames=some (env::outer)) (ff:s.heap.FunFrames base (env::outer)) (fL:env.frame=some L)
  (ee:s.heap.get? e=some oe) (ed:oe.data=.fields vs) (v1:vs[1]?=some .none)
  (h:∀h' T,XL ((env::outer).filterMap (·.frame)) e [] s.heap h'->Tr e T h'->s.heap.get? T=none->Q () { s with heap:=h' }):wpAny M A (leaving env (.ref e)) Q E s:=by
 unfold leaving noteFrame;simp only[fL];refine Qa (Qa (QA ee ed v1 ?_));rw[QB (by decide)];have sz:=(Qt.mp v1).1;refine iF fr ff fL ee ed sz λh' T oT ts x eT dT v3 hne=>?_;have x3:=Qr ed (·.setIfInBounds 1 (Value.ref T));have v3':=(Qt.mp v3).1;refine eD (s:={ s with heap:=h' }) x.at_ x3 (by simp[sz]) eT dT v3' ?_;have ne:∀b o,s.heap.get? b=some o->T≠b:=λb o q z=>by rw[<-z,x.new]at q;cases q
 refine h _ T ⟨λb o eb _ fL q=>?_,λb o eb _ q=>?_,λoe' q=>?_⟩ ⟨⟨_,_,_,_,?_,x3,by simp[sz],QI _ eT (QY (Qr dT _)),Qr dT _,by simp[v3']⟩,hne⟩ x.new
 ·exact(Qj _ _ (ne b o q)).trans (x.keep b o eb fL q)
 ·obtain⟨sl,z⟩:=x.slot b o eb q;exact⟨sl,(Qj _ _ (ne b o q)).trans z⟩
 ·rw[ee]at q;cases q;exact⟨_,(Qj _ _ hne).trans x.at_,bR.1,bR.2⟩
 exact(Qj _ _ hne).trans x.at_
theorem qQ {base:Heap}
  (fr:A.frames=some (env::outer)) (ff:s.heap.FunFrames base (env::outer)) (fL:env.frame=some L) (t:Tr e T s.heap)
  (h:∀h' T',XL ((env::outer).filterMap (·.frame)) e [T] s.heap h'->Tr e T' h'->s.heap.get? T'=none->Q () { s with heap:=h' }) :
  wpAny M A (noteFrame (.ref e) env) (λ_ s₂=>wpAny M A (setFlight (.ref e) none) Q E s₂) E s:=by
 obtain⟨⟨oe,vs,oT,ts,ee,ed,v1,eT,dT,v3⟩,nTe⟩:=t;unfold noteFrame;simp only[fL];refine Qa (QA ee ed v1 ?_);rw[QH (show (Value.ref T != Value.none)=true from by simp)];refine Qa (QA eT dT v3 ?_);rw[QB (show ¬((Value.none==rawInt L)=true) from by simp[rawInt])];refine Qa (wpAny_setField eT dT (Qt.mp v3).1 ?_);have sz:=(Qt.mp v1).1;have els:∀b,b≠T->(s.heap.update T (Obj.mapFields (·.setIfInBounds 3 Value.none))).get? b=s.heap.get? b:=λb eb=>Qj _ _ (QT eb)
 have norec:∀b o,s.heap.get? b=some o->(∀vs,o.data≠.fields vs)->b≠T:=λb o eb nf q=>by
  rw[q,eT]at eb;injection eb with eb;subst eb;exact nf ts dT
 refine iF (ff:=ff.of_keeps λb o eb nf=>⟨o,(els b (norec b o eb nf)).trans eb,rfl⟩) fr (fL:=fL) (ee:=(els e (QT nTe)).trans ee) ed sz λh' T' oT' ts' x eT' dT' v3' hne=>?_;have x3:=Qr ed (·.setIfInBounds 1 (Value.ref T'));have v3'':=(Qt.mp v3').1
 have nT:T≠T':=λz=>by
  have q:=x.new;rw[<-z,QI _ eT (QY (Qr dT _))]at q;cases q
 have new:s.heap.get? T'=none:=by
  have q:=x.new
  change (s.heap.update T (Obj.mapFields (·.setIfInBounds 3 Value.none))).get? T'=none at q
  rwa [els T' (QT nT)]at q
 refine eD (s:={ s with heap:=h' }) x.at_ x3 (by simp[sz]) eT' dT' v3'' ?_;have ne:∀b o,s.heap.get? b=some o->T'≠b:=λb o q z=>by rw[<-z,new]at q;cases q
 refine h _ T' ⟨λb o eb ht fL q=>?_,λb o eb ht q=>?_,λoe' q=>?_⟩ ⟨⟨_,_,_,_,?_,x3,by simp[sz],QI _ eT' (QY (Qr dT' _)),Qr dT' _,by simp[v3'']⟩,hne⟩ new
 ·exact(Qj _ _ (ne b o q)).trans (x.keep b o eb fL ((els b (λz=>ht (by simp[z]))).trans q))
 ·obtain⟨sl,z⟩:=x.slot b o eb ((els b (λz=>ht (by simp[z]))).trans q);exact⟨sl,(Qj _ _ (ne b o q)).trans z⟩
 ·rw[ee]at q;cases q;exact⟨_,(Qj _ _ hne).trans x.at_,bR.1,bR.2⟩
 exact(Qj _ _ hne).trans x.at_
theorem ml {base:Heap}
  (fr:A.frames=some (env::outer)) (ff:s.heap.FunFrames base (env::outer)) (fL:env.frame=some L) (t:Tr e T s.heap)
  (h:∀h' T',XL ((env::outer).filterMap (·.frame)) e [T] s.heap h'->Tr e T' h'->s.heap.get? T'=none->Q () { s with heap:=h' }):wpAny M A (leaving env (.ref e)) Q E s:=by
 unfold leaving;exact Qa (qQ fr ff fL t h)
theorem rX {fs:A3} (t:Tr e T s.heap) (h:∀h',XL fs e [T] s.heap h'->Tr e T h'->Q () { s with heap:=h' }):wpAny M A (setFlight (.ref e) none) Q E s:=by
 obtain⟨⟨oe,vs,oT,ts,ee,ed,v1,eT,dT,v3⟩,nTe⟩:=t;have v3':=(Qt.mp v3).1;have els:∀b,b≠T->(s.heap.update T (Obj.mapFields (·.setIfInBounds 3 ((none:Option Addr).elim Value.none λf=>rawInt f)))).get? b=s.heap.get? b:=λb eb=>Qj _ _ (QT eb);refine eD ee ed v1 eT dT v3' (h _ ⟨λb o _ ht _ q=>(els b (λz=>ht (by simp[z]))).trans q,λb o _ ht q=>⟨o.slots,(els b (λz=>ht (by simp[z]))).trans q⟩,λoe' q=>⟨oe',(els e (QT nTe)).trans q,rfl,rfl⟩⟩ ⟨⟨oe,vs,_,_,(els e (QT nTe)).trans ee,ed,v1,QI _ eT (QY (Qr dT _)),Qr dT _,by simp[v3']⟩,nTe⟩)
end
end XE
namespace XE
open PySem
abbrev Lk {α:Type} (M:Model) (g:Heap) (t:Sem α) (r:α):Prop:=∀(A:Around) (Q:α->Shared->Prop) (E:A0) (s:Shared),(∀b o,g.get? b=some o->s.heap.get? b=some o)->Q r s->wpAny M A t Q E s
abbrev kJ (us:List Value):Obj:={ cls:=.type "tuple", data:=.seq us.toArray }
abbrev fk (C p:Addr):Obj:={ cls:=.ref C,data:=.fields #[.ref p,.none,.none,.none,.bool false,.none] }
structure XC (g:Heap) (C:Addr) (B new:String) (up top:List Value):Prop where
 obj:∃nm q N bs hd sn sub ab col dd a0 a1 a2 a3 a5,g.get? C=some (excClassObj nm q C N bs up hd sn sub ab col dd a0 a1 a2 a3 a5 new)
 tail:OwnTail g top up
theorem XC.keeps {g g':Heap} {C:Addr} {B new:String} {up top:List Value} (x:XC g C B new up top) (k:∀b o,g.get? b=some o->g'.get? b=some o):XC g' C B new up top:=by
 obtain⟨a1,a2,a3,a4,a5,a6,a7,a8,a9,a10,a11,a12,a13,a14,a15,e⟩:=x.obj;exact⟨⟨a1,a2,a3,a4,a5,a6,a7,a8,a9,a10,a11,a12,a13,a14,a15,k _ _ e⟩,x.tail.keeps k⟩
section
variable {P:Program} {w:World} {A:Around} {E:A0} {g:Heap} {gs:Array GenState} {dr:Drawn} {tk:Nat} {os:OsState} {C:Addr} {B new init:String} {up top:List Value}
abbrev gQ (g:Heap) (C:Addr) (us:List Value):Heap:=(g.push (kJ us)).push (fk C g.objs.size)
theorem ci {b:Addr} {o:Obj} {us:List Value} (e:g.get? b=some o):(gQ g C us).get? b=some o:=Qc _ (Qc _ e)
variable {us:List Value}
theorem gq:(gQ g C us).get? (g.objs.size+1)=some (fk C g.objs.size):=by
 have e:=Qn (g.push (kJ us)) (o:=fk C g.objs.size) rfl;rwa [Heap.size_push]at e
variable {Q:A0}
theorem tw (F:ExcBaseFacts B new init top) (x:XC g C B new up top) {fI:Addr} {oI:Obj}
  (hi:Lk (model P w) g (typeLookup (.ref C) "__init__") (some (.ref fI))) (e1:g.get? fI=some oI) (e2:oI.cls=.type "function") (few:us.length<=sizeLine)
  (k:wpAny (model P w) (A.under (.builtin "type.__call__" ⟨.ref C::us,[]⟩)) (call (.ref fI) (.ref (g.objs.size+1)::us)) (λr s'=>r=.none/\Q (.ref (g.objs.size+1)) s') E ⟨gQ g C us,gs,dr,tk,os⟩) :
  wpAny (model P w) A (call (.ref C) us) Q E ⟨g,gs,dr,tk,os⟩:=by
 obtain⟨⟨nm,q,N,bs,hd,sn,sub,ab,col,dd,a0,a1,a2,a3,a5,eC⟩,T⟩:=x;have l1:=tc_lookup;have l2:=tc_bind (.ref C);have ty:(⟨g,gs,dr,tk,os⟩:Shared).TypeIs (.ref C) "type" := ⟨_,eC,rfl⟩;refine wpAny_call (codeAny_of_tree (?_:wpAny _ _ (callAny (.ref C) ⟨us,[]⟩) _ _ _))
 repeat (any_goals (first|assumption|wp_step))
 refine⟨rfl,codeAny_call_builtin_at (Code.quiet_builtin _ (by decide +kernel)) entry_typeCall (wpAny_check_type_call_sub eC ?_)⟩
 repeat (first|with_reducible refine wpAny_madeBy_exc eC ?_|wp_step)
 refine codeAny_call_builtin_code (Code.quiet_builtin _ F.quiet) (wpAny_check_new_subT F T eC (codeAny_exc_new_subT F T eC (?_:wpAny _ _ _ _ _ _) few));have eC':=ci (C:=C) (us:=us) eC;have eI:=ci (C:=C) (us:=us) e1;have eN:(gQ g C us).get? (g.objs.size+1)=some (fk C g.objs.size):=gq;have own:(Value.ref C::up).contains (.ref C)=true:=by simp
 unfold isInstance
 repeat (first|with_reducible refine wpAny_loadPart_at eN ?_|wp_step)
 refine wpAny_isSubtype_exc eC' ?_;rw[own]
 repeat (first|with_reducible refine wpAny_loadPart_at eN ?_|wp_step)
 refine(?_:wpAny _ _ (typeLookup (.ref C) "__init__") _ _ _);refine hi _ _ _ _ (λb o e=>ci e) (QN (Qa ?_));unfold bindSpecial;refine Qa (wpAny_typeOf (T := "function") ⟨_,eI,e2⟩ ?_);rw[QH (by decide)];refine Qg (Qa (Q1 k (λr s' z=>?_) λ_ _ z=>z));obtain⟨e,z⟩:=z;subst e
 wp_walk
 exact z
theorem qR (F:ExcBaseFacts B new init top) (x:XC g C B new up top) {e p:Addr} {ob:Obj} (e1:g.get? e=some ob) (e2:ob.cls=.ref C)
  (e3:ob.data=.fields #[.ref p,.none,.none,.none,.bool false,.none]) (few:us.length<=sizeLine)
  (k:∀g',(∀b o,b≠e->g.get? b=some o->g'.get? b=some o)->g'.get? e=some { ob with data:=.fields #[.ref g.objs.size,.none,.none,.none,.bool false,.none] }->Q .none ⟨g',gs,dr,tk,os⟩) :
  wpAny (model P w) A (call (.builtin init) (.ref e::us)) Q E ⟨g,gs,dr,tk,os⟩:=by
 obtain⟨⟨nm,q,N,bs,hd,sn,sub,ab,col,dd,a0,a1,a2,a3,a5,eC⟩,T⟩:=x;refine wpAny_call (codeAny_call_builtin F.init.plain F.initEntry (wpAny_check_init_subT F T eC e1 e2 ?_));have e4:=Qc (kJ us) e1;obtain⟨oc,od,odt,osl⟩:=ob;dsimp only at e2 e3;subst e2 e3
 wp_walk
 refine k _ (λb o ne z=>(Qj _ _ (QT ne)).trans (Qc _ z)) ?_;rw[QI _ e4 rfl];rfl
theorem rN {M:Model} {env:Env} {s:Shared} {t:Sem Value} {Q:Flow->Shared->Prop} (hb:top.contains (.type "BaseException")=true) (hh:A.handled=none)
  (k:wpAny M A t (λv s1=>∃e ob p,v=.ref e/\XC s1.heap C B new up top/\s1.heap.get? e=some ob/\ob.cls=.ref C/\ob.data=.fields #[.ref p,.none,.none,.none,.bool false,.none]/\E (.ref e) s1) E s) :
  wpAny M A (raiseStmt env (some t) none) Q E s:=by
 unfold raiseStmt;refine Qa (Q1 k (λv s1 z=>?_) λ_ _ z=>z);obtain⟨e,ob,p,e0,⟨⟨nm,q,N,bs,hd,sn,sub,ab,col,dd,a0,a1,a2,a3,a5,eC⟩,T⟩,e1,e2,e3,z⟩:=z;subst e0;have base:(Value.ref C::up).contains (.type "BaseException")=true:=by rw[List.contains_cons,T.hasType hb];rfl
 obtain⟨h1,g1,d1,t1,o1⟩:=s1;obtain⟨oc,od,odt,osl⟩:=ob;dsimp only at e2 e3;subst e2 e3
 repeat (first|with_reducible refine wpAny_loadPart_at e1 ?_|(with_reducible refine wpAny_isSubtype_exc eC ?_;rw[base])|wp_step)
 exact wpAny_raiseNew_none hh z
end
end XE
set_option maxHeartbeats 1000000
namespace XE
open PySem PySem.W PySem.Calls PyProof.Rows Builtin Builtin.ObjectAttr
abbrev fM:List Value:=[.type "ValueError", .type "Exception", .type "BaseException", .type "object"]
structure XKl (K:Frag) (C NE:Addr):Prop where
 mr:((clsIn K C).any λcd=>cd.mro==.ref C::.ref NE::fM)=true
 ga:findIn K (.ref C) "__getattribute__" = some (some (.builtin "BaseException.__getattribute__"))
 gh:findIn K (.ref C) "__getattr__" = some none
 sb:subIn K (.ref C) (.type "BaseException")=some true
 hd:hasDictIn K C=true
 cl:findIn K (.ref C) "__class__" = some (some (.builtin "object.__class__"))
 cg:specialIn K (.builtin "object.__class__") "__get__" = some (some (.builtin "getset_descriptor.__get__"))
 ct:takesIn K (.builtin "object.__class__")=some true
 ob:mroIn K C (.type "object")=some true
 sa:findIn K (.ref C) "__setattr__" = some (some (.builtin "object.__setattr__"))
theorem bga:Slot "ValueError" "__getattribute__" "BaseException.__getattribute__" :=
 .of (owner := "BaseException") (n := "__getattribute__") (by rw[typeLookup_type,builtinLookup_eq_fast];kernel_rfl) (by decide +kernel) (by decide +kernel) (by decide +kernel) (by first|exact .inl (by decide +kernel)|exact .inr (by decide +kernel)) (by rw[isSubtype_type];kernel_rfl)
theorem uR:builtinKind "BaseException.__getattribute__" = some .slot:=by decide +kernel
theorem uP:splitId "BaseException.__getattribute__" = some ("BaseException", "__getattribute__"):=by decide +kernel
theorem uQ:(Value.builtin "BaseException.__getattribute__" == Value.builtin "object.__getattribute__")=false:=by decide +kernel
section
variable {P:Program} {w:World} {A:Around} {E:A0} {R:Result->Shared->Prop} {s:Shared} {K:Frag} {x C NE:Addr} {ox:Obj} {od:Option Obj} {name:Str}
variable {Q:A0}
theorem xby {tk:Tok} {fill expr:Bool} (X:K.In s.heap) (I:InstAt s.heap x ox C od) (k:XKl K C NE)
  (h:wpAny (model P w) A.in1 (Builtin.«object.__getattribute__» ⟨[.ref x,.str name tk],[]⟩) (λfin s'=>match fin with|.done (.ret v)=>wpAny (model P w) A (handedOut v) Q E s'|_=>False) (λ_ _=>False) s) :
  wpAny (model P w) A (getAttrBy (.ref x) (.str name tk) fill expr) Q E s:=by
 have hx:(expr&&onTheHeap (Value.builtin "BaseException.__getattribute__"))=false:=by cases expr <;> rfl
 unfold getAttrBy;refine QN (Qa (I.type.here (Qa ((looks_findIn X k.ga).here ?_))));dsimp only;rw[uQ,Bool.and_false,QB (by decide)];unfold getAttrByItsOwn;refine Qa ((looks_hook (mc:=.ref C) X (r:=none) (by rw[QH (show onTheHeap (Value.ref C)=true from rfl)];exact k.gh)).here (Qa (wpAny_attempt (QN ?_))));unfold callGetattribute;rw[hx,QB (by decide)];unfold boundAndCalled;rw[bga.bind];refine Qa (Qg ?_);show wpAny _ _ (call (.builtin "BaseException.__getattribute__") [.ref x,.str name tk]) _ _ _;refine wpAny_call ?_;refine codeAny_call_builtin bga.plain F.entry_bexc_ga ?_;refine @check_slot (model P w) _ _ s "BaseException.__getattribute__" "BaseException" "__getattribute__" (.ref x) [.str name tk] [] _ uR uP (I.type.andThen (looks_subIn X k.sb)) (F.args_bexc_ga (.ref x) (.str name tk)) ?_;refine Q1 h (λfin s' z=>?_) λ_ _ z=>z.elim;rcases fin with(_|_|_|_)|_ <;> first|exact z|exact z.elim
theorem u4 {v:Value} {expr:Bool} (X:K.In s.heap) (I:InstAt s.heap x ox C od) (k:XKl K C NE) (hf:findObj K C od name=some (.value v)) (hh:handedIn v=true)
  (h:Q v { s with toks:=s.toks+1 }):wpAny (model P w) A (getAttr (.ref x) name expr) Q E s:=by
 refine Qa (wpAny_mkText (xby (s:={ s with toks:=s.toks+1 }) X I k ?_));obtain⟨h1,g1,d1,t1,o1⟩:=s;have L0:=I.type (M:=model P w);have L1:=looks_find (M:=model P w) X I hf;refine Qa (Qg (Qa (Qg (Qa (L0.at (Qa (L1.at (Qg ?_))))))));exact handed_on hh h
theorem u0 {v:Value} {Q:Unit->Shared->Prop} (X:K.In s.heap) (k:XKl K C NE) (e1:s.heap.get? x=some ox) (e2:ox.cls=.ref C) (e3:ox.dict=none) {vs:Array Value} (e4:ox.data=.fields vs) (ha:findIn K (.ref C) name=some none)
  (h:∀h' tk,(∀b o,b≠x->s.heap.get? b=some o->h'.get? b=some o)->h'.get? x=some { ox with dict:=some s.heap.objs.size }->h'.Ns1 s.heap.objs.size (λy=>if y=name then some v else none)->Q () { s with heap:=h',toks:=tk }) :
  wpAny (model P w) A (setAttr (.ref x) name v) Q E s:=by
 have I:InstAt s.heap x ox C none:=⟨e1,e2,by obtain⟨_,_,od,_⟩:=ox;dsimp only at e4;subst e4;rfl,by rw[e3];trivial⟩;refine PySem.W.set_plain X I k.sa ?_;have SF:=PySem.F.store_ValueError;have SO:=PySem.F.store_object;obtain⟨cd,hc,hm⟩:=any_some k.mr;have hm':cd.mro=.ref C::.ref NE::fM:=beq_iff_eq.mp hm;have Lm:Looks (model P w) s.heap (mroOf (.ref C)) cd.mro:=(looks_clsIn X hc).andThen .now;have sub:Looks (model P w) s.heap (isInstance (.ref x) (.type "object")) true:=I.type.andThen (looks_mroIn X k.ob);refine codeAny_call_builtin SO.slot.plain SO.entry ?_;refine @check_slot (model P w) _ _ { s with toks:=s.toks+1 } "object.__setattr__" "object" "__setattr__" (.ref x) [.str name s.toks,v] [] _ SO.kind SO.split sub (SO.args (.ref x) (.str name s.toks) v) ?_;rw[osa_eq,refuse_eq];refine Qa (Qa (Looks.here (s:={ s with toks:=s.toks+1 }) I.type (Qa (Looks.here (s:={ s with toks:=s.toks+1 }) Lm ?_))));rw[hm',refuseLoop_ref,refuseLoop_ref,SF.passes];refine Qg (Qa (Looks.here (s:={ s with toks:=s.toks+1 }) I.type (Qa (Looks.here (s:={ s with toks:=s.toks+1 }) (looks_findIn X ha) (Qa (Qg ?_))))));obtain⟨cd2,hc2,hd2⟩:=any_some k.hd;refine Qa (Qg (Qa (Qa (wpAny_loadPart e1 ?_))));obtain⟨h1,g1,d1,t1,o1⟩:=s;obtain⟨oc,odi,oda,osl⟩:=ox;dsimp only at e1 e2 e3 e4;subst e2 e3 e4;dsimp only;refine Qa (Looks.at (looks_clsIn X hc2) ?_);rw[hd2];have e5:=Qc { cls:=.type "dict", data:=.dict #[] } e1;have nx:x≠h1.objs.size:=Qy (Qk e1);refine Qa (wpAny_alloc' ?_);refine Qa (wpAny_update' e5 ?_);refine Qg (a:=some h1.objs.size) ?_;dsimp only
 have e6:((h1.push { cls:=.type "dict", data:=.dict #[] }).update x λo=>{ cls:=o.cls,dict:=some h1.objs.size,data:=o.data,slots:=o.slots }).get? h1.objs.size=some { cls:=.type "dict", data:=.dict #[] } :=
  (Qj _ _ nx).trans (Heap.get?_push_at rfl rfl)
 have e7:((h1.push { cls:=.type "dict", data:=.dict #[] }).update x λo=>{ cls:=o.cls,dict:=some h1.objs.size,data:=o.data,slots:=o.slots }).Ns h1.objs.size (λ_=>none):=⟨_,#[],_,e6,rfl,λe he=>absurd he (by simp),λ_=>rfl⟩;unfold storeInDict newKeyGuard;refine Qa (Qg (Qa (wpAny_nsSet1 (Heap.Ns1.of_empty e7) λh' n1 sb=>?_)));obtain⟨oD,es,ep,q1,q2,q3⟩:=n1.count (Within.cons name v Within.nil);refine Qa (wpAny_lookBehind q1 (by rw[q2];exact pastItsLine_dict (QQ q3 (by rw[QM,List.length_nil,sizeLine_eq];omega))) ?_);refine Qg (h h' _ (λb o nb q=>?_) ?_ n1)
 ·exact(sb.2 b (Qy (Qk q))).trans ((Qj _ _ (QT nb)).trans (Qc _ q))
 exact(sb.2 x nx).trans (QI _ e5 rfl)
end
end XE
namespace L2
open PySem PySem.Spec PyProof.Rows PySem.Calls
def XOk (e C:Addr) (d:Option Addr) (fresh:Bool) (h:Heap):Prop:=∃o vs,h.get? e=some o/\o.cls=.ref C/\o.dict=d/\o.data=.fields vs/\(fresh=true->∃t,vs=#[.ref t,.none,.none,.none,.bool false,.none])
abbrev XO (e C:Addr) (d:Option Addr) (fresh:Bool):HO:=.ext (XOk e C d fresh)
section
variable {P:Program} {w:World} {H H1 H2:Hp} {h h1 h2:Heap} {a e C L:Addr} {d:Option Addr} {b:Bool} {o u:HO} {fs Ts:A3}
theorem dU (x:XOk e C d b h):ba P w H h e (XO e C d b):=by
 obtain⟨o,vs,h1,r⟩:=id x;exact⟨x,⟨o,h1⟩,λg1 g2 ⟨o,vs,q,r⟩ k=>⟨o,vs,k o q,r⟩⟩
theorem ba.there (x:ba P w H h a o):∃u,h.get? a=some u:=by
 induction o with
 | lst xs=>obtain⟨_,_,_,_,e⟩:=x;exact⟨_,e⟩
 | tup xs=>obtain⟨_,_,_,_,e,_⟩:=x;exact⟨_,e⟩
 | dK kvs=>obtain⟨_,_,_,_,o,_,_,e,_⟩:=x;exact⟨_,e⟩
 | dT kvs=>obtain⟨_,_,_,_,o,_,_,e,_⟩:=x;exact⟨_,e⟩
 | set S n=>obtain⟨o,_,_,_,e,_⟩:=x;exact⟨_,e⟩
 | ins C dx fs=>obtain⟨_,_,_,e,_⟩:=x;exact⟨_,e⟩
 | own y=>obtain⟨_,e⟩:=x;exact⟨_,e⟩
 | xd fs=>obtain⟨_,⟨_,_,_,e,_⟩,_⟩:=x;exact⟨_,e⟩
 | rng lo hi=>obtain⟨_,_,_,e⟩:=x;exact⟨_,e⟩
 | frz ob u ih=>obtain⟨e,_⟩:=x;exact⟨_,e⟩
 | tbl ps=>exact⟨_,(show h.get? a=some _ from x)⟩
 | met f y=>exact⟨_,(show h.get? a=some _ from x)⟩
 | ext φ=>obtain⟨_,e,_⟩:=x;exact e
theorem HOk.nothere (x:HOk P w H h) (n:h.get? a=none):H a=none:=by
 cases q:H a with
 | none=>rfl
 | some u=>obtain⟨v,z⟩:=(x a u q).there;rw[n]at z;cases z
variable {ψ φ:Heap->Prop}
theorem Un.exc (x:Un fs [] H H1 h h1) (he:H1 e=some (.ext φ)) (he2:H2 e=some (.ext ψ)) (els:∀b,b≠e->H2 b=H1 b) (y:XE.XL (L::fs) e Ts h1 h2) (hL:h.get? L=none) (hT:∀T∈Ts,h.get? T=none):Un fs [] H H2 h h2:=by
 have ne:∀b ob,h.get? b=some ob->H b=none->b≠e:=λb ob q n z=>by
  have:=x.free b ob q n (by simp);rw[z,he]at this;cases this
 have nT:∀b ob,h.get? b=some ob->b∉Ts:=λb ob q z=>by rw[hT b z]at q;cases q
 have nL:∀b ob,h.get? b=some ob->b≠L:=λb ob q z=>by rw[z,hL]at q;cases q
 refine⟨λb ob q n hb _=>?_,λb ob q n hb _=>?_,λb ob q n _=>?_,λb ob q _=>?_,λb xs q=>?_,λb ob u q=>?_,λb ps q=>?_⟩
 ·exact y.keep b ob (ne b ob q n) (nT b ob q) (λz=>(Q5.mp z).elim (nL b ob q) hb) (x.keep b ob q n hb (by simp))
 ·obtain⟨sl,z⟩:=x.slot b ob q n hb (by simp);obtain⟨sl2,z2⟩:=y.slot b _ (ne b ob q n) (nT b ob q) z;exact⟨sl2,z2⟩
 ·rw[els b (ne b ob q n)];exact x.free b ob q n (by simp)
 ·obtain⟨o',z⟩:=x.there b ob q (by simp);by_cases hb:b=e
  ·subst hb;obtain⟨oe,z2,_⟩:=y.at_ o' z;exact⟨oe,z2⟩
  obtain⟨sl,z2⟩:=y.slot b o' hb (nT b ob q) z;exact⟨_,z2⟩
 ·have z:=x.tups b xs q;rw[els b (cU z he (by intro k;cases k))];exact z
 ·have z:=x.frzs b ob u q;rw[els b (cU z he (by intro k;cases k))];exact z
 obtain⟨m,z⟩:=x.tbls b ps q;exact⟨m,by rw[els b (cU z he (by intro k;cases k))];exact z⟩
theorem HOk.exc (x:HOk P w H1 h1) (he:H1 e=some (.ext φ)) (he2:H2 e=some (.ext ψ)) (new:ba P w H2 h2 e (.ext ψ)) (els:∀b,b≠e->H2 b=H1 b) (y:XE.XL fs e Ts h1 h2) (hf:∀b∈fs,H1 b=none) (hT:∀T∈Ts,H1 T=none):HOk P w H2 h2:=λb u q=>by
 by_cases hb:b=e
 ·subst hb;rw[he2]at q;cases q;exact new
 rw[els b hb]at q
 have trk:∀c v ob,c≠e->H1 c=some v->h1.get? c=some ob->h2.get? c=some ob:=λc v ob hc z k =>
  y.keep c ob hc (λi=>by rw[hT c i]at z;cases z) (λi=>by rw[hf c i]at z;cases z) k
 refine(x b u q).stay (λc ob hc k=>?_) (λc z=>?_) λc xs z=>?_
 ·rcases hc with z|z
  ·subst z;exact trk c u ob hb q k
  exact trk c _ ob (cU z he (by intro k;cases k)) z k
 ·rw[els c (cU z he (by intro k;cases k))];exact z
 rw[els c (cU z he (by intro k;cases k))];exact z
theorem iE (x:XOk e C d b h1) (y:XE.XL fs e Ts h1 h2) (t:∃T,XE.Tr e T h2):XOk e C d false h2:=by
 obtain⟨o,vs,h1,c1,c2,_⟩:=x;obtain⟨oe,z,e1,e2⟩:=y.at_ o h1;obtain⟨T,⟨oe',vs',_,_,z',dd,_⟩,_⟩:=t;rw[z]at z';cases z';exact⟨oe,vs',z,e1.trans c1,e2.trans c2,dd,λk=>by cases k⟩
end
noncomputable def CX1 (P:Program) (w:World):CXT:=λouter H s E ev s'=>∃(e C T:Addr) (d:Option Addr) (H':Hp),ev=.ref e/\s'.os=s.os/\AllBare s'.gens/\Un (frs outer) [] H H' s.heap s'.heap/\HOk P w H' s'.heap /\
 H' e=some (XO e C d false)/\s.heap.get? T=none/\H' T=none/\XE.Tr e T s'.heap/\E (.ref C) (some e) H'
theorem oZ {base h h':Heap}:∀{l:List Env},h.FunFrames base l->(∀b∈frs l,∀o,h.get? b=some o->∃sl,h'.get? b=some { o with slots:=sl })->h'.FunFrames base l
 | [],_,_=>trivial
 | env::r,⟨hk,⟨L,o,hf,hn,ho,hd⟩,hr⟩,k=>by
  have hL:L∈frs (env::r):=by unfold frs;rw[List.filterMap_cons,hf];exact xn
  obtain⟨sl,e⟩:=k L hL o ho;exact⟨hk,⟨L,_,hf,hn,e,hd⟩,oZ hr λb hb=>k b (by unfold frs;rw[List.filterMap_cons,hf];exact Qp _ hb)⟩
section
variable {P:Program} {w:World} {K:PySem.W.Frag} {mg:A2} {base:Heap} {N:List Str} {qual:Str} {scope:Scope} {f:Addr} {cd:Value} {A:Around} {outer:List Env} {s s1:Shared} {H H1:Hp} {E:XK} {pins:A1} {σ:St} {e C:Addr} {d:Option Addr}
theorem eZ (I:Inv (cxOf (CX1 P w) P w K mg base N qual scope f cd A outer s H E) pins σ H1 s1) (he:H1 e=some (XO e C d true)) (hE:E (.ref C) (some e) (upd H1 e (XO e C d false))) :
  (cxOf (CX1 P w) P w K mg base N qual scope f cd A outer s H E).xe (.ref e) s1:=by
 have xo:XOk e C d true s1.heap:=(I.hok e _ he).1;obtain⟨o,vs,g1,g2,g3,g4,g5⟩:=id xo;obtain⟨t,rfl⟩:=g5 rfl;refine XE.rT (base:=base) I.ok.frames I.stack rfl g1 g4 rfl λh' T xl tr new=>?_;have hT1:H1 T=none:=I.hok.nothere new;have nTe:T≠e:=tr.ne;have hL:s.heap.get? s.heap.objs.size=none:=xb (Qh _);have els:∀b,b≠e->upd H1 e (XO e C d false) b=H1 b:=λb hb=>am hb;refine⟨e,C,T,d,upd H1 e (XO e C d false),rfl,I.os,I.bare,Un.exc (L:=s.heap.objs.size) (Ts:=[]) I.base he af els xl hL (by simp),?_,af,?_,by rw[am nTe];exact hT1,tr,hE⟩
 ·exact HOk.exc (Ts:=[]) I.hok he af (dU (iE xo xl ⟨T,tr⟩)) els xl (λb hb=>I.stkFree b hb) (by simp)
 cases q:s.heap.get? T with
 | none=>rfl
 | some ob =>
 obtain⟨o',z⟩:=I.base.there T ob q (λz=>absurd (show T∈([]:A3) from z) (by simp));rw[new]at z;cases z
end
section
variable {X:Cx} {pins:A1} {σ:St} {H:Hp} {s:Shared}
abbrev Cx.marked (X:Cx) (e:Addr):Cx:={ X with A:=X.A.mark (some (.ref e)),calm:=false,xe:=λ_ _=>False }
theorem Inv.mark (I:Inv X pins σ H s) (e:Addr):Inv (X.marked e) pins σ H s :=
 ⟨⟨I.ok.mod,I.ok.kind,I.ok.glob,I.ok.blt,I.ok.above,I.ok.inj,I.ok.has,I.ok.cab,(λz=>by cases z),I.ok.frames,I.ok.stk,I.ok.exf,I.ok.bs,I.ok.bsz,I.ok.noex,I.ok.exfs,I.ok.funs,I.ok.frf⟩,I.os,I.bare,I.base,I.loc,I.cell,I.free,I.freeC,I.pin,I.hok,I.len⟩
theorem Inv.unmark {e:Addr} (I:Inv (X.marked e) pins σ H s) (hd:X.calm=true->X.A.handled=none):Inv X pins σ H s :=
 ⟨⟨I.ok.mod,I.ok.kind,I.ok.glob,I.ok.blt,I.ok.above,I.ok.inj,I.ok.has,I.ok.cab,hd,I.ok.frames,I.ok.stk,I.ok.exf,I.ok.bs,I.ok.bsz,I.ok.noex,I.ok.exfs,I.ok.funs,I.ok.frf⟩,I.os,I.bare,I.base,I.loc,I.cell,I.free,I.freeC,I.pin,I.hok,I.len⟩
theorem qz {M:Model} {A:Around} {E:A0} {i:Nat} {x:Str} {pos:Pos} {Q:Unit->Shared->Prop} (I:Inv X pins σ H s) (hN:X.N.Nodup) (hi:X.N[i]?=some x) (hk:X.env.kindOf x=some .local)
  (h:∀s',Inv X pins (σ.set i none) H s'->Q () s'):wpAny M A (do bindName X.env x .none;unbindBehindTheSuite X.env x pos) Q E s:=by
 obtain⟨m,hn,hl⟩:=id I.loc;have hcls:(X.env.scope.kind==.class || (X.env.scope.kind==.module&&X.env.locals != X.env.globals))=false:=by rw[I.ok.kind];rfl
 have hiσ:i<σ.length:=by rw[I.len];exact(Qf.mp hi).1
 refine wpAny_nameGoes_keeps hk hn hcls λh' v hn' hs=>?_;obtain⟨oL,_,_,hoL,_⟩:=id hn;have neL:∀b o,X.s₀.heap.get? b=some o->b≠X.env.locals:=λb o e=>Qy (Qv (Qk e) I.ok.above);refine h { s with heap:=h',toks:=s.toks+1 } ⟨I.ok,I.os,I.bare,⟨λb o e n hb hx=>(hs.2 b (neL b o e)).trans (I.base.keep b o e n hb hx),λb o e n hb hx=>?_,I.base.free,λb o e hx=>?_,I.base.tups,I.base.frzs,I.base.tbls⟩,⟨_,hn',λj y v' e1 e2 e3=>?_⟩,λy c e=>?_,I.free,I.freeC,λp hp=>?_,λb ob e=>?_,by simpa using I.len⟩
 ·obtain⟨sl,e1⟩:=I.base.slot b o e n hb hx;exact⟨sl,(hs.2 b (neL b o e)).trans e1⟩
 ·obtain⟨o',e1⟩:=I.base.there b o e hx;exact⟨o',(hs.2 b (neL b o e)).trans e1⟩
 ·have hj:j≠i:=λz=>by
   subst z;rw[List.getElem?_set_self hiσ]at e2;cases e2
  rw[List.getElem?_set_ne (QT hj)]at e2;obtain⟨u',r',q⟩:=hl j y v' e1 e2 e3;refine⟨u',r',?_⟩;rcases q with⟨k,z⟩|⟨k,c,z,z2⟩
  ·have ny:y≠x:=λz=>hj (gf hN e1 (z▸hi));exact .inl ⟨k,by show (if y=x then v else m y)=some u';rw[QB ny];exact z⟩
  exact .inr ⟨k,c,z,z2.sameBut hs (I.cne y c z)⟩
 ·obtain⟨w',z⟩:=I.cell y c e;exact⟨w',z.sameBut hs (I.cne y c e)⟩
 ·obtain⟨e,n,ne,nf,dd⟩:=I.pin p hp;exact⟨(hs.2 p.1 ne).trans e,n,ne,nf,dd⟩
 refine(I.hok b ob e).stay (λc w' hc q=>(hs.2 c ?_).trans q) (λ_ q=>q) λ_ _ q=>q;intro z;subst z;rcases hc with z|z
 ·rw[<-z,I.free]at e;cases e
 rw[I.free]at z;cases z
end
def r0 (C:Addr) (te:TE) (R:Addr->Option Addr->Hp->Prop):TS:=λ_ σ H=>te σ H λv H1=>∃e d,v=.ref e/\H1 e=some (XO e C d true)/\R e d H1
section
variable {X:Cx}
structure XMk (K:PySem.W.Frag) (C NE:Addr):Prop where
 xc:∀h:Heap,K.In h->XE.XC h C "ValueError" "ValueError.__new__" (.ref NE::XE.fM) XE.fM
 kp:PySem.W.keepIn K (.ref C)=true
 kl:XE.XKl K C NE
theorem f7 {ex:Expr} {te:TE} {R:Addr->Option Addr->Hp->Prop} {pos:Pos} {C NE:Addr} (M:XMk X.K C NE) (hc:X.calm=true) (he:PE X ex te)
  (hx:∀pins σ H s e d,Inv X pins σ H s->H e=some (XO e C d true)->R e d H->X.xe (.ref e) s) :
  PS X (.Raise (some ex) none pos) (r0 C te R):=by
 intro pins s σ H D I h;rw[arm_exec_Raise];refine Qa (wpAny_standAt (XE.rN (C:=C) (B := "ValueError") (new := "ValueError.__new__") (up:=.ref NE::XE.fM) (top:=XE.fM) (by decide +kernel) (I.ok.hd hc) ?_));refine Qa (thn (he pins s σ H _ I h) λv s1 z=>Qa (wpAny_standAt (Qg ?_)));obtain⟨x,H1,I1,rx,e,d,ex,eo,r⟩:=z;subst ex;cases (show v=Value.ref e from rx);have xo:XOk e C d true s1.heap:=(I1.hok e _ eo).1;obtain⟨o,vs,g1,g2,g3,g4,g5⟩:=xo;obtain⟨t,rfl⟩:=g5 rfl;exact⟨e,o,t,rfl,M.xc _ I1.kIn,g1,g2,g4,hx pins σ H1 s1 e d I1 eo r⟩
end
section
variable {X:Cx}
variable {C T2 NE dx:Addr} {pins:A1}
theorem o0 {σ:St} {H H1:Hp} {s s1:Shared} {e T:Addr} {d:Option Addr} {h2:Heap} {Ts:A3} (I:Inv X pins σ H s) (hst:X.stack=X.env::X.outer) (hos:s1.os=s.os) (hb:AllBare s1.gens) (un:Un (frs X.stack) [] H H1 s.heap s1.heap) (hok:HOk X.prog X.w H1 s1.heap)
  (eo:H1 e=some (XO e C d false)) (hT:∀T∈Ts,s.heap.get? T=none) (hT1:∀T∈Ts,H1 T=none) (xl:XE.XL (frs X.stack) e Ts s1.heap h2) (tr:XE.Tr e T2 h2) (fr:∀b∈frs X.stack,H1 b=none) :
  Un (frs X.stack) [] H H1 s.heap h2/\HOk X.prog X.w H1 h2:=by
 have xo:XOk e C d false s1.heap:=(hok e _ eo).1;have xl':XE.XL (s.heap.objs.size::frs X.stack) e Ts s1.heap h2:=⟨λb o n t f q=>xl.keep b o n t (λz=>f (Qp _ z)) q,xl.slot,xl.at_⟩;exact⟨Un.exc (L:=s.heap.objs.size) un eo eo (λ_ _=>rfl) xl' (xb (Qh _)) hT,HOk.exc hok eo eo (dU (iE xo xl ⟨T2,tr⟩)) (λ_ _=>rfl) xl fr hT1⟩
def nH (C:Addr) (sp:Sp) (dvs:List V) (t:TA):TE:=λσ H Q=>t σ H λvs H1=>vs.length<=sizeLine/\∀x,H1 x=none->sp (.ref x::(vs++dvs)) (upd H1 x (XO x C none true)) (λv H2=>v=.non/\Q (.ref x) H2) E0
theorem mw {σ:St} {H:Hp} {s:Shared} {Q:VK} {us ds:List Value} {vs dvs:List V} {f:Addr} {k:Nat} {fd:FuncData} {ps:List Str} {sp:Sp} (M:XMk X.K C NE) (hin:PySem.W.findIn X.K (.ref C) "__init__" = some (some (.ref f))) (hfn:∃o,X.K.lookup f=some o/\o.cls=.type "function")
  (F:FnOk X.prog X.w X.K X.mg X.base CX0 k f fd ps sp) (hr:Room (k+1) X.A) (hb:b9 X.K fd ps ds) (hd:aM dvs ds) (I:Inv X pins σ H s) (r:aM vs us) (few:vs.length<=sizeLine)
  (h:∀x,H x=none->sp (.ref x::(vs++dvs)) (upd H x (XO x C none true)) (λv H2=>v=.non/\Q (.ref x) H2) E0) :
  wpAny (model X.prog X.w) X.A (call (.ref C) us) (EP X pins σ Q) X.xe s:=by
 obtain⟨oI,lI,cI⟩:=hfn;have hq:=h (s.heap.objs.size+1) (I.hok.fresh (Nat.le_succ _))
 have I2:Inv X pins σ (upd H (s.heap.objs.size+1) (XO (s.heap.objs.size+1) C none true)) { s with heap:=XE.gQ s.heap C us } :=
  I.laid (t':=s.toks) (λb u e=>XE.ci e) (Nat.le_succ _) (dU ⟨_,_,XE.gq,rfl,rfl,rfl,λ_=>⟨_,rfl⟩⟩)
 have r2:aM (V.ref (s.heap.objs.size+1)::(vs++dvs)) (Value.ref (s.heap.objs.size+1)::(us++ds)):=.cons rfl (r.append hd)
 have hl:(Value.ref (s.heap.objs.size+1)::us++ds).length=ps.length:=by
  have e:=r2.length;rw[F.len _ _ _ _ hq]at e;exact e.symm
 have few':us.length<=sizeLine:=by rw[<-r.length];exact few
 obtain⟨hh,g,dd,t,os⟩:=s;refine XE.tw PySem.F.excBase_ValueError (M.xc _ I.kIn) (PySem.W.looks_findIn I.kIn hin) (I.kIn _ _ lI) cI few' ?_;refine wpAny_call (codeAny_mono (F.run _ X.stack _ _ ⟨Value.ref (hh.objs.size+1)::us,[]⟩ (Value.ref (hh.objs.size+1)::(us++ds)) _ _ E0 (hr.make C us []) (I2.env0.make C us []) (hb _ (Value.ref (hh.objs.size+1)::us) I2.kIn hl) r2 hq) λrr s' z=>?_)
 cases rr with
 | error e=>exact False.elim z
 | ok fl =>
 cases fl with
 | ret u =>
  obtain⟨v,H',I3,rv,ev,q3⟩:=I2.after z;subst ev;exact⟨rv,⟨V.ref (hh.objs.size+1),H',I3,rfl,q3⟩⟩
 | next=>exact False.elim z
 | brk=>exact False.elim z
 | cont=>exact False.elim z
variable {e o value:Expr} {p pos apos pos':Pos} {x f:Str}
theorem jO {es:List Expr} {t:TA} {ds:List Value} {dvs:List V} {f:Addr} {k:Nat} {fd:FuncData} {ps:List Str} {sp:Sp} (M:XMk X.K C NE) (hin:PySem.W.findIn X.K (.ref C) "__init__" = some (some (.ref f))) (hfn:∃o,X.K.lookup f=some o/\o.cls=.type "function")
  (F:FnOk X.prog X.w X.K X.mg X.base CX0 k f fd ps sp) (hr:Room (k+1) X.A) (hg:Gl X x) (hm:X.mg x=some (.ref C)) (hb:b9 X.K fd ps ds) (hd:aM dvs ds) (ha:PA X (e::es) t)
  (hdb:(x==("__debug__" : Str))=false:=by decide) (he:starEach (e::es) X.env=(false,eval e X.env)::starEach es X.env:=by rfl) (hpl:(backTo pos (starEach es X.env)).any (·.1)=false:=by rfl) :
  PE X (.Call (.Name x p) (e::es) [] pos) (nH C sp dvs t):=by
 intro pins s σ H Q I h;refine wpAny_Call_Name_kw (c_ I hg hm ?_ hdb);refine PySem.W.callWith_K (h₀:=X.base) I.ok.mod.kin M.kp (thn (ha pos pins s σ H _ I h) λus s1 ⟨vs,H1,I1,r,few,q⟩=>⟨I1.kIn,?_⟩) he hpl;exact mw M hin hfn F hr hb hd I1 r few q
def rY (K:PySem.W.Frag) (t:TA):TE:=λσ H Q=>t σ H λvs H1=>∃e C NE d rest,vs=.ref e::rest/\H1 e=some (XO e C d true)/\XMk K C NE/\rest.length<=1000/\Q .non (upd H1 e (XO e C d true))
theorem ol {pl:Sem Bool} {es:List Expr} {t:TA} (hg:Gl X x) (hm:X.mg x=some (.ref NE)) (h1:PySem.W.specialIn X.K (.ref NE) "__getattribute__" = some (some (.builtin "type.__getattribute__"))) (h2:PySem.W.readsIn X.K NE (.type "type")=true)
  (h3:PySem.W.findCls X.K (.ref NE) (.type "type") "__init__" = some (.val (.builtin "ValueError.__init__"))) (ha:PA X (e::es) t)
  (hdb:(x==("__debug__" : Str))=false:=by decide) (he:starEach (e::es) X.env=(false,eval e X.env)::starEach es X.env:=by rfl) (hpl:(backTo pos (starEach es X.env)).any (·.1)=false:=by rfl)
  (ht:eval (.Call (.Attribute (.Name x p) "__init__" apos) (e::es) [] pos) X.env=(do
   let ov <-eval (.Name x p) X.env
   standAt apos.atName
   let (f,first) <-holding [ov] (getMethod ov "__init__" pl)
   callWith pos f first (backTo pos (starEach (e::es) X.env)) (backToKw pos (keywordEach [] X.env))):=by rfl) :
  PE X (.Call (.Attribute (.Name x p) "__init__" apos) (e::es) [] pos) (rY X.K t):=by
 intro pins s σ H Q I h;refine PySem.W.methodCall_KW (pl:=pl) (c_ I hg hm ?_ hdb) ht;refine PySem.W.method_cls I.kIn h1 (PySem.W.cls_value I.kIn h2 h3 rfl ?_);refine PyProof.Rows.callWith_builtin1 (thn (ha pos pins _ σ H _ (I.tok _) h) λus s1 z=>?_) he hpl;obtain⟨vs,H1,I1,r,e0,C,NE',d,rest,ev,eo,M,few,q⟩:=z;subst ev
 cases r with
 | @cons _ u _ us' ru rr =>
 cases (show u=Value.ref e0 from ru);have xo:XOk e0 C d true s1.heap:=(I1.hok e0 _ eo).1;obtain⟨o,vs,g1,g2,g3,g4,g5⟩:=xo;obtain⟨tt,rfl⟩:=g5 rfl;have few':us'.length<=sizeLine:=by rw[<-rr.length,sizeLine_eq];omega
 obtain⟨hh,g,dd,tk,os⟩:=s1;refine XE.qR PySem.F.excBase_ValueError (M.xc _ I1.kIn) g1 g2 g4 few' λg' kp ne=>?_;refine⟨.non,upd H1 e0 (XO e0 C d true),I1.write (x:=e0) (e:=e0) (t':=tk) (by rw[eo];exact True.intro) (.inl rfl) kp ⟨_,ne⟩ (dU ⟨_,_,ne,g2,g3,rfl,λ_=>⟨_,rfl⟩⟩),rfl,q⟩
def u9 (K:PySem.W.Frag) (ta tv:TE) (f:Str):TS:=λD σ H=>tv σ H λy H1=>ta σ H1 λx H2=>∃e C NE,x=.ref e/\H2 e=some (XO e C none true)/\XE.XKl K C NE/\PySem.W.findIn K (.ref C) f=some none /\
 ∀dx,H2 dx=none->D.nx σ (upd (upd H2 dx (.xd [(f,y)])) e (XO e C (some dx) true))
theorem sr {ta tv:TE} (ha:PE X o ta) (hv:PE X value tv) (hs:swapsWith value (some (.Attribute o f pos')) pos.line X.env=pure false:=by rfl):PS X (.Assign [.Attribute o f pos'] value pos) (u9 X.K ta tv f):=by
 intro pins s σ H D I h;refine plainObj_wpAny_Assign_Attribute (thn (hv pins s σ H _ I h) λu s1 ⟨y,H1,I1,ry,q⟩=>thn (ha pins s1 σ H1 _ I1 q) λov s2 z=>?_) hs;obtain⟨x,H2,I2,rx,e,C,NE,ex,eo,k,nf,q2⟩:=z;subst ex;cases (show ov=Value.ref e from rx);have xo:XOk e C none true s2.heap:=(I2.hok e _ eo).1;obtain⟨ob,vs,g1,g2,g3,g4,g5⟩:=xo;have hd:H2 s2.heap.objs.size=none:=I2.hok.fresh (Qh _);have nde:s2.heap.objs.size≠e:=λz=>by rw[z,eo]at hd;cases hd
 refine XE.u0 I2.kIn k g1 g2 g3 g4 nf λh' tk kp ne ns=>?_;have els:∀b,b≠e->b≠s2.heap.objs.size->upd (upd H2 s2.heap.objs.size (.xd [(f,y)])) e (XO e C (some s2.heap.objs.size) true) b=H2 b:=λb n1 n2=>by rw[am n1,am n2]
 refine⟨σ,_,I2.un (h':=h') (t':=tk) ⟨λb ob' q' n _ _=>?_,λb ob' q' n _ _=>⟨ob'.slots,?_⟩,λb ob' q' n _=>?_,λb ob' q' _=>?_,λb xs q'=>?_,λb ob' u' q'=>?_,λb ps q'=>⟨#[],?_⟩⟩ (λb ob' q'=>?_),q2 _ hd⟩
 ·exact kp b ob' (λz=>by rw[z,eo]at n;cases n) q'
 ·exact kp b ob' (λz=>by rw[z,eo]at n;cases n) q'
 ·rw[els b (λz=>by rw[z,eo]at n;cases n) (Qy (Qk q'))];exact n
 ·by_cases z:b=e
  ·subst z;exact⟨_,ne⟩
  exact⟨ob',kp b ob' z q'⟩
 ·rw[els b (cU q' eo (by intro z;cases z)) (ax q' hd)];exact q'
 ·rw[els b (cU q' eo (by intro z;cases z)) (ax q' hd)];exact q'
 ·rw[els b (cU q' eo (by intro z;cases z)) (ax q' hd),q'];simp
 by_cases z:b=e
 ·subst z;rw[af]at q';cases q';exact dU ⟨_,vs,ne,g2,rfl,g4,g5⟩
 rw[am z]at q';by_cases z2:b=s2.heap.objs.size
 ·subst z2;rw[af]at q';cases q';refine⟨_,ns,λg=>?_⟩;by_cases zz:g=f
  ·subst zz;rw[QH rfl];simpa[List.lookup,eX] using ry
  rw[QB zz];have hb:(g==f)=false:=beq_eq_false_iff_ne.mpr zz;simp only[List.lookup,hb];trivial
 rw[am z2]at q';refine(I2.hok b ob' q').stay (λc v hc r=>kp c v ?_ r) (λc r=>?_) λc xs r=>?_
 ·rcases hc with rfl|hc
  ·exact z
  exact cU hc eo (by intro z;cases z)
 ·rw[els c (cU r eo (by intro z;cases z)) (ax r hd)];exact r
 rw[els c (cU r eo (by intro z;cases z)) (ax r hd)];exact r
theorem lq {σ:St} {H:Hp} {s:Shared} {e:Addr} {fr:Bool} {fs:List (Str × V)} (I:Inv X pins σ H s) (eo:H e=some (XO e C (some dx) fr)) (ed:H dx=some (.xd fs)) :
  ∃(ox od:Obj) (mA:A2),PySem.W.InstAt s.heap e ox C (some od)/\(∀n,PySem.W.lookIn n od=some (mA n))/\∀f,eX (fs.lookup f) (mA f):=by
 have xo:XOk e C (some dx) fr s.heap:=(I.hok e _ eo).1;obtain⟨ob,vs,g1,g2,g3,g4,g5⟩:=xo;obtain⟨mA,ns,r⟩:=(I.hok dx _ ed:ba X.prog X.w H s.heap dx (.xd fs));obtain⟨od,ho,hl⟩:=ik ns;refine⟨ob,od,mA,⟨g1,g2,?_,by rw[g3];exact ho⟩,hl,r⟩;obtain⟨_,_,dt,_⟩:=ob;dsimp only at g4;subst g4;rfl
def qS (K:PySem.W.Frag) (ta:TE) (f:Str):TE:=λσ H Q=>ta σ H λx H1=>∃e C NE dx fr fs v,x=.ref e/\H1 e=some (XO e C (some dx) fr)/\H1 dx=some (.xd fs)/\XE.XKl K C NE/\PySem.W.findIn K (.ref C) f=some none/\fs.lookup f=some v/\Q v H1
theorem i9 {ta:TE} (he:PE X o ta) (hb:attributeBase o f X.env (eval o X.env)=eval o X.env:=by rfl):PE X (.Attribute o f pos) (qS X.K ta f):=by
 intro pins s σ H Q I h;refine qI hb (thn (he pins s σ H _ I h) λu s1 z=>?_);obtain⟨x,H1,I1,rx,e,C,NE,dx,fr,fs,v,ex,eo,ed,k,nf,l,q⟩:=z;subst ex;cases (show u=Value.ref e from rx);obtain⟨ox,od,mA,J,hl,r⟩:=lq I1 eo ed;obtain⟨u,hu,ru⟩:=eX.some_of (v:=v) (o:=mA f) (by rw[<-l];exact r f);exact XE.u4 I1.kIn J k (PySem.W.findObj_own k.hd nf rfl (by rw[hl,hu])) (m9 ru) ⟨v,H1,I1.tok _,ru,q⟩
def sZ:V->Value
 | .ref a=>.ref a
 | .ty n=>.type n
 | _=>.none
end
end L2
namespace XE
open PySem PySem.W PySem.Calls PyProof.Rows
section
variable {P:Program} {w:World} {A:Around} {E:A0} {g:Heap} {gs:Array GenState} {dr:Drawn} {tk:Nat} {os:OsState} {C:Addr} {B new init:String} {up top:List Value}
theorem rS (F:ExcBaseFacts B new init top) (x:XC g C B new up top) {us:List Value} {Q:A0}
  (hi:Lk (model P w) g (typeLookup (.ref C) "__init__") (some (.builtin init))) (few:us.length<=sizeLine)
  (k:∀g' p,(∀b o,g.get? b=some o->g'.get? b=some o)->g'.get? (g.objs.size+1)=some (fk C p)->Q (.ref (g.objs.size+1)) ⟨g',gs,dr,tk,os⟩) :
  wpAny (model P w) A (call (.ref C) us) Q E ⟨g,gs,dr,tk,os⟩:=by
 have xx:=x;obtain⟨⟨nm,q,N,bs,hd,sn,sub,ab,col,dd,a0,a1,a2,a3,a5,eC⟩,T⟩:=x;have l1:=tc_lookup;have l2:=tc_bind (.ref C);have ty:(⟨g,gs,dr,tk,os⟩:Shared).TypeIs (.ref C) "type" := ⟨_,eC,rfl⟩;refine wpAny_call (codeAny_of_tree (?_:wpAny _ _ (callAny (.ref C) ⟨us,[]⟩) _ _ _))
 repeat (any_goals (first|assumption|wp_step))
 refine⟨rfl,codeAny_call_builtin_at (Code.quiet_builtin _ (by decide +kernel)) entry_typeCall (wpAny_check_type_call_sub eC ?_)⟩
 repeat (first|with_reducible refine wpAny_madeBy_exc eC ?_|wp_step)
 refine codeAny_call_builtin_code (Code.quiet_builtin _ F.quiet) (wpAny_check_new_subT F T eC (codeAny_exc_new_subT F T eC (?_:wpAny _ _ _ _ _ _) few));have eC':=ci (C:=C) (us:=us) eC;have eN:(gQ g C us).get? (g.objs.size+1)=some (fk C g.objs.size):=gq;have own:(Value.ref C::up).contains (.ref C)=true:=by simp
 unfold isInstance
 repeat (first|with_reducible refine wpAny_loadPart_at eN ?_|wp_step)
 refine wpAny_isSubtype_exc eC' ?_;rw[own]
 repeat (first|with_reducible refine wpAny_loadPart_at eN ?_|wp_step)
 refine(?_:wpAny _ _ (typeLookup (.ref C) "__init__") _ _ _);refine hi _ _ _ _ (λb o e=>ci e) (QN (Qa (wpAny_of_eq (F.init.bind _) ?_)));refine Qa (qR F (xx.keeps λb o e=>ci e) eN rfl rfl few λg' kp ne=>?_)
 wp_walk
 exact k g' _ (λb o e=>kp b o (Qy (Nat.lt_succ_of_lt (Qk e))) (ci e)) ne
end
section
variable {P:Program} {w:World} {A:Around} {E:A0} {s:Shared} {K:Frag} {x C NE:Addr} {ox:Obj} {od:Option Obj}
theorem gS {a g:Value} {name:Str} (hc:(clsIn K C).isSome=true) (ha:findIn K (.ref C) name=some (some a)) (hg:specialIn K a "__get__" = some (some g)) (ht:takesIn K a=some true):findObj K C od name=some (.bind g a):=by
 obtain⟨cd,hc⟩:=Option.isSome_iff_exists.mp hc;unfold findObj;rw[hc,Option.bind_some,ha,Option.bind_some];simp[hg,ht]
theorem tE {Q:Option Value->Shared->Prop} (X:K.In s.heap) (I:InstAt s.heap x ox C od) (k:XKl K C NE) (h:Q (some (.ref C)) { s with toks:=s.toks+1 }):wpAny (model P w) A (getAttr? (.ref x) "__class__") Q E s:=by
 have hf:findObj K C od "__class__" = some (.bind (.builtin "getset_descriptor.__get__") (.builtin "object.__class__")):=gS (by obtain⟨cd,hc,_⟩:=any_some k.hd;rw[hc];rfl) k.cl k.cg k.ct;unfold getAttr? getAttrBy?;refine Qa (wpAny_mkText (Qa (wpAny_attempt (xby (s:={ s with toks:=s.toks+1 }) X I k ?_))));have L0:=I.type (M:=model P w);have L1:=looks_find (M:=model P w) X I hf;refine Qa (Qg (Qa (Qg (Qa (Looks.here (s:={ s with toks:=s.toks+1 }) L0 (Qa (Looks.here (s:={ s with toks:=s.toks+1 }) L1 ?_)))))));refine(?_:wpAny _ _ (holding [Value.builtin "object.__class__"] (call (.builtin "getset_descriptor.__get__") [.builtin "object.__class__", .ref x,.ref C]) >>= ret) _ _ _);refine Qa (QN (wpAny_call (class_get (s:={ s with toks:=s.toks+1 }) (ox:=ox) (od:=od) X I k.ob (Qg ?_))));exact handed_on rfl (Qg h)
theorem tz (k:XKl K C NE):KitX K (.ref x) (.ref C) (λg=>InstAt g x ox C od) where
 ty:=λ_ _ _ I=>I.type
 it:=λ_ _ X _=>by
  obtain⟨cd,hc,_⟩:=any_some k.hd;unfold clsIn at hc
  split at hc
  ·rename_i ho
   intro A' Q' E' s' kk q;unfold isType loadHead;exact Qa (wpAny_loadPart (kk _ _ (X _ _ ho)) (Qg q))
  cases hc
 ne:=λg tp dd its n sl X htp=>by
  obtain⟨cd,hc,_⟩:=any_some k.hd;refine Bool.eq_false_iff.mpr λq=>?_;cases Value.ref.inj (beq_iff_eq.mp q);unfold clsIn at hc
  split at hc
  ·rename_i ho
   cases (X _ _ ho).symm.trans htp
  cases hc
 ca:=λX I q=>tE X I k q
end
end XE
namespace L2
open PySem PySem.Spec PyProof.Rows PySem.Calls
section
variable {X:Cx}
def lu (C:Addr) (t:TA):TE:=λσ H Q=>t σ H λvs H1=>vs.length<=sizeLine/\∀x,H1 x=none->Q (.ref x) (upd H1 x (XO x C none true))
theorem mz {x:Str} {p pos:Pos} {e:Expr} {es:List Expr} {t:TA} {C NE:Addr} (M:XMk X.K C NE) (hin:PySem.W.findIn X.K (.ref C) "__init__" = some (some (.builtin "ValueError.__init__")))
  (hg:Gl X x) (hm:X.mg x=some (.ref C)) (ha:PA X (e::es) t)
  (hdb:(x==("__debug__" : Str))=false:=by decide) (he:starEach (e::es) X.env=(false,eval e X.env)::starEach es X.env:=by rfl) (hpl:(backTo pos (starEach es X.env)).any (·.1)=false:=by rfl) :
  PE X (.Call (.Name x p) (e::es) [] pos) (lu C t):=by
 intro pins s σ H Q I h;refine wpAny_Call_Name_kw (c_ I hg hm ?_ hdb);refine PySem.W.callWith_K (h₀:=X.base) I.ok.mod.kin M.kp (thn (ha pos pins s σ H _ I h) λus s1 ⟨vs,H1,I1,r,few,q⟩=>⟨I1.kIn,?_⟩) he hpl;have few':us.length<=sizeLine:=by rw[<-r.length];exact few
 have hq:=q (s1.heap.objs.size+1) (I1.hok.fresh (Nat.le_succ _));obtain⟨hh,g,dd,tk,os⟩:=s1;refine XE.rS PySem.F.excBase_ValueError (M.xc _ I1.kIn) (PySem.W.looks_findIn I1.kIn hin) few' λg' p kp ne=>?_;exact⟨.ref (hh.objs.size+1),_,I1.laid (t':=tk) kp (Nat.le_succ _) (dU ⟨_,_,ne,rfl,rfl,rfl,λ_=>⟨_,rfl⟩⟩),rfl,hq⟩
theorem nw {pins:A1} {σ:St} {H:Hp} {s:Shared} {e C:Addr} {d:Option Addr} {fr:Bool} (I:Inv X pins σ H s) (eo:H e=some (XO e C d fr)) (ed:∀dx,d=some dx->∃fs,H dx=some (.xd fs)) :
  ∃(ox:Obj) (od:Option Obj),PySem.W.InstAt s.heap e ox C od:=by
 cases d with
 | some dx =>
  obtain⟨fs,q⟩:=ed dx rfl;obtain⟨ox,od,_,J,_⟩:=lq I eo q;exact⟨ox,some od,J⟩
 | none =>
 have xo:XOk e C none fr s.heap:=(I.hok e _ eo).1;obtain⟨ob,vs,g1,g2,g3,g4,g5⟩:=xo;refine⟨ob,none,g1,g2,?_,by rw[g3];trivial⟩;obtain⟨_,_,dt,_⟩:=ob;dsimp only at g4;subst g4;rfl
def rf (K:PySem.W.Frag):List V->Hp->VK->Prop:=λxs H Q=>∃e C NE d fr c b,xs=[.ref e,c]/\((∃a,c=.ref a)\/∃n,c=.ty n)/\H e=some (XO e C d fr)/\(∀dx,d=some dx->∃fs,H dx=some (.xd fs))/\XE.XKl K C NE/\PySem.W.kitOne K (.ref C) (sZ c)=some b/\Q (.bl b) H
theorem br:cD X (.builtin "isinstance") (rf X.K):=by
 intro pins s σ H xs us Q I r h;obtain⟨e,C,NE,d,fr,c,b,ex,hc,eo,ed,k,kt,q⟩:=h;subst ex;obtain⟨u1,u2,eu,r1,r2⟩:=jp r;subst eu;cases (show u1=Value.ref e from r1)
 have e2:u2=sZ c:=by
  rcases hc with⟨a,rfl⟩|⟨n,rfl⟩ <;> exact r2
 subst e2;obtain⟨ox,od,J⟩:=nw I eo ed;exact Q7 (XE.tz k) I.kIn J kt (λz=>nomatch z) λtk=>⟨.bl b,H,I.tok tk,rfl,q⟩
end
section
variable {P:Program} {w:World} {K:PySem.W.Frag} {mg:A2} {base:Heap} {N:List Str} {qual:Str} {scope:Scope} {f:Addr} {cd:Value} {A:Around} {outer:List Env} {s:Shared} {H:Hp} {E:XK}
theorem dO:eA (CX1 P w) (cxOf (CX1 P w) P w K mg base N qual scope f cd A outer s H E) E:=by
 intro pins σ H1 s1 ev s2 I z;obtain⟨e,C,T,d,H2,rfl,os2,bare2,un2,hok2,eo,nT,nT2,tr,q⟩:=z;have I2:Inv (cxOf (CX1 P w) P w K mg base N qual scope f cd A outer s H E) pins σ H2 s2:=I.call' (ch:=[]) os2 un2 hok2 bare2 (λb z=>absurd z (by simp));have xo:XOk e C d false s2.heap:=(hok2 e _ eo).1;have hL:s.heap.get? s.heap.objs.size=none:=xb (Qh _)
 have down:∀T',s2.heap.get? T'=none->s.heap.get? T'=none:=λT' n=>by
  cases q:s.heap.get? T' with
  | none=>rfl
  | some ob =>
  obtain⟨o',z⟩:=I2.base.there T' ob q (λz=>absurd (show T'∈([]:A3) from z) (by simp));rw[n]at z;cases z
 have nTs:s.heap.get? T=none:=by
  cases q:s.heap.get? T with
  | none=>rfl
  | some ob =>
  obtain⟨o',z⟩:=I.base.there T ob q (λz=>absurd (show T∈([]:A3) from z) (by simp));rw[nT]at z;cases z
 refine XE.ml (base:=base) I2.ok.frames I2.stack rfl tr λh' T' xl tr' new=>?_;refine⟨e,C,T',d,H2,rfl,I2.os,I2.bare,Un.exc (L:=s.heap.objs.size) (Ts:=[T]) I2.base eo eo (λ_ _=>rfl) xl hL (by simpa using nTs),?_,eo,down T' new,hok2.nothere new,tr',q⟩;exact HOk.exc (Ts:=[T]) hok2 eo eo (dU (iE xo xl ⟨T',tr'⟩)) (λ_ _=>rfl) xl (λb hb=>I2.stkFree b hb) (by simpa using nT2)
end
section
variable {X:Cx}
def XP (X:Cx) (pins:A1) (σ:St) (E:XK) (ev:Value) (s':Shared):Prop:=∃H1 s1,Inv X pins σ H1 s1/\CX1 X.prog X.w X.stack H1 s1 E ev s'
def PX (X:Cx) (st:List Stmt) (t:XK->TS):Prop :=
 ∀(pins:A1) (s:Shared) (σ:St) (H:Hp) (D:Ends) (E:XK),Inv X pins σ H s->t E D σ H->wpAny (model X.prog X.w) X.A (execs st X.env) (SP X pins D) (XP X pins σ E) s
def nB (sp:Sp) (t:TA):XK->TS:=λE D σ H=>t σ H λvs H1=>sp vs H1 (λ_ H2=>D.nx σ H2) E
theorem pQ {fn:Str} {a1:Expr} {args:List Expr} {np cpos epos:Pos} {f:Addr} {fd:FuncData} {ps:List Str} {k:Nat} {sp:Sp} {t:TA}
  (F:FnOk X.prog X.w X.K X.mg X.base (CX1 X.prog X.w) k f fd ps sp) (hr:Room k X.A) (hg:Gl X fn) (hm:X.mg fn=some (.ref f)) (hk:PySem.W.keepIn X.K (.ref f)=true) (hb:b9 X.K fd ps []) (ha:PA X.nox (a1::args) t)
  (hdb:(fn==("__debug__" : Str))=false:=by decide) (he:starEach (a1::args) X.env=(false,eval a1 X.env)::starEach args X.env:=by rfl) (hpl:(backTo cpos (starEach args X.env)).any (·.1)=false:=by rfl)
  (hs:swapsWith (.Call (.Name fn np) (a1::args) [] cpos) none epos.line X.env=pure false:=by rfl) :
  PX X [.Expr (.Call (.Name fn np) (a1::args) [] cpos) epos] (nB sp t):=by
 intro pins s σ H D E I h;refine wpAny_execs_cons (wpAny_Expr_any ?_ I.quiet hs);refine wpAny_Call_Name_kw (c_ I hg hm ?_ hdb);refine PySem.W.callWith_K (h₀:=X.base) I.ok.mod.kin hk (Q1 (ha cpos pins s σ H _ (I.wish _) h) (λus s1 z=>?_) λ_ _ z=>z.elim) he hpl;obtain⟨vs,H1,I1',r,q⟩:=z;have I1:Inv X pins σ H1 s1:=I1'.unwish;refine⟨I1.kIn,?_⟩;have hlen:(us++[]).length=ps.length:=by rw[List.append_nil,<-r.length];exact F.len _ _ _ _ q
 have hbb:=hb s1 us I1.kIn hlen;rw[List.append_nil]at hbb;refine wpAny_call (codeAny_mono (F.run X.A X.stack s1 H1 ⟨us,[]⟩ us vs _ _ hr I1.env0 hbb r q) λrr s2 z=>?_)
 cases rr with
 | ok fl =>
  cases fl with
  | ret u =>
   obtain⟨v,H2,I2,rv,q2⟩:=I1.after z;exact wpAny_execs_nil ⟨σ,H2,I2,q2⟩
  | next=>exact False.elim z
  | brk=>exact False.elim z
  | cont=>exact False.elim z
 | error ev=>exact⟨H1,s1,I1,z⟩
def xIf (tc:TT) (t u:XK->TS):XK->TS:=λE D σ H=>tc σ H λb H1=>if b=true then t E D σ H1 else u E D σ H1
variable {a b suite body:List Stmt}
theorem nX {c:Expr} {tc:TT} {pos:Pos} {t u:XK->TS} (hc:PT X.nox c tc) (ha:PX X a t) (hb:PX X b u):PX X [.If c a b pos] (xIf tc t u):=by
 intro pins s σ H D E I h;refine wpAny_execs_cons (wpAny_If (Q1 (hc pins s σ H _ (I.wish _) h) (λd s1 z=>?_) λ_ _ z=>z.elim));obtain⟨H1,I1',q1⟩:=z;have I1:Inv X pins σ H1 s1:=I1'.unwish
 have fin:∀fl s2,SP X pins D fl s2->(match fl with|.next=>wpAny (model X.prog X.w) X.A (execs [] X.env) (SP X pins D) (XP X pins σ E) s2|fl=>SP X pins D fl s2):=λfl s2 z=>by
  cases fl with
  | next=>exact wpAny_execs_nil z
  | ret u=>exact z
  | brk=>exact z
  | cont=>exact z
 cases d with
 | true=>exact thn (ha pins s1 σ H1 D E I1 q1) λfl s2 z=>by first|exact fin fl s2 z|(cases fl <;> first|exact wpAny_execs_nil z|exact z)
 | false=>exact thn (hb pins s1 σ H1 D E I1 q1) λfl s2 z=>by first|exact fin fl s2 z|(cases fl <;> first|exact wpAny_execs_nil z|exact z)
def qT (K:PySem.W.Frag) (NE:Addr) (i:Nat) (tb:XK->TS) (tsu:TS):TS:=λD σ H =>
 tb (λcls ea H2=>∃e,ea=some e/\PySem.W.exmOne K cls (.ref NE)=some true/\tsu { nx:=λσ' H'=>D.nx (σ'.set i none) H',rt:=λ_ _=>False } (σ.set i (some (.ref e))) H2)
  { nx:=D.nx,rt:=λ_ _=>False } σ H
theorem pR {cn n:Str} {st:Stmt} {cp hpos pos:Pos} {NE:Addr} {i:Nat} {tb:XK->TS} {tsu:TS} (hb:PX X body tb)
  (hgc:Gl X cn) (hmc:X.mg cn=some (.ref NE)) (hN:X.N.Nodup) (hi:X.N[i]?=some n) (hl:X.env.kindOf n=some .local) (hsu:∀e,PSs (X.marked e) (st::suite) tsu) (hc:X.calm=true)
  (hst:X.stack=X.env::X.outer:=by rfl) (hfr:X.env.frame=some X.env.locals:=by rfl) (hf:X.fn n=true\/X.env.scope.names.lookup n=some .local:=by z_go)
  (hdc:(cn==("__debug__" : Str))=false:=by decide) :
  PS X (.Try body [.ExceptHandler (some (.Name cn cp)) (some n) (st::suite) hpos] [] [] pos) (qT X.K NE i tb tsu):=by
 intro pins s σ H D I h;refine wpAny_Try_except (Q1 (hb pins s σ H _ _ I h) (λfl s2 z=>?_) λev s2 z=>?_)
 ·cases fl with
  | next=>exact wpAny_execs_nil z
  | ret u=>obtain⟨_,_,_,_,_,q6⟩:=z;exact False.elim q6
  | brk=>obtain⟨_,_,_,q6⟩:=z;exact False.elim q6
  | cont=>obtain⟨_,_,_,q6⟩:=z;exact False.elim q6
 obtain⟨H1,s1,I1,e,C,T,d,H2,rfl,os2,bare2,un2,hok2,eo,nT,nT2,tr,e',ee,hx,q3⟩:=z;cases ee;have fr1:∀b∈frs X.stack,H1 b=none:=I1.stkFree
 have fr2:∀b∈frs X.stack,H2 b=none:=λb hb=>by
  obtain⟨_,o,ho,_⟩:=I1.stack.mem hb;exact un2.free b o ho (fr1 b hb) (by simp)
 have ff:s2.heap.FunFrames X.base (X.env::X.outer):=by
  rw[<-hst];exact oZ I1.stack λb hb o ho=>un2.slot b o ho (fr1 b hb) hb (by simp)
 refine XE.qQ (s:=s2) (base:=X.base) (by rw[I1.ok.frames,hst]) ff hfr tr λh3 T3 xl3 tr3 new3=>?_;have xl3':XE.XL (frs X.stack) e [T] s2.heap h3:=by rw[hst];exact xl3
 obtain⟨un3,hok3⟩:=o0 (T:=T) I1 hst os2 bare2 un2 hok2 eo (by simpa using nT) (by simpa using nT2) xl3' tr3 fr2;have I3:Inv X pins σ H2 { s2 with heap:=h3 }:=I1.call' (ch:=[]) os2 un3 hok3 bare2 (λb z=>absurd z (by simp))
 have nT3:s1.heap.get? T3=none:=by
  cases qq:s1.heap.get? T3 with
  | none=>rfl
  | some ob =>
  obtain⟨o',z⟩:=un2.there T3 ob qq (by simp);rw[new3]at z;cases z
 have nT3':H2 T3=none:=hok2.nothere new3
 have hce:∃oe,h3.get? e=some oe/\oe.cls=.ref C:=by
  obtain⟨o,vs',g1,g2,_⟩:=((hok3 e _ eo).1:XOk e C d false h3);exact⟨o,g1,g2⟩
 have LT:PySem.W.Looks (model X.prog X.w) h3 (typeOf (.ref e)) (.ref C):=by
  obtain⟨oe,g1,g2⟩:=hce;rw[<-g2];exact(PySem.W.Looks.ld g1).andThen .now
 refine wpAny_handleBy_cons (codeAny_handlers_test (c_ (X:=X.marked e) (I3.mark e) hgc hmc ?_ hdc)) (by intro z;cases z);refine PySem.W.Looks.here (s:={ s2 with heap:=h3 }) (PySem.W.exm_one I3.kIn LT hx) (codeAny_handlers_suite_as ?_);refine XE.rX (s:={ s2 with heap:=h3 }) (fs:=frs X.stack) tr3 λh4 xl4 tr4=>?_;obtain⟨un4,hok4⟩:=o0 (s1:={ s2 with heap:=h3 }) (T:=T3) I1 hst os2 bare2 un3 hok3 eo (by simpa using nT3) (by simpa using nT3') xl4 tr4 fr2;have I4:Inv X pins σ H2 { s2 with heap:=h4 }:=I1.call' (ch:=[]) os2 un4 hok4 bare2 (λb z=>absurd z (by simp));refine fR (X:=X.marked e) (v:=.ref e) (I4.mark e) hN hi (.inl hl) rfl (λs5 I5=>?_) hf;refine Q1 (hsu e pins s5 _ H2 _ I5 q3) (λfl s6 z=>?_) λ_ _ z=>z.elim
 cases fl with
 | next =>
  obtain⟨σ6,H6,I6,q6⟩:=z;exact qz (I6.unmark I.ok.hd) hN hi hl λs7 I7=>⟨_,H6,I7,q6⟩
 | ret u=>obtain⟨_,_,_,_,_,q6⟩:=z;exact False.elim q6
 | brk=>obtain⟨_,_,_,q6⟩:=z;exact False.elim q6
 | cont=>obtain⟨_,_,_,q6⟩:=z;exact False.elim q6
end
section
variable {X:Cx}
end
def rE (sl:Array (Option Value)):Bool:=sl.toList.length==6&&sl.toList[4]?==some (some (.builtin "ValueError.__new__"))
theorem ux {A:Type}:∀{us:List A},us.length=6->∃a0 a1 a2 a3 a4 a5,us=[a0,a1,a2,a3,a4,a5]
 | [],h=>nomatch h
 | a0::us,h=>by
  have h:us.length+1=6:=h
  cases us with
  | nil=>cases h
  | cons a1 us =>
  cases us with
  | nil=>cases h
  | cons a2 us =>
  cases us with
  | nil=>cases h
  | cons a3 us =>
  cases us with
  | nil=>cases h
  | cons a4 us =>
  cases us with
  | nil=>cases h
  | cons a5 us =>
  cases us with
  | nil=>exact⟨_,_,_,_,_,_,rfl⟩
  | cons a6 us=>cases h
def rW (K:PySem.W.Frag) (C NE:Addr):Bool:=match K.lookup C with
 | some ⟨.type "type", _,.cls cd,sl⟩=>rE sl&&cd.mro==.ref C::.ref NE::XE.fM&&!cd.hasDel
 | _=>false
def tN:Value->Bool
 | .str _ _=>true
 | _=>false
noncomputable def iI (K:PySem.W.Frag) (NE:Addr):Bool:=match K.lookup NE with
 | some ⟨_,_,.cls cd,_⟩=>(match K.lookup cd.ns with
  | some ⟨_,_,.dict es _,_⟩=>es.toList.all (λe=>tN e.key)&&(es.toList.find? λe=>e.key.isStr "__init__").isNone
  | _=>false)
 | _=>false
variable {NE C:Addr}
theorem pI {K:PySem.W.Frag} {h:Heap} (X:K.In h) (q:iI K NE=true):OwnTail h XE.fM (.ref NE::XE.fM):=by
 unfold iI at q
 split at q
 ·rename_i c0 d0 cd sl ho
  split at q
  ·rename_i c1 d1 es ep s1 hn
   rw[xp]at q;obtain⟨q1,q2⟩:=q;refine .own (X _ _ ho) ⟨_,es,ep,X _ _ hn,rfl,λe he=>?_,λ_=>rfl⟩ ?_ .base
   ·have z:=xg.mp q1 e (Array.mem_toList_iff.mpr he)
    cases hk:e.key with
    | str a b=>exact⟨a,b,rfl⟩
    | _=>rw[hk]at z;cases z
   unfold nsFind findBy;rw[<-Array.find?_toList,Option.isNone_iff_eq_none.mp q2];rfl
  cases q
 cases q
theorem tF {K:PySem.W.Frag} {h:Heap} (X:K.In h) (q:rW K C NE=true) (q2:iI K NE=true):XE.XC h C "ValueError" "ValueError.__new__" (.ref NE::XE.fM) XE.fM:=by
 refine⟨?_,pI X q2⟩;unfold rW at q
 split at q
 ·rename_i dd cd sl ho
  simp only[xp,beq_iff_eq,Bool.not_eq_true']at q;obtain⟨⟨hs,hm⟩,hdel⟩:=q;obtain⟨nm,bs,mro,ns,qn,hd,sn,sub,ab,col,del⟩:=cd;dsimp only at hm hdel;subst hm hdel;unfold rE at hs;rw[xp,beq_iff_eq,beq_iff_eq]at hs;obtain⟨hs1,hs2⟩:=hs;obtain⟨l⟩:=sl;obtain⟨k0,k1,k2,k3,k4,k5,rfl⟩:=ux hs1;obtain rfl:k4=some (.builtin "ValueError.__new__"):=QO hs2;exact⟨nm,qn,ns,bs,hd,sn,sub,ab,col,dd,k0,k1,k2,k3,k5,X _ _ ho⟩
 cases q
theorem rR {K:PySem.W.Frag} (q:rW K C NE=true) (q2:iI K NE=true) (kp:PySem.W.keepIn K (.ref C)=true) (kl:XE.XKl K C NE):XMk K C NE:=⟨λ_ X=>tF X q q2,kp,kl⟩
end L2
set_option maxHeartbeats 4000000
namespace L2
open PySem PySem.Spec PyProof.Rows
structure FnMk (P:Program) (w:World) (K:PySem.W.Frag) (mg:A2) (base:Heap) (k:Nat) (f:Addr) (fd:FuncData) (ps:List Str) (sp:Sp):Prop where
 len:∀vs H Q E,sp vs H Q E->vs.length=ps.length
 run:∀(A:Around) (e:Addr) (outer:List Env) (s:Shared) (H:Hp) (args:Args) (us:List Value) (vs:List V) (Q:VK),Room k A->Env0 P w K mg base (A.mark (some (.ref e))) outer s H->BindsTo s fd args (ps.zip us)->aM vs us->sp vs H Q E0 ->
  codeAny (model P w) (A.mark (some (.ref e))) (.call (.ref f) args) (CR CX0 outer P w H s Q E0) s
structure FnM (P:Program) (w:World) (K:PySem.W.Frag) (mg:A2) (base:Heap) (x:Str) (ps:List Str) (k:Nat) (sp:Sp):Prop where
 ex:∃f fd,FnMk P w K mg base k f fd ps sp/\mg x=some (.ref f)/\PySem.W.keepIn K (.ref f)=true/\b9 K fd ps []
section
variable {X:Cx}
end
end L2
namespace K2
open PySem L2
abbrev IvF:=Nat->St->Hp->Prop
abbrev IvC:=Nat->Hp->List V->Prop
abbrev IvJ:=St->Hp->Prop
structure ExcB (K:PySem.W.Frag) (mg:A2) (n:Str) (C NE:Addr):Prop where
 xm:XMk K C NE
 init:PySem.W.findIn K (.ref C) "__init__" = some (some (.builtin "ValueError.__init__"))
 m:mg n=some (.ref C)
def cf (C:Addr) (H H':Hp) (e:Addr):Prop:=aj H H'/\H' e=some (XO e C none false)
variable {e C NE:Addr} {H H1 H2 H':Hp}
theorem cf.pre (S:aj H H1) (r:cf C H1 H2 e):cf C H H2 e:=⟨S.trans r.1,r.2⟩
variable {σ:St} {t:TA}
theorem oS {Q:VK} (q:t σ H λvs H1=>vs.length<=sizeLine/\∀x,H1 x=none->Q (.ref x) (upd H1 x (XO x C none true))):lu C t σ H Q:=q
variable {X:Cx}
theorem tW {P:Program} {w:World}:eA (CX1 P w) X E0:=λ_ _ _ _ _ _ _ h=>by
 obtain⟨_,_,_,_,_,_,_,_,_,_,_,_,_,_,z⟩:=h;exact z.elim
structure Fn1 (P:Program) (w:World) (K:PySem.W.Frag) (mg:A2) (base:Heap) (x:Str) (ps:List Str) (k:Nat) (sp:Sp):Prop where
 ex:∃f fd,FnOk P w K mg base (CX1 P w) k f fd ps sp/\mg x=some (.ref f)/\PySem.W.keepIn K (.ref f)=true/\b9 K fd ps []
variable {p pos cpos epos:Pos} {es:List Expr} {sp:Sp} {ps:List Str}
theorem sy {x:Str} {k:Nat} {e:Expr} (F:Fn1 X.prog X.w X.K X.mg X.base x ps k sp) (hr:Room k X.A) (hg:Gl X x) (ha:PA X (e::es) t)
  (hdb:(x==("__debug__" : Str))=false:=by decide) (he:starEach (e::es) X.env=(false,eval e X.env)::starEach es X.env:=by rfl) (hpl:(backTo pos (starEach es X.env)).any (·.1)=false:=by rfl) :
  PE X (.Call (.Name x p) (e::es) [] pos) (eG sp [] E0 t):=by
 obtain⟨f,fd,G,hm,hk,hb⟩:=F.ex;exact i_ G hr hg hm hk hb .nil tW ha hdb he hpl
theorem gc {x:Str} {k:Nat} {e:Expr} {E:XK} (F:Fn1 X.prog X.w X.K X.mg X.base x ps k sp) (hr:Room k X.A) (hg:Gl X x) (hx:eA (CX1 X.prog X.w) X E) (ha:PA X (e::es) t)
  (hdb:(x==("__debug__" : Str))=false:=by decide) (he:starEach (e::es) X.env=(false,eval e X.env)::starEach es X.env:=by rfl) (hpl:(backTo pos (starEach es X.env)).any (·.1)=false:=by rfl) :
  PE X (.Call (.Name x p) (e::es) [] pos) (eG sp [] E t):=by
 obtain⟨f,fd,G,hm,hk,hb⟩:=F.ex;exact i_ G hr hg hm hk hb .nil hx ha hdb he hpl
theorem i5 {x:Str} {k:Nat} {e:Expr} (F:Fn1 X.prog X.w X.K X.mg X.base x ps k sp) (hr:Room k X.A) (hg:Gl X x) (ha:PA X.nox (e::es) t)
  (hdb:(x==("__debug__" : Str))=false:=by decide) (he:starEach (e::es) X.env=(false,eval e X.env)::starEach es X.env:=by rfl) (hpl:(backTo cpos (starEach es X.env)).any (·.1)=false:=by rfl)
  (hs:swapsWith (.Call (.Name x p) (e::es) [] cpos) none epos.line X.env=pure false:=by rfl) :
  PX X [.Expr (.Call (.Name x p) (e::es) [] cpos) epos] (nB sp t):=by
 obtain⟨f,fd,G,hm,hk,hb⟩:=F.ex;exact pQ G hr hg hm hk hb ha hdb he hpl hs
theorem sV {K:PySem.W.Frag} {i:Nat} {tb:XK->TS} {tsu:TS} {D:Ends} (q:tb (λcls ea H2=>∃e,ea=some e/\PySem.W.exmOne K cls (.ref NE)=some true/\tsu { nx:=λσ' H'=>D.nx (σ'.set i none) H',rt:=λ_ _=>False } (σ.set i (some (.ref e))) H2)
  { nx:=D.nx,rt:=λ_ _=>False } σ H):qT K NE i tb tsu D σ H:=q
theorem lW {tc:TT} {t u:XK->TS} {E:XK} {D:Ends} (q:tc σ H λb H1=>if b=true then t E D σ H1 else u E D σ H1):xIf tc t u E D σ H:=q
theorem eS {E:XK} {D:Ends} (q:t σ H λvs H1=>sp vs H1 (λ_ H2=>D.nx σ H2) E):nB sp t E D σ H:=q
structure Held6 (C:Addr) (H:Hp) (e:Addr):Prop where
 ex:∃d fr,H e=some (XO e C d fr)/\∀dx,d=some dx->∃fs,H dx=some (.xd fs)
theorem Held6.same (h:Held6 C H e) (S:aj H H'):Held6 C H' e:=let ⟨d,fr,a,b⟩:=h.ex;⟨d,fr,S _ _ a,λdx q=>let ⟨fs,z⟩:=b dx q;⟨fs,S _ _ z⟩⟩
theorem cf.held (r:cf C H H' e):Held6 C H' e:=⟨none,false,r.2,λdx q=>nomatch q⟩
theorem eh {K:PySem.W.Frag} {c:V} {Q:VK} {b:Bool} (h:Held6 C H e) (kl:XE.XKl K C NE) (hc:(∃a,c=.ref a)\/∃n,c=.ty n) (k:PySem.W.kitOne K (.ref C) (sZ c)=some b) (q:Q (.bl b) H):rf K [V.ref e,c] H Q:=by
 obtain⟨d,fr,h1,h2⟩:=h.ex;exact⟨e,C,NE,d,fr,c,b,rfl,hc,h1,h2,kl,k,q⟩
structure KindsM (mg:A2) (c0 c2 c3 c4 c5:Addr):Prop where
 m0:mg "NoStanding" = some (.ref c0)
 m2:mg "NoFit" = some (.ref c2)
 m3:mg "NoText" = some (.ref c3)
 m4:mg "NoName" = some (.ref c4)
 m5:mg "NoRow" = some (.ref c5)
 mV:mg "ValueError" = none
structure NmE (mg:A2) (CS NE:Addr):Prop where
 mS:mg "NoStep" = some (.ref CS)
 mE:mg "NetError" = some (.ref NE)
structure KinB (K:PySem.W.Frag) (C NE c0 c1 c2 c3 c4 c5:Addr):Prop where
 k0:PySem.W.kitOne K (.ref C) (.ref c0)=some (decide (C=c0))
 k1:PySem.W.kitOne K (.ref C) (.ref c1)=some (decide (C=c1))
 k2:PySem.W.kitOne K (.ref C) (.ref c2)=some (decide (C=c2))
 k3:PySem.W.kitOne K (.ref C) (.ref c3)=some (decide (C=c3))
 k4:PySem.W.kitOne K (.ref C) (.ref c4)=some (decide (C=c4))
 k5:PySem.W.kitOne K (.ref C) (.ref c5)=some (decide (C=c5))
 kV:PySem.W.kitOne K (.ref C) (.type "ValueError")=some true
 ex:PySem.W.exmOne K (.ref C) (.ref NE)=some true
 kl:XE.XKl K C NE
end K2
namespace XE
open PySem
open Sem (wp)
structure Fly (L e T:Addr) (h:Heap):Prop where
 ex:∃oe vs oT ts,h.get? e=some oe/\oe.data=.fields vs/\vs[1]?=some (.ref T)/\h.get? T=some oT/\oT.data=.fields ts/\ts[3]?=some (rawInt L)
 ne:T≠e
section
variable {M:Model} {A:Around} {E:A0} {s:Shared} {P:A0}
theorem qr (T:Addr):¬((Value.ref T==Value.none)=true):=by simp
variable {e T L:Addr} {env:Env}
theorem nA {oe oT:Obj} {vs ts:Array Value} (fL:env.frame=some L) (ee:s.heap.get? e=some oe) (ed:oe.data=.fields vs) (v1:vs[1]?=some (.ref T))
  (eT:s.heap.get? T=some oT) (dT:oT.data=.fields ts) (v3:3<ts.size)
  (h:P (.ref e) { s with heap:=s.heap.update T (Obj.mapFields (·.setIfInBounds 3 (rawInt L))) }):cameBackBy M A env P (.ref e) s:=by
 unfold cameBackBy;refine Qa (QA ee ed v1 ?_);rw[QB (qr T)];rw[fL];refine eD ee ed v1 eT dT v3 ?_;exact h
theorem rQ {base:Heap} {outer:List Env} {oe:Obj} {vs:Array Value}
  (fr:A.frames=some (env::outer)) (ff:s.heap.FunFrames base (env::outer)) (fL:env.frame=some L)
  (ee:s.heap.get? e=some oe) (ed:oe.data=.fields vs) (v1:vs[1]?=some .none)
  (h:∀h' T,XL ((env::outer).filterMap (·.frame)) e [] s.heap h'->Fly L e T h'->s.heap.get? T=none->P (.ref e) { s with heap:=h' }):notedBy M A env (cameBackBy M A env P) (.ref e) s:=by
 unfold notedBy noteFrame;simp only[fL];refine Qa (QA ee ed v1 ?_);rw[QB (by decide)];have sz:=(Qt.mp v1).1;refine iF fr ff fL ee ed sz λh' T oT ts x eT dT v3 hne=>?_;have x3:=Qr ed (·.setIfInBounds 1 (Value.ref T));have v3':=(Qt.mp v3).1;refine nA (s:={ s with heap:=h' }) fL x.at_ x3 (by simp[sz]) eT dT v3' ?_;have ne:∀b o,s.heap.get? b=some o->T≠b:=λb o q z=>by rw[<-z,x.new]at q;cases q
 refine h _ T ⟨λb o eb _ fL q=>?_,λb o eb _ q=>?_,λoe' q=>?_⟩ ⟨⟨_,_,_,_,?_,x3,by simp[sz],QI _ eT (QY (Qr dT _)),Qr dT _,by simp[v3']⟩,hne⟩ x.new
 ·exact(Qj _ _ (ne b o q)).trans (x.keep b o eb fL q)
 ·obtain⟨sl,z⟩:=x.slot b o eb q;exact⟨sl,(Qj _ _ (ne b o q)).trans z⟩
 ·rw[ee]at q;cases q;exact⟨_,(Qj _ _ hne).trans x.at_,bR.1,bR.2⟩
 exact(Qj _ _ hne).trans x.at_
theorem rP {fs:A3} (fL:env.frame=some L) (t:Fly L e T s.heap)
  (h:∀h',XL fs e [T] s.heap h'->Fly L e T h'->P (.ref e) { s with heap:=h' }):notedBy M A env (cameBackBy M A env P) (.ref e) s:=by
 obtain⟨⟨oe,vs,oT,ts,ee,ed,v1,eT,dT,v3⟩,nTe⟩:=t;unfold notedBy noteFrame;simp only[fL];refine Qa (QA ee ed v1 ?_);rw[QH (show (Value.ref T != Value.none)=true from by simp)];refine Qa (QA eT dT v3 ?_);rw[QH (show (rawInt L==rawInt L)=true from by simp)];refine Qg ?_;have v3':=(Qt.mp v3).1;have els:∀b,b≠T->(s.heap.update T (Obj.mapFields (·.setIfInBounds 3 (rawInt L)))).get? b=s.heap.get? b:=λb eb=>Qj _ _ (QT eb);refine nA fL ee ed v1 eT dT v3' (h _ ⟨λb o _ ht _ q=>(els b (λz=>ht (by simp[z]))).trans q,λb o _ ht q=>⟨o.slots,(els b (λz=>ht (by simp[z]))).trans q⟩,λoe' q=>⟨oe',(els e (QT nTe)).trans q,rfl,rfl⟩⟩ ⟨⟨oe,vs,_,_,(els e (QT nTe)).trans ee,ed,v1,QI _ eT (QY (Qr dT _)),Qr dT _,by simp[v3']⟩,nTe⟩)
theorem rO {base:Heap} {outer:List Env}
  (fr:A.frames=some (env::outer)) (ff:s.heap.FunFrames base (env::outer)) (fL:env.frame=some L) (t:Tr e T s.heap)
  (h:∀h' T',XL ((env::outer).filterMap (·.frame)) e [T] s.heap h'->Fly L e T' h'->s.heap.get? T'=none->P (.ref e) { s with heap:=h' }):notedBy M A env (cameBackBy M A env P) (.ref e) s:=by
 obtain⟨⟨oe,vs,oT,ts,ee,ed,v1,eT,dT,v3⟩,nTe⟩:=t;unfold notedBy noteFrame;simp only[fL];refine Qa (QA ee ed v1 ?_);rw[QH (show (Value.ref T != Value.none)=true from by simp)];refine Qa (QA eT dT v3 ?_);rw[QB (show ¬((Value.none==rawInt L)=true) from by simp[rawInt])];refine Qa (wpAny_setField eT dT (Qt.mp v3).1 ?_);have sz:=(Qt.mp v1).1;have els:∀b,b≠T->(s.heap.update T (Obj.mapFields (·.setIfInBounds 3 Value.none))).get? b=s.heap.get? b:=λb eb=>Qj _ _ (QT eb)
 have norec:∀b o,s.heap.get? b=some o->(∀vs,o.data≠.fields vs)->b≠T:=λb o eb nf q=>by
  rw[q,eT]at eb;injection eb with eb;subst eb;exact nf ts dT
 refine iF (ff:=ff.of_keeps λb o eb nf=>⟨o,(els b (norec b o eb nf)).trans eb,rfl⟩) fr (fL:=fL) (ee:=(els e (QT nTe)).trans ee) ed sz λh' T' oT' ts' x eT' dT' v3' hne=>?_;have x3:=Qr ed (·.setIfInBounds 1 (Value.ref T'));have v3'':=(Qt.mp v3').1
 have nT:T≠T':=λz=>by
  have q:=x.new;rw[<-z,QI _ eT (QY (Qr dT _))]at q;cases q
 have new:s.heap.get? T'=none:=by
  have q:=x.new
  change (s.heap.update T (Obj.mapFields (·.setIfInBounds 3 Value.none))).get? T'=none at q
  rwa [els T' (QT nT)]at q
 refine nA (s:={ s with heap:=h' }) fL x.at_ x3 (by simp[sz]) eT' dT' v3'' ?_;have ne:∀b o,s.heap.get? b=some o->T'≠b:=λb o q z=>by rw[<-z,new]at q;cases q
 refine h _ T' ⟨λb o eb ht fL q=>?_,λb o eb ht q=>?_,λoe' q=>?_⟩ ⟨⟨_,_,_,_,?_,x3,by simp[sz],QI _ eT' (QY (Qr dT' _)),Qr dT' _,by simp[v3'']⟩,hne⟩ new
 ·exact(Qj _ _ (ne b o q)).trans (x.keep b o eb fL ((els b (λz=>ht (by simp[z]))).trans q))
 ·obtain⟨sl,z⟩:=x.slot b o eb ((els b (λz=>ht (by simp[z]))).trans q);exact⟨sl,(Qj _ _ (ne b o q)).trans z⟩
 ·rw[ee]at q;cases q;exact⟨_,(Qj _ _ hne).trans x.at_,bR.1,bR.2⟩
 exact(Qj _ _ hne).trans x.at_
theorem kc {fs:A3} {Q:Unit->Shared->Prop} (fL:env.frame=some L) (t:Fly L e T s.heap)
  (h:∀h',XL fs e [T] s.heap h'->Tr e T h'->Q () { s with heap:=h' }):wpAny M A (leaving env (.ref e)) Q E s:=by
 obtain⟨⟨oe,vs,oT,ts,ee,ed,v1,eT,dT,v3⟩,nTe⟩:=t;unfold leaving noteFrame;simp only[fL];refine Qa (Qa (QA ee ed v1 ?_));rw[QH (show (Value.ref T != Value.none)=true from by simp)];refine Qa (QA eT dT v3 ?_);rw[QH (show (rawInt L==rawInt L)=true from by simp)];refine Qg ?_;have v3':=(Qt.mp v3).1;have els:∀b,b≠T->(s.heap.update T (Obj.mapFields (·.setIfInBounds 3 ((none:Option Addr).elim Value.none λf=>rawInt f)))).get? b=s.heap.get? b:=λb eb=>Qj _ _ (QT eb);refine eD ee ed v1 eT dT v3' (h _ ⟨λb o _ ht _ q=>(els b (λz=>ht (by simp[z]))).trans q,λb o _ ht q=>⟨o.slots,(els b (λz=>ht (by simp[z]))).trans q⟩,λoe' q=>⟨oe',(els e (QT nTe)).trans q,rfl,rfl⟩⟩ ⟨⟨oe,vs,_,_,(els e (QT nTe)).trans ee,ed,v1,QI _ eT (QY (Qr dT _)),Qr dT _,by simp[v3']⟩,nTe⟩)
end
end XE
namespace L2
open PySem PySem.Spec PyProof.Rows PySem.Calls
theorem nz {fs Ts:A3} {L e C T:Addr} {d:Option Addr} {b:Bool} {h1 h2:Heap} (x:XOk e C d b h1) (y:XE.XL fs e Ts h1 h2) (t:XE.Fly L e T h2):XOk e C d false h2:=by
 obtain⟨o,vs,h1,c1,c2,_⟩:=x;obtain⟨oe,z,e1,e2⟩:=y.at_ o h1;obtain⟨oe',vs',_,_,z',dd,_⟩:=t.ex;rw[z]at z';cases z';exact⟨oe,vs',z,e1.trans c1,e2.trans c2,dd,λk=>by cases k⟩
def XF (X:Cx) (E:XK):Value->Shared->Prop:=λev s' =>
 (∃pins σ H1 e C d,ev=.ref e/\Inv X pins σ H1 s'/\H1 e=some (XO e C d true)/\E (.ref C) (some e) (upd H1 e (XO e C d false)))
 \/ (∃pins σ H1 s1 e C T d H2,ev=.ref e/\Inv X pins σ H1 s1/\s'.os=s1.os/\AllBare s'.gens/\Un (frs X.stack) [] H1 H2 s1.heap s'.heap/\HOk X.prog X.w H2 s'.heap/\H2 e=some (XO e C d false)/\s1.heap.get? T=none/\H2 T=none/\XE.Fly X.env.locals e T s'.heap/\E (.ref C) (some e) H2)
 \/ ∃pins σ H1 s1,Inv X pins σ H1 s1/\CX1 X.prog X.w X.stack H1 s1 E ev s'
section
variable {X:Cx} {E:XK}
variable {s s1 s2:Shared} {pins:A1}
theorem oY {σ:St} {H H1:Hp} {e C T:Addr} {d:Option Addr} {h2:Heap} {Ts:A3} (I:Inv X pins σ H s) (un:Un (frs X.stack) [] H H1 s.heap s1.heap) (hok:HOk X.prog X.w H1 s1.heap)
  (eo:H1 e=some (XO e C d false)) (hT:∀T∈Ts,s.heap.get? T=none) (hT1:∀T∈Ts,H1 T=none) (xl:XE.XL (frs X.stack) e Ts s1.heap h2) (tr:XE.Fly X.env.locals e T h2) (fr:∀b∈frs X.stack,H1 b=none) :
  Un (frs X.stack) [] H H1 s.heap h2/\HOk X.prog X.w H1 h2:=by
 have xo:XOk e C d false s1.heap:=(hok e _ eo).1;have xl':XE.XL (s.heap.objs.size::frs X.stack) e Ts s1.heap h2:=⟨λb o n t f q=>xl.keep b o n t (λz=>f (Qp _ z)) q,xl.slot,xl.at_⟩;exact⟨Un.exc (L:=s.heap.objs.size) un eo eo (λ_ _=>rfl) xl' (xb (Qh _)) hT,HOk.exc hok eo eo (dU (nz xo xl tr)) (λ_ _=>rfl) xl fr hT1⟩
theorem jt {σ:St} {H1 H2:Hp} (I1:Inv X pins σ H1 s1) (un2:Un (frs X.stack) [] H1 H2 s1.heap s2.heap):∀b∈frs X.stack,H2 b=none:=λb hb=>by
 obtain⟨_,o,ho,_⟩:=I1.stack.mem hb;exact un2.free b o ho (I1.stkFree b hb) (by simp)
theorem ff2 {σ:St} {H1 H2:Hp} (hst:X.stack=X.env::X.outer) (I1:Inv X pins σ H1 s1) (un2:Un (frs X.stack) [] H1 H2 s1.heap s2.heap):s2.heap.FunFrames X.base (X.env::X.outer):=by
 rw[<-hst];exact oZ I1.stack λb hb o ho=>un2.slot b o ho (I1.stkFree b hb) hb (by simp)
theorem rV (hst:X.stack=X.env::X.outer) (hfr:X.env.frame=some X.env.locals):PassesOwn (model X.prog X.w) X.A X.env (XF X E):=by
 rintro ev s2 (⟨pins,σ,H1,e,C,d,rfl,I,he,hE⟩|⟨pins,σ,H1,s1,e,C,T,d,H2,rfl,I1,os2,bare2,un2,hok2,eo,nT,nT2,fl,hE⟩|⟨pins,σ,H1,s1,I1,e,C,T,d,H2,rfl,os2,bare2,un2,hok2,eo,nT,nT2,tr,hE⟩)
 ·have xo:XOk e C d true s2.heap:=(I.hok e _ he).1;obtain⟨o,vs,g1,g2,g3,g4,g5⟩:=id xo;obtain⟨t,rfl⟩:=g5 rfl;refine XE.rQ (base:=X.base) (by rw[I.ok.frames,hst]) (by rw[<-hst];exact I.stack) hfr g1 g4 rfl λh' T xl fl new=>?_;have xl:XE.XL (frs X.stack) e [] s2.heap h':=by rw[hst];exact xl
  have nTe:T≠e:=fl.ne;have els:∀b,b≠e->upd H1 e (XO e C d false) b=H1 b:=λb hb=>am hb;have xl':XE.XL (s2.heap.objs.size::frs X.stack) e [] s2.heap h':=⟨λb o n t f q=>xl.keep b o n t (λz=>f (Qp _ z)) q,xl.slot,xl.at_⟩;refine .inr (.inl ⟨pins,σ,H1,s2,e,C,T,d,upd H1 e (XO e C d false),rfl,I,rfl,I.bare,Un.exc (L:=s2.heap.objs.size) (Ts:=[]) Un.refl he af els xl' (xb (Qh _)) (by simp),?_,af,new,by rw[am nTe];exact I.hok.nothere new,fl,hE⟩);exact HOk.exc (Ts:=[]) I.hok he af (dU (nz xo xl fl)) els xl (λb hb=>I.stkFree b hb) (by simp)
 ·refine XE.rP (fs:=frs X.stack) hfr fl λh' xl fl'=>?_;obtain⟨un3,hok3⟩:=oY (T:=T) (Ts:=[T]) I1 un2 hok2 eo (by simpa using nT) (by simpa using nT2) xl fl' (jt I1 un2);exact .inr (.inl ⟨pins,σ,H1,s1,e,C,T,d,H2,rfl,I1,os2,bare2,un3,hok3,eo,nT,nT2,fl',hE⟩)
 refine XE.rO (base:=X.base) (by rw[I1.ok.frames,hst]) (ff2 hst I1 un2) hfr tr λh' T' xl fl new=>?_;have xl:XE.XL (frs X.stack) e [T] s2.heap h':=by rw[hst];exact xl
 obtain⟨un3,hok3⟩:=oY (T:=T') (Ts:=[T]) I1 un2 hok2 eo (by simpa using nT) (by simpa using nT2) xl fl (jt I1 un2)
 have nT3:s1.heap.get? T'=none:=by
  cases q:s1.heap.get? T' with
  | none=>rfl
  | some ob =>
  obtain⟨o',z⟩:=un2.there T' ob q (by simp);rw[new]at z;cases z
 exact .inr (.inl ⟨pins,σ,H1,s1,e,C,T',d,H2,rfl,I1,os2,bare2,un3,hok3,eo,nT3,hok2.nothere new,fl,hE⟩)
theorem pS {st:Stmt} {t:TS} (h:PS (X.wish (XF X E)) st t) (hx:∀ev s',XF X E ev s'->X.xe ev s'):PS X st t:=λpins s σ H D I q =>
 Q1 (h pins s σ H D (I.wish _) q) (λ_ _ z=>z.unwish) hx
theorem pT {tg iter:Expr} {body:List Stmt} {wi:TI} {g:TG} {tb:TS} {pos:Pos} (hst:X.stack=X.env::X.outer) (hfr:X.env.frame=some X.env.locals) (hx:∀ev s',XF X E ev s'->X.xe ev s') (hc:X.calm=true) (hi:PI (X.wish (XF X E)) tg iter wi) (hg:PG (X.wish (XF X E)) tg g) (hb:PSs (X.wish (XF X E)) body tb) (hs:∀x,foldedSetIterable iter X.env x=pure x:=by intro _;rfl):PS X (.For tg iter body [] pos) (r_ wi g tb):=pS (ps_for (rV hst hfr) hc hi hg hb hs) hx
end
section
variable {P:Program} {w:World} {K:PySem.W.Frag} {mg:A2} {base:Heap} {N:List Str} {qual:Str} {scope:Scope} {f:Addr} {cd:Value} {A:Around} {outer:List Env} {s:Shared} {H:Hp} {E:XK}
theorem tD:∀ev s',XF (cxOf (CX1 P w) P w K mg base N qual scope f cd A outer s H E) E ev s'->(cxOf (CX1 P w) P w K mg base N qual scope f cd A outer s H E).xe ev s':=by
 rintro ev s2 (⟨pins,σ,H1,e,C,d,rfl,I,he,hE⟩|⟨pins,σ,H1,s1,e,C,T,d,H2,rfl,I,os2,bare2,un2,hok2,eo,nT,nT2,fl,hE⟩|⟨pins,σ,H1,s1,I,z⟩)
 ·exact eZ I he hE
 ·have I2:Inv (cxOf (CX1 P w) P w K mg base N qual scope f cd A outer s H E) pins σ H2 s2:=I.call' (ch:=[]) os2 un2 hok2 bare2 (λb z=>absurd z (by simp));have xo:XOk e C d false s2.heap:=(hok2 e _ eo).1;have hL:s.heap.get? s.heap.objs.size=none:=xb (Qh _)
  have nTs:s.heap.get? T=none:=by
   cases q:s.heap.get? T with
   | none=>rfl
   | some ob =>
   obtain⟨o',z⟩:=I.base.there T ob q (λz=>absurd (show T∈([]:A3) from z) (by simp));rw[nT]at z;cases z
  refine XE.kc (fs:=s.heap.objs.size::frs outer) rfl fl λh' xl tr'=>?_;refine⟨e,C,T,d,H2,rfl,I2.os,I2.bare,Un.exc (L:=s.heap.objs.size) (Ts:=[T]) I2.base eo eo (λ_ _=>rfl) xl hL (by simpa using nTs),?_,eo,nTs,nT2,tr',hE⟩;refine HOk.exc (Ts:=[T]) hok2 eo eo (dU (iE xo xl ⟨T,tr'⟩)) (λ_ _=>rfl) xl (λb hb=>I2.stkFree b hb) (by simpa using nT2)
 exact dO pins σ H1 s1 ev s2 I z
end
end L2
namespace L2
open PySem PySem.Spec PyProof.Rows
open AutoSeq1 (wpAny_loadPart')
section
variable {P:Program} {w:World} {A:Around} {E:A0} {s:Shared}
theorem nc (l:Addr) (c:Int) (tc:Tok) (hc:Builtin.SmallTypes.fitsIndex c=true) (its:Array Value) (m:Nat) (dd:Option Addr) (ss:Array (Option Value)) :
  Meets (Builtin.«enumerate.__new__» ⟨[.type "enumerate", .ref l],[("start", .int c tc)]⟩) (λ_ R t=>t.heap.get? l=some { cls:=.type "list", dict:=dd,data:=.seq its m,slots:=ss } /\
   R (.ok (.ret (.ref (t.heap.push { cls:=.type "list_iterator", data:=.fields #[.ref l,.int 0 0] }).objs.size)))
    { t with heap:=(t.heap.push { cls:=.type "list_iterator", data:=.fields #[.ref l,.int 0 0] }).push { cls:=.type "enumerate", data:=.fields #[.none,.bool false,.ref t.heap.objs.size,rawInt c,.none,.none] } }):=by
 refine .of_wp λP w A R t ht=>?_;obtain⟨hp,g,d,tk,os⟩:=t;obtain⟨hl,h⟩:=ht;have sub:=sub_enumerate;have hL:Heap.IsList (Shared.heap ⟨hp,g,d,tk,os⟩) l its:=⟨_,hl,rfl,m,rfl⟩
 wp_walk using wpAny_loadPart' hl
 refine wpAny_stack_any λst=>Qg ?_;have nf:(!Builtin.SmallTypes.fitsIndex c)=false:=by rw[hc];rfl
 split
 rotate_left
 ·(wp_walk using wpAny_loadPart' hl,wpAny_pyIter_list hL);exact⟨_,rfl,h⟩
 rename_i k _ _ _ _ _
 cases (k==Value.type "enumerate") <;> ((wp_walk using wpAny_loadPart' hl,wpAny_pyIter_list hL);exact⟨_,rfl,h⟩)
theorem mn (a b:Value):checkTypeCall "enumerate" ⟨[a],[("start", b)]⟩=pure ():=by kernel_rfl
theorem oK (a b:Value):checkBuiltinCall "enumerate.__new__" ⟨[.type "enumerate", a],[("start", b)]⟩=pure ():=by kernel_rfl
theorem uT (a b c:Value):argsOk "object.__init__" ⟨[a,b],[("start", c)]⟩:=by
 show Bind.checkArgs _ _ _=_
 kernel_rfl
theorem oH {T nid:String} {o a b:Value} (hl:typeLookup (.type T) "__init__" = pure (some (.builtin "object.__init__"))) (hm:Bind.madeBy (.type T)=pure (some nid)) (ne:(some nid != some "object.__new__")=true) :
  Meets (Builtin.«object.__init__» ⟨[o,a],[("start", b)]⟩) (λ_ R t=>t.TypeIs o T/\R (.ok (.ret .none)) t):=by
 refine .of_wp λP w A R t ⟨hT,hq⟩=>?_
 repeat (any_goals (first|assumption|wp_step))
 exact⟨_,rfl,hq⟩
end
end L2
namespace L2
open PySem PySem.Spec PyProof.Rows
variable {P:Program} {w:World} {A:Around} {E:A0} {s:Shared}
section
theorem lh {l:Addr} {c:Int} {tc:Tok} {its:Array Value} {Q:A0} (hc:Builtin.SmallTypes.fitsIndex c=true) (hL:s.heap.IsList l its)
  (h:∀h',IsEnum h' (s.heap.objs.size+1) s.heap.objs.size c .none->h'.IsListIter s.heap.objs.size l 0->(∀b o,s.heap.get? b=some o->h'.get? b=some o)->Q (.ref (s.heap.objs.size+1)) { s with heap:=h' }) :
  wpAny (model P w) A (call (.type "enumerate") [.ref l] [("start", .int c tc)]) Q E s:=by
 obtain⟨⟨k,dd,dt,ss⟩,hl,hk,m,hd⟩:=hL;have hk:k=.type "list" := hk;have hd:dt=.seq its m:=hd;subst hk hd;have ft:=F.called_enumerate;obtain⟨c0,tl,hmro⟩:=ft.mro;have hmade:=ft.made;have hsub:=ft.sub;have h1:=ft.notType;have h2:=ft.canCreate;have hct:=mn (.ref l) (.int c tc);refine wpAny_call (codeAny_of_tree ?_);show wpAny _ _ (callAny (.type "enumerate") _) _ _ _;refine Qg ⟨Code.quiet_builtin _ (by decide +kernel),codeAny_builtin F.entry_type_call ?_⟩;rw[Around.under_plain (weight_type_call_type "enumerate" [.ref l] [("start", .int c tc)]) (units_type_call_type "enumerate" [.ref l] [("start", .int c tc)])]
 repeat (any_goals (first|assumption|wp_step))
 have hcn:=oK (.ref l) (.int c tc);refine codeAny_mono (codeAny_call_builtin ft.plain F.entry_enumerate_new (wpAny_of_eq hcn ((nc l c tc hc its m dd ss) P w A.in1 (wants (λobj s₁=>s₁.TypeIs obj "enumerate" /\ Q obj s₁) E) s ⟨hl,?_⟩))) λr s₁ hr=>?_
 ·have hz:(s.heap.push { cls:=.type "list_iterator", data:=.fields #[.ref l,.int 0 0] }).objs.size=s.heap.objs.size+1:=Heap.size_push ..;show _/\_;rw[hz];have he:=Qn (s.heap.push { cls:=.type "list_iterator", data:=.fields #[.ref l,.int 0 0] }) (o:={ cls:=.type "enumerate", data:=.fields #[.none,.bool false,.ref s.heap.objs.size,rawInt c,.none,.none] }) rfl;rw[hz]at he;exact⟨⟨_,he,rfl⟩,h _ he ⟨_,Qc _ (Qn _ rfl),rfl,rfl⟩ λb o x=>Qc _ (Qc _ x)⟩
 cases r with
 | error e=>exact hr
 | ok fl =>
 cases fl with
 | ret obj =>
  obtain⟨hT,hq⟩:=hr;have hli:=ft.init.lookup;have hbi:=ft.init.bind obj
  repeat (any_goals (first|assumption|wp_step))
  refine codeAny_mono (codeAny_call_builtin ft.init.plain F.entry_object_init (ft.init.check _ _ _ _ _ _ _ _ hT (uT obj _ _) ((oH ft.init.lookup ft.made (by decide)) P w A.in1 (wants (λr s₂=>r=.none/\Q obj s₂) E) s₁ ⟨hT,rfl,hq⟩))) λr₂ s₂ hr₂=>?_
  cases r₂ with
  | error e=>exact hr₂
  | ok fl2 =>
  cases fl2 with
  | ret r=>obtain⟨rfl,hq⟩:=hr₂;repeat (any_goals (first|assumption|wp_step))
  | _=>exact hr₂.elim
 | _=>exact hr.elim
end
section
variable {x old:Value} {its:Array Value} {e it l:Addr}
theorem k_ {i:Nat} {c:Int} {Q:A0} (he:IsEnum s.heap e it c old) (hit:s.heap.IsListIter it l i) (hl:s.heap.IsList l its) (hx:its[i]?=some x) (hne:e≠it)
  (hQ:∀h',IsEnumOut h' e it (c+1) x s.heap.objs.size->h'.IsListIter it l (i+1)->h'.get? s.heap.objs.size=some { cls:=.type "tuple", data:=.seq #[.int c s.toks,x] } ->
   (∀b o,b≠e->b≠it->s.heap.get? b=some o->h'.get? b=some o)->Q (.ref s.heap.objs.size) { s with heap:=h',toks:=s.toks+1 }) :
  wpAny (model P w) A (Builtin.«enumerate.__next__» ⟨[.ref e],[]⟩) (λfin s'=>∃v,fin=.done (.ret v)/\Q v s') E s:=by
 obtain⟨hp,g,d,tk,os⟩:=s;show wpAny _ _ (field (.ref e) 2 >>= _) _ _ _;refine Qa (QA he rfl (x:=.ref it) rfl (Qa (wpAny_nextOf_list_item hit hl hx λk1 i1 s1=>?_)));have s1:Heap.SameBut it hp k1:=s1;have e1:IsEnum k1 e it c old:=(s1.2 e hne).trans he;show wpAny _ _ (field (.ref e) 3 >>= _) _ _ ⟨k1,g,d,tk,os⟩;refine Qa (QA e1 rfl (x:=rawInt c) rfl ?_);show wpAny _ _ (field (.ref e) 4 >>= _) _ _ ⟨k1,g,d,tk,os⟩;refine Qa (QA e1 rfl (x:=.none) rfl ?_);show wpAny _ _ (mkInt c >>= _) _ _ ⟨k1,g,d,tk,os⟩;refine Qa (wpAny_mkInt ?_);show wpAny _ _ (setField (.ref e) 3 (rawInt (c+1)) >>= _) _ _ ⟨k1,g,d,tk+1,os⟩;refine Qa (QW e1 (by simp) λk2 e2 s2=>?_);have s2:Heap.SameBut e k1 k2:=s2;have e2:IsEnum k2 e it (c+1) old:=e2;show wpAny _ _ (setField (.ref e) 4 .none >>= _) _ _ ⟨k2,g,d,tk+1,os⟩;refine Qa (QW e2 (by simp) λk3 e3 s3=>?_);have s3:Heap.SameBut e k2 k3:=s3;have e3:IsEnum k3 e it (c+1) old:=e3;show wpAny _ _ (newTuple [.int c tk,x] >>= _) _ _ ⟨k3,g,d,tk+1,os⟩;refine Qa (wpAny_newTuple ?_);have e4:IsEnum (k3.push { cls:=.type "tuple", data:=.seq #[.int c tk,x] }) e it (c+1) old:=Qc _ e3;generalize hh:k3.push { cls:=.type "tuple", data:=.seq #[.int c tk,x] }=k4 at e4;have sz:k3.objs.size=hp.objs.size:=by rw[s3.1,s2.1,s1.1]
 have el:e<hp.objs.size:=Qk he;have t4:k4.get? hp.objs.size=some { cls:=.type "tuple", data:=.seq #[.int c tk,x] }:=by rw[<-hh,<-sz];exact Qn _ rfl
 have kp:∀b o,b≠e->b≠it->hp.get? b=some o->k4.get? b=some o:=λb o n1 n2 q=>by rw[<-hh];exact Qc _ (s3.extBut b o n1 (s2.extBut b o n1 (s1.extBut b o n2 q)))
 have i4:k4.IsListIter it l (i+1):=by
  obtain⟨o,ho,r⟩:=(i1.extBut s2.extBut (QT hne)).extBut s3.extBut (QT hne);exact⟨o,by rw[<-hh];exact Qc _ ho,r⟩
 show wpAny _ _ (Builtin.SmallTypes.ownedTupleIsFree (.ref e) >>= _) _ _ ⟨k4,g,d,tk+1,os⟩;rw[sz];refine Qa ?_;unfold Builtin.SmallTypes.ownedTupleIsFree;refine Qa (QA e4 rfl (x:=.none) rfl (Qg ?_));simp only[if_true];refine Qa (wpAny_rule (Qa (QA e4 rfl (x:=old) rfl (Qa (QW e4 (by simp) λk5 e5 s5=>?_)))));have s5:Heap.SameBut e k4 k5:=s5;have e5:IsEnum k5 e it (c+1) x:=e5;show wpAny _ _ (Builtin.SmallTypes.ownedTupleHandOut (.ref e) (.ref hp.objs.size) >>= _) _ _ ⟨k5,g,d,tk+1,os⟩;refine Qa ?_;unfold Builtin.SmallTypes.ownedTupleHandOut;refine Qa (QW e5 (by simp) λk6 e6 s6=>?_);have s6:Heap.SameBut e k5 k6:=s6;have e6:IsEnumOut k6 e it (c+1) x hp.objs.size:=e6;refine QW e6 (by simp) λk7 e7 s7=>?_;have s7:Heap.SameBut e k6 k7:=s7;have e7:IsEnumOut k7 e it (c+1) x hp.objs.size:=e7;have far:∀b o,b≠e->k4.get? b=some o->k7.get? b=some o:=λb o n q=>s7.extBut b o n (s6.extBut b o n (s5.extBut b o n q));exact Qa (wpAny_letGo (Qg ⟨_,rfl,hQ k7 e7 (((i4.extBut s5.extBut (QT hne)).extBut s6.extBut (QT hne)).extBut s7.extBut (QT hne)) (far _ _ (Nat.ne_of_gt el) t4) λb o n1 n2 q=>far b o n1 (kp b o n1 n2 q)⟩))
variable {Q:Option Value->Shared->Prop}
theorem i3 {i:Nat} {c:Int} (he:IsEnum s.heap e it c old) (hit:s.heap.IsListIter it l i) (hl:s.heap.IsList l its) (hx:its[i]?=some x) (hne:e≠it)
  (hQ:∀h',IsEnumOut h' e it (c+1) x s.heap.objs.size->h'.IsListIter it l (i+1)->h'.get? s.heap.objs.size=some { cls:=.type "tuple", data:=.seq #[.int c s.toks,x] } ->
   (∀b o,b≠e->b≠it->s.heap.get? b=some o->h'.get? b=some o)->Q (some (.ref s.heap.objs.size)) { s with heap:=h',toks:=s.toks+1 }):wpAny (model P w) A (pyNext (.ref e)) Q E s:=by
 have ty:s.TypeIs (.ref e) "enumerate" := ⟨_,he,rfl⟩;unfold pyNext;refine Qa (wpAny_attempt (wpAny_callSpecial?_slot (name:=Str.ofString "__next__") ty F.slot_enumerate_next (wpAny_call_entry F.slot_enumerate_next ty F.entry_enumerate_next (k_ he hit hl hx hne λh' a b c k=>?_) (F.args_enumerate_next_1 _))));exact Qg (hQ h' a b c k)
theorem fh {i:Nat} {c:Int} (hh:A.handled=none) (he:IsEnum s.heap e it c old) (hit:s.heap.IsListIter it l i) (hl:s.heap.IsList l its) (hx:its[i]?=none)
  (hQ:∀h',Heap.ExtBut it s.heap h'->Q none { s with heap:=h' }):wpAny (model P w) A (pyNext (.ref e)) Q E s:=by
 have ty:s.TypeIs (.ref e) "enumerate" := ⟨_,he,rfl⟩;unfold pyNext;refine Qa (wpAny_attempt (wpAny_callSpecial?_slot (name:=Str.ofString "__next__") ty F.slot_enumerate_next (wpAny_call_entry F.slot_enumerate_next ty F.entry_enumerate_next ?_ (F.args_enumerate_next_1 _))));show wpAny _ _ (field (.ref e) 2 >>= _) _ _ _;refine Qa (QA he rfl (x:=.ref it) rfl (Qa (wpAny_nextOf_list_end hh hit hl hx λh' y hx' ⟨o,ho,ko⟩=>?_)));exact Qa (wpAny_isInstance (T := "StopIteration") (b:=true) ⟨o,ho,ko⟩ isSubtype_stop (Qg (hQ _ hx')))
end
noncomputable def pD (K:PySem.W.Frag) (a:Addr) (n:Int):It :=
 ⟨λi H=>∃xs x,SqL K H a xs/\xs[i]?=some x,λi H x H'=>∃T v,H T=none/\x=.ref T/\H'=upd H T (.tup [.int (n+(i:Nat)),v])/\∀xs,SqL K H a xs->xs[i]?=some v,λi H=>∃xs,SqL K H a xs/\xs.length<=i⟩
theorem kg {P:Program} {w:World} {K:PySem.W.Frag} {elts:List Expr} {k:Nat} {pos:Pos} (a e it:Addr) (n:Int) (hne:e≠it) :
  Turn P w K (.Tuple elts k pos) (pD K a n) [e,it] e (λi h=>(∃old,IsEnum h e it (n+(i:Nat)) old)/\h.IsListIter it a i) where
 mem:=by simp
 obj:=λi h st b hb=>by
  obtain⟨⟨old,he⟩,o,ho,hc,hd⟩:=st;have z:b=e\/b=it:=by simpa using hb
  rcases z with z|z
  ·subst z
   exact⟨_,he,λv q=>by
    have q':Data.fields _=Data.cell v:=q
    cases q'⟩
  subst z;exact⟨o,ho,λv q=>by rw[hd]at q;cases q⟩
 keep:=λi h h' st kk=>by
  obtain⟨⟨old,he⟩,hl⟩:=st;exact⟨⟨old,kk e (by simp) _ he⟩,hl.at λo q=>kk it (by simp) o q⟩
 item:=by
  intro X hP hw hK hc i pins s σ H E I hf st hg;subst hP hw hK;obtain⟨xs,x,hq,hx⟩:=hg;obtain⟨its,rv,p,hz⟩:=I.list hq;obtain⟨u,hu,ru⟩:=rv.get hx;obtain⟨⟨old,he⟩,hl⟩:=st;have f1:=hf e (by simp);have f2:=hf it (by simp);refine i3 he hl p.isList (x:=u) (by simpa using hu) hne λh1 a1 a2 a3 a5=>⟨_,rfl,?_⟩;refine wpAny_letOwnedTupleGo_enum a1 λh2 b1 b2=>?_
  have nTe:s.heap.objs.size≠e:=λz=>by
   have q:=Qk (show s.heap.get? e=some _ from he);rw[<-z]at q;exact Nat.lt_irrefl _ q
  have keep2:∀b o,b≠e->b≠it->s.heap.get? b=some o->h2.get? b=some o:=λb o n1 n2 q=>b2.extBut b o n1 (a5 b o n1 n2 q);have tup2:h2.get? s.heap.objs.size=some { cls:=.type "tuple", data:=.seq #[.int (n+(i:Nat)) s.toks,u] }:=b2.extBut _ _ nTe a3
  have I2:Inv X pins σ (upd H s.heap.objs.size (.tup [.int (n+(i:Nat)),x])) { s with heap:=h2,toks:=s.toks+1 } :=
   I.turned2 keep2 f1 f2 (Qh _) ⟨(by show 2<=sizeLine;decide),[.int (n+(i:Nat)) s.toks,u],.cons ⟨_,rfl⟩ (.cons ru .nil),⟨_,tup2,rfl,_,rfl⟩⟩
  refine⟨.ref s.heap.objs.size,_,I2,rfl,⟨s.heap.objs.size,x,I.hok.fresh (Qh _),rfl,rfl,λys hy=>by rw[I.list_inj hy hq];exact hx⟩,⟨⟨u,?_⟩,(a2.extBut b2.extBut (QT hne))⟩,λb hb=>?_⟩
  ·have q:IsEnum h2 e it (n+(i:Nat)+1) u:=b1;have c:n+(((i+1:Nat):Nat):Int)=n+(i:Nat)+1:=by omega
   rw[c];exact q
  have z:b=e\/b=it:=by simpa using hb
  have nT:b≠s.heap.objs.size:=by
   rcases z with z|z
   ·rw[z];exact QT nTe
   rw[z];obtain⟨o,ho,_⟩:=hl;exact Qy (Qk ho)
  rw[am nT];exact(hf b hb).1
 done:=by
  intro X hP hw hK hc i pins s σ H E I hf st hg;subst hP hw hK;obtain⟨xs,hq,hx⟩:=hg;obtain⟨its,rv,p,hz⟩:=I.list hq;obtain⟨⟨old,he⟩,hl⟩:=st;obtain⟨f0,f1,f2,f3,f4,f5⟩:=hf it (by simp);have hlen:=rv.length;exact fh (I.ok.hd hc) he hl p.isList (by simp;exact om4 hx hlen) λh' eb=>⟨rfl,I.turned (t':=s.toks) (λb o hb q=>eb b o hb q) f0 f1 f3 f4 f5⟩
 self:=λ_ _ _ _ _ st h=>by
  obtain⟨⟨old,he⟩,_⟩:=st;exact wpAny_pyIter_enum he h
section
variable {X:Cx} {elts:List Expr} {k:Nat} {tpos:Pos}
def sW (K:PySem.W.Frag) (ta tk:TA):TI:=λσ H R=>ta σ H λvs H1=>tk σ H1 λzs H2=>∃a n,vs=[.ref a]/\zs=[.int n]/\(0<=n/\n<1000)/\(∃xs,SqL K H2 a xs)/\R (pD K a n) H2
variable {E Q:A0}
theorem gF {M:Model} {env:Env} {pos:Pos} {T:String} {e:Expr} {kws:List Keyword} {A:Around} {s:Shared}
  (h:wpAny M A (spliced (backTo pos (starEach [e] env))) (λvs s1=>wpAny M A (evalAll ((backToKw pos (keywordEach kws env)).map (·.2))) (λzs s2=>wpAny M A (call (.type T) vs (((backToKw pos (keywordEach kws env)).filterMap (·.1)).zip zs)) Q E s2) E s1) E s)
  (he:backTo pos (starEach [e] env)=(false,eval e env)::backTo pos (starEach [] env):=by rfl) (hp:(backTo pos (starEach [e] env)).any (·.1)=false:=by rfl) (ha:(backToKw pos (keywordEach kws env)).all (·.1.isSome)=true:=by rfl) (hk:(backToKw pos (keywordEach kws env)).any (·.1.isNone)=false:=by rfl) :
  wpAny M A (callWith pos (.type T) [] (backTo pos (starEach [e] env)) (backToKw pos (keywordEach kws env))) Q E s:=by
 unfold callWith;refine Qa (QN (Q1 (show wpAny M A (evalArgs _ true _ _) (λa s1=>wpAny M A (call (.type T) a.pos a.kw) Q E s1) E s from ?_) (λa s1 h1=>Qa (wpAny_standAt ?_)) λ_ _ x=>x))
 ·rw[he]at h ⊢;exact evalArgs_kwB ha h
 simp only[hp,hk,Bool.or_false];refine Qa (Qg ?_);exact Qa (Q1 h1 (λr s2 hr=>Qa (QN (wpAny_point (Qg hr)))) λ_ _ x=>x)
theorem oi {a b:Expr} {ta tk:TA} {p pos kp:Pos} (hg:Gl X "enumerate") (hm:X.mg "enumerate" = none) (ha:PA X [a] ta) (hb:PK X [⟨some "start", b,kp⟩] tk) (he:∀pos,backTo pos (starEach [a] X.env)=(false,eval a X.env)::backTo pos (starEach [] X.env):=by intro pos;rfl) :
  PI X (.Tuple elts k tpos) (.Call (.Name "enumerate" p) [a] [⟨some "start", b,kp⟩] pos) (sW X.K ta tk):=by
 intro pins s σ H R I h;refine wpAny_Call_Name_kw (cO I hg hm boot_enumerate ?_);refine gF (thn (ha pos pins s σ H _ I h) λus s1 ⟨vs,H1,I1,r1,q1⟩=>thn (hb pos pins s1 σ H1 _ I1 q1) λws s2 ⟨zs,H2,I2,rz,q2⟩=>?_) (he pos) (by rw[he pos];rfl);obtain⟨l,n,e1,e2,⟨n0,n1⟩,⟨xs,hq⟩,q⟩:=q2;subst e1 e2
 cases r1 with
 | cons r rr =>
 cases rr;cases r;obtain⟨u,e,ru⟩:=dg rz;subst e;obtain⟨tc,e⟩:=ru;subst e;obtain⟨its,rv,pl,hz⟩:=I2.list hq;refine lh (c:=n) (tc:=tc) (by unfold Builtin.SmallTypes.fitsIndex;simp;omega) pl.isList λh' b1 b2 b4=>?_;refine wpAny_pyIter_enum b1 ?_;have I3:Inv X pins σ H2 { s2 with heap:=h' }:=I2.kept (t':=s2.toks) b4;refine⟨s2.heap.objs.size+1,[s2.heap.objs.size+1,s2.heap.objs.size],_,_,H2,rfl,I3,kg l (s2.heap.objs.size+1) s2.heap.objs.size n (by show @Ne Nat _ _;exact om5),⟨⟨_,by rw[show n+((0:Nat):Int)=n from by omega];exact b1⟩,b2⟩,λb hb=>?_,q⟩;have z:b=s2.heap.objs.size+1\/b=s2.heap.objs.size:=by simpa using hb
 have hle:s2.heap.objs.size<=b:=by
  rcases z with z|z
  ·rw[z];exact Nat.le_succ _
  rw[z];exact Qh _
 exact I2.fpOk hle (I2.hok.fresh hle)
end
theorem m_ {K:PySem.W.Frag} {a:Addr} {n:Int} {xs:List V} {g:TG} {tb:TS} {D:Ends} {σ:St} {H:Hp} (Pv:Nat->St->Hp->Prop) (h0:Pv 0 σ H) (hl:∀i σ H,i<=xs.length->Pv i σ H->SqL K H a xs)
  (hs:∀i x σ H T,xs[i]?=some x->Pv i σ H->H T=none->g (.ref T) σ (upd H T (.tup [.int (n+(i:Nat)),x])) λσ2 H2=>tb { D with nx:=Pv (i+1),ct:=Pv (i+1),bk:=D.nx } σ2 H2) (hd:∀σ H,Pv xs.length σ H->D.nx σ H) :
  ∃W:Nat->Nat->St->Hp->Prop,(∃m,W 0 m σ H)/\∀i m σ H,W i m σ H ->
   ((pD K a n).stop i H/\D.nx σ H)\/((pD K a n).go i H/\∃N:St->Hp->Prop,(∀σ' H',N σ' H'->∃m',m'<m/\W (i+1) m' σ' H')/\∀x H',(pD K a n).yld i H x H'->g x σ H' λσ2 H2=>tb { D with nx:=N,ct:=N,bk:=D.nx } σ2 H2):=by
 refine⟨λi m σ H=>m=xs.length-i/\i<=xs.length/\Pv i σ H,⟨xs.length,by simp,QZ _,h0⟩,?_⟩;rintro i m σ H ⟨rfl,hi,p⟩;have q:=hl i σ H hi p;by_cases hlt:i<xs.length
 ·refine .inr ⟨⟨xs,xs[i],q,by simp[hlt]⟩,Pv (i+1),λσ' H' p'=>⟨xs.length-(i+1),by exact om6 hlt,rfl,hlt,p'⟩,λx H' y=>?_⟩;obtain⟨T,v,hT,ex,eH,y⟩:=y;subst ex eH;exact hs i v σ H T (y xs q) p hT
 have e:i=xs.length:=by exact om0 hi hlt
 subst e;exact .inl ⟨⟨xs,q,Qh _⟩,hd σ H p⟩
section
variable {X:Cx}
def lJ (T:Addr):R2:=λx y H Q=>x=.ref T/\((y=.str "0" /\ Q (.str "1") H)\/(y=.str "1" /\ Q (.str "0") H))
theorem qw {T:Addr} (hT:lr X.K T [("0", .flat (.str "1")),("1", .flat (.str "0"))]):IxR X (lJ T):=by
 intro value slice pins s σ H x y v u Q I rx ry h hs;obtain⟨e1,h⟩:=h;subst e1;cases rx;have here:KTD.Here X.base s.heap T [("0", .flat (.str "1")),("1", .flat (.str "0"))]:=⟨KTD.text_of_look (get:=λa=>X.K.lookup a) (λa o e=>I.mod.kin a o e) hT,I.bk⟩;rcases h with⟨e,q⟩|⟨e,q⟩
 ·subst e;obtain⟨t,e⟩:=ry;subst e;refine KTD.item_textA here (by rfl) (by decide +kernel) ?_ hs;have e:decide (("0" : Str) = "0")=true:=by decide +kernel
  simp only[KTD.EachL,e,if_true];exact λt=>⟨.str "1", H,I.tok _,⟨_,rfl⟩,q⟩
 subst e;obtain⟨t,e⟩:=ry;subst e;refine KTD.item_textA here (by rfl) (by decide +kernel) ?_ hs;have e:decide (("1" : Str) = "0")=false:=by decide +kernel
 simp only[KTD.EachL,e,QK,if_false];exact λ_ t=>⟨.str "0", H,I.tok _,⟨_,rfl⟩,q⟩
end
section
variable {X:Cx} {scope:Scope} {tgs:List Str} {cap:List (Str × Nat)}
theorem nZ {j:Nat} {x:Str} {pos' spos:Pos} {elt tg iter:Expr} {ifs:List Expr} {pos:Pos} {wi:TI} {g:TG} {tt:TT} {te:TE} (hN:X.N.Nodup) (hj:X.N[j]?=some x) (hx:Loc X.env.scope x) (hc:X.calm=true) (B:BlockOk X scope tgs cap) (hi:PI X tg iter wi)
  (hg:∀C s H fp,PG (X.block (tgs++cap.map (·.1)) scope C s H fp) tg g) (ht:∀C s H fp,qP (X.block (tgs++cap.map (·.1)) scope C s H fp) ifs tt) (he:∀C s H fp,PE (X.block (tgs++cap.map (·.1)) scope C s H fp) elt te)
  (hs:∀x,foldedSetIterable iter X.env x=pure x:=by intro _;rfl) (hsw:swapsWith (.ListComp elt [⟨tg,iter,ifs,0⟩] scope pos) (some (.Name x pos')) spos.line X.env=pure true:=by rfl)
  (hf:X.fn x=true\/X.env.scope.names.lookup x=some .local:=by z_go):PS X (.Assign [.Name x pos'] (.ListComp elt [⟨tg,iter,ifs,0⟩] scope pos) spos) (ms (fP wi g tt te (bw tgs cap)) (cK j)):=by
 intro pins s σ H D I h;rw[exec_Assign_Name_used _ _ _ _ hsw];refine Qa (wpAny_standAt (Qa ?_));show wpAny _ _ (comprehension _ _ _ _ _ _ _ _ >>= _) _ _ _;refine Qa (thn (Q:=λ_ s'=>SP X pins D .next s') ?_ λ_ s' q=>Qg (Qg q));refine wpAny_comprehension_free (use:=some (assign (.Name x pos') X.env)) rfl hs (gD (B.cellAt I.ok)) B.kind B.locs (thn (hi pins s σ H _ I h) λv s1 h1=>thn h1 λitv s2 h2=>?_);obtain⟨it,fp,tn,J,H2,e,I2,T,st2,f2,q⟩:=h2;subst e;have lt2:∀b∈fp,b<s2.heap.objs.size:=λb hb=>let ⟨o,e,_⟩:=T.obj _ _ st2 b hb;Qk e;have hD:H2 s2.heap.objs.size=none:=I2.hok.fresh (Qh _);obtain⟨W,⟨m0,w0⟩,turn⟩:=q s2.heap.objs.size hD;refine wpAny_newObj_type ?_;have I3:Inv X pins σ (upd H2 s2.heap.objs.size (.lst [])) { s2 with heap:=s2.heap.push { cls:=.type "list", dict:=none,data:=.seq ([]:List Value).toArray } }:=I2.lnew (t':=s2.toks) (ys:=[]) (its:=[]) .nil (QZ _);have st3:tn 0 (s2.heap.push { cls:=.type "list", dict:=none,data:=.seq ([]:List Value).toArray }):=T.keep _ _ _ st2 λb _ o e=>Qc _ e;have nD:∀b∈fp,b≠s2.heap.objs.size:=λb hb=>Qy (lt2 b hb);have f3:∀b∈fp,eB X pins (upd H2 s2.heap.objs.size (.lst [])) b:=λb hb=>⟨by rw[am (nD b hb)];exact(f2 b hb).1,(f2 b hb).2⟩;generalize hs3:({ s2 with heap:=s2.heap.push { cls:=.type "list", dict:=none,data:=.seq ([]:List Value).toArray } }:Shared)=s3 at I3 st3 ⊢;have st3':tn 0 s3.heap:=by rw[<-hs3];exact st3
 have lt3:∀b∈fp,b<s3.heap.objs.size:=λb hb=>let ⟨o,e,_⟩:=T.obj _ _ st3' b hb;Qk e;generalize hH3:upd H2 s2.heap.objs.size (.lst [])=H3 at I3 f3 w0;generalize s2.heap.objs.size=DD at *;refine wpAny_newFunctionEnv B.noc (by intro y hy;simp at hy) (λh1 hns hsb=>?_) B.kind;have old:∀b o,s3.heap.get? b=some o->h1.get? b=some o:=λb o e=>hsb.extBut b o (Qy (Qk e)) (Qc _ e);have I4:=Inv.enter (tk:=s3.toks+([]:List (Str × Value)).length) (h1:=h1) B I3 f3 lt3 hns old;have st4:tn 0 h1:=T.keep _ _ _ st3' λb _ o e=>old b o e
 have fpB:∀{H':Hp},(∀b∈fp,H' b=none)->∀b∈fp,eB (X.block (tgs++cap.map (·.1)) scope s3.heap.objs.size s3 H3 fp) [] H' b:=λ{H'} hn b hb =>
  ⟨hn b hb,Qy (lt3 b hb),I4.ok.exfs b hb,.inl hb,λx c e=>(I4.ok.exf b hb).2 x c e,λp hp=>absurd (show p∈([]:A1) from hp) (by simp)⟩
 have loop:codeAny (model X.prog X.w) X.A (.compLoop (.ListComp elt [⟨tg,iter,ifs,0⟩] scope pos) 0 (.ref it) (.ref DD) (compEnvC scope (b8 X.env scope.names []) s3.heap.objs.size X.env))
   (compPost (model X.prog X.w) X.A X.xe (some (assign (.Name x pos') X.env)) (λ_ s'=>SP X pins D .next s') (.ref DD) s3.heap.objs.size) { s3 with heap:=h1,toks:=s3.toks+([]:List (Str × Value)).length }:=by
  refine eV (λn s'=>∃i H' ys,Inv (X.block (tgs++cap.map (·.1)) scope s3.heap.objs.size s3 H3 fp) [] (bw tgs cap σ) H' s'/\tn i s'.heap/\(∀b∈fp,H' b=none)/\W i n H' ys) ?_ m0 ⟨0,H3,[],I4,st4,λb hb=>(f3 b hb).1,w0⟩;rintro n s5 ⟨i,H5,ys,I5,st5,fr5,w5⟩;obtain⟨hl,ht5⟩:=turn i n H5 ys w5;rcases ht5 with⟨stop,qd⟩|⟨go,step⟩
  ·refine thn (T.done (X.block (tgs++cap.map (·.1)) scope s3.heap.objs.size s3 H3 fp) rfl rfl rfl hc i [] s5 _ H5 _ I5 (fpB fr5) st5 stop) λr s6 ⟨hr,I6⟩=>?_;subst hr;obtain⟨m6,n6,_⟩:=I6.loc;have IO:Inv X pins σ H5 s6:=Inv.leave (h2:=s6.heap) I3 f3 I6 ⟨rfl,λ_ _=>rfl⟩;have fC:eB X pins H5 s3.heap.objs.size:=⟨I6.free,(I3.fpOk (Qh _) (I3.hok.fresh (Qh _))).2⟩;obtain⟨f0,f1,f2',f3',f4,f5⟩:=fC;refine wpAny_assign_Name (hX IO hN hj hx (show aU (.ref DD) (.ref DD) from rfl) (λs7 I7 ⟨a,sb,ha⟩=>?_) hf)
   have na:s3.heap.objs.size≠a:=by
    rcases ha with z|z
    ·rw[z];exact f1
    exact λy=>f4 x a z y.symm
   obtain⟨o6,es6,ep6,ho6,r6⟩:=n6;refine⟨m6,⟨o6,es6,ep6,(sb.2 _ na).trans ho6,r6⟩,λh' hs'=>⟨_,H5,I7.turned (t':=s7.toks) (λb o hb q=>(hs'.2 b hb).trans q) f0 f1 f3' f4 f5,qd⟩⟩
  refine thn (T.item (X.block (tgs++cap.map (·.1)) scope s3.heap.objs.size s3 H3 fp) rfl rfl rfl hc i [] s5 _ H5 _ I5 (fpB fr5) st5 go) λr s6 ⟨u,hr,h6⟩=>?_;subst hr;refine thn h6 λ_ s7 ⟨x,H7,I7,r7,y7,st7,fr7⟩=>?_;have I7':=I7.pinned (fpB fr7) (T.obj _ _ st7)
  have again:∀{σ8:St} {H8:Hp} {s8:Shared} {ys8:List V},Inv (X.block (tgs++cap.map (·.1)) scope s3.heap.objs.size s3 H3 fp) ([]++fj fp s7.heap) σ8 H8 s8->wk (bw tgs cap σ) σ8->(∃m',m'<n/\W (i+1) m' H8 ys8) ->
    ∃m,m<n/\∃i H' ys,Inv (X.block (tgs++cap.map (·.1)) scope s3.heap.objs.size s3 H3 fp) [] (bw tgs cap σ) H' s8/\tn i s8.heap/\(∀b∈fp,H' b=none)/\W i m H' ys:=λ{σ8 H8 s8 ys8} I8 k8 ⟨m',hm,w8⟩=>by
   refine⟨m',hm,i+1,H8,ys8,I8.unpinned.weak (iG k8) (iH k8),T.keep _ _ _ st7 λb hb o e=>(I8.pin (b,o) (Qw _ (Qw _ (cb hb e)))).1,λb hb=>?_,w8⟩;obtain⟨o,e,d⟩:=T.obj _ _ st7 b hb;exact(I8.pin (b,o) (Qw _ (Qw _ (cb hb e)))).2.1
  refine thn (hg _ _ _ _ _ s7 _ H7 x u _ I7' r7 (step x H7 y7)) λ_ s8 ⟨σ8,H8,I8,k8,q8⟩=>?_;refine thn (ht _ _ _ _ _ s8 σ8 H8 _ I8 q8) λok s9 ⟨H9,I9,q9⟩=>?_
  cases ok with
  | false =>
   rw[QB Qm]at q9 ⊢;exact again I9 k8 q9
  | true =>
  rw[QH rfl]at q9 ⊢;refine thn (he _ _ _ _ _ s9 σ8 H9 _ I9 q9) λy sA ⟨yv,HA,IA,rA,hA,zA,qA⟩=>?_;exact thn (bg _ sA σ8 HA (.ref DD) [yv] (.ref DD) [y] (λv H'=>v=.non/\∃m',m'<n/\W (i+1) m' H' (ys++[yv])) IA rfl (.cons rA .nil) ⟨DD,ys,yv,rfl,rfl,hA,zA,rfl,qA⟩) λ_ sB ⟨_,HB,IB,_,_,qB⟩=>again IB k8 qB
 exact codeAny_compStart_list loop (T.self _ 0 _ _ _ st4 loop)
end
end L2
namespace LZ
open PySem
section
variable {prog:Program} {w:World} {A:Around} {E:A0} {s:Shared}
theorem eP:typeLookup (.type "list") "__getattr__" = pure none:=by rw[typeLookup_type,builtinLookup_eq_fast];kernel_rfl
theorem gr:typeLookup (.type "list") "keys" = pure none:=by rw[typeLookup_type,builtinLookup_eq_fast];kernel_rfl
theorem cW:entryFor table "list.__getattribute__" = some Builtin.«object.__getattribute__» :=
 entryFor_alias (id' := "object.__getattribute__") (by kernel_rfl) (by decide +kernel) (by decide +kernel) (by kernel_rfl)
theorem fE (a:Addr) (xs:Array Value) (m:Nat) (sl:Array (Option Value)) (u:Tok) :
  Meets (Builtin.«object.__getattribute__» ⟨[.ref a,.str "keys" u],[]⟩) (λA R s=>s.heap.get? a=some { cls:=.type "list", dict:=none,data:=.seq xs m,slots:=sl }/\raisesAttr (.ref a) "keys" A R s) :=
 Meets.of_wp λprog w A R s hs=>by
  obtain⟨hp,g,d,tk,os⟩:=s;obtain⟨hx,hs⟩:=hs;have hT:(⟨hp,g,d,tk,os⟩:Shared).TypeIs (.ref a) "list" := ⟨_,hx,rfl⟩;have hmiss:=gr;have hname:(["__module__", "__name__", "__qualname__", "__doc__", "__annotations__"]:List Str).contains "keys" = false:=by decide +kernel
  unfold Builtin.«object.__getattribute__»
  repeat (any_goals (first|assumption|wp_step))
  try simp only[hname,QK,if_false]
  repeat (any_goals (first|assumption|wp_step))
  exact wpAny_raiseAttrError hs.1 hs.2 (attrMsg_fits (by decide +kernel) (by decide +kernel))
theorem kW {a:Addr} {xs:Array Value} {m:Nat} {sl:Array (Option Value)} {Q:Option Value->Shared->Prop} (hx:s.heap.get? a=some { cls:=.type "list", dict:=none,data:=.seq xs m,slots:=sl }) (hA:A.handled=none)
  (h:∀h' tk,(∀c o,s.heap.get? c=some o->h'.get? c=some o)->Q none { s with heap:=h',toks:=tk }):wpAny (model prog w) A (getAttr? (.ref a) "keys") Q E s:=by
 obtain⟨hp,g,d,tk,os⟩:=s;have hT:∀tk',(⟨hp,g,d,tk',os⟩:Shared).TypeIs (.ref a) "list" := λ_=>⟨_,hx,rfl⟩;have f1:=sub_AttributeError;have f3:=F.slot_list_getattribute.lookup;have f4:=F.slot_list_getattribute.bind (.ref a);have f5:=eP;unfold getAttr? getAttrBy? getAttrBy
 repeat (any_goals (first|assumption|exact hT _|((with_reducible show wpAny _ _ (call (Value.builtin "list.__getattribute__") _ _) _ _ _);refine call_meets F.slot_list_getattribute (hT _) cW (F.args_list_getattribute_2 _ _) (fE a xs m sl _) ⟨hx,hA,λh' tk' e hx'=>?_⟩)|wp_step))
 obtain⟨t',u',he⟩:=hx'.there;show wpAny _ _ (getattributeRaised _ _ _ _ _ _ _) _ _ _;unfold getattributeRaised
 repeat (any_goals (first|assumption|wp_step))
 all_goals exact h _ _ hx'.keeps
end
section
variable {prog:Program} {w:World} {K:Type} [DecidableEq K] {knd:KeyKind prog w K} {A:Around} {R:Result->Shared->Prop}
def fK (h:Heap) (xs:Array Value) (ka va:Nat->Value) (it d:Addr):Prop:=∀k,k<xs.size->∃(T:Addr) (o:Obj) (n:Nat),xs[k]?=some (.ref T)/\h.get? T=some o/\o.cls=.type "tuple" /\ o.data=.seq #[ka k,va k] n/\T≠it/\T≠d
theorem fK.keep {h h':Heap} {xs:Array Value} {ka va:Nat->Value} {it d:Addr} (p:fK h xs ka va it d) (hk:∀c o,c≠it->c≠d->h.get? c=some o->h'.get? c=some o):fK h' xs ka va it d:=λk hlt =>
 let ⟨T,o,n,e1,e2,e3,e4,e5,e6⟩:=p k hlt;⟨T,o,n,e1,hk T o e5 e6 e2,e3,e4,e5,e6⟩
theorem lb {it l d:Addr} {xs:Array Value} {ka va:Nat->Value} (nid:d≠it) (nil:l≠it) (ndl:l≠d) (hh:A.handled=none) (ks:Nat->K) (hk:∀k,k<xs.size->knd.is (ks k) (ka k)=true) (hsz:xs.size<=sizeLine) :
  ∀(m k:Nat) (i:Int) (s:Shared) (kvs:List (K × Value)),xs.size-k=m->k<=xs.size->s.heap.IsListIter it l k->s.heap.IsList l xs->fK s.heap xs ka va it d->s.heap.DictOf knd d kvs->kvs.length<=k ->
  (∀h' tk,h'.DictOf knd d (cv kvs ((List.range (xs.size-k)).map λj=>(ks (k+j),va (k+j))))->(∀c o,c≠it->c≠d->s.heap.get? c=some o->h'.get? c=some o)->R (.ok (.ret .none)) { s with heap:=h',toks:=tk }) ->
  codeAny (model prog w) A (.builtin "dict.update.loop" ⟨[.ref d,.ref it,rawInt i,.none],[]⟩) R s:=by
 intro m
 induction m with
 | zero =>
  intro k i s kvs hm hkk hit hl hp hd hkl hR;have hin:k=xs.size:=by exact rC hm hkk
  refine codeAny_builtin dP ?_;rw[Around.under_plainId bP _];show wpAny _ A.in1 (pyNext (.ref it) >>= _) _ _ s;refine Qa (wpAny_pyNext_list_end (show A.in1.handled=none from hh) hit hl (by rw[hin];simp) λh' hkeep=>?_);show wpAny _ _ (Builtin.Dict.addKeywords d [] >>= _) _ _ _;refine Qa (Qg (Qg ?_))
  have hd':h'.DictOf knd d kvs:=by
   obtain⟨o,es,ep,e1,r⟩:=hd;exact⟨o,es,ep,hkeep d o nid e1,r⟩
  refine hR h' s.toks ?_ λc o c1 _ e=>hkeep c o c1 e;rw[hm];exact hd'
 | succ m ih =>
 intro k i s kvs hm hkk hit hl hp hd hkl hR;have hlt:k<xs.size:=by exact rB hm hkk
 obtain⟨T,oT,n,hx,hT,hTc,hTd,nTi,nTd⟩:=hp k hlt;refine codeAny_builtin dP ?_;rw[Around.under_plainId bP _];show wpAny _ A.in1 (pyNext (.ref it) >>= _) _ _ s;refine Qa (wpAny_pyNext_list_item hit hl hx λh1 hit1 hs1=>?_);have k1:∀c o,c≠it->s.heap.get? c=some o->h1.get? c=some o:=λc o n1 e=>hs1.extBut c o n1 e
 have hd1:h1.DictOf knd d kvs:=by
  obtain⟨o,es,ep,e1,r⟩:=hd;exact⟨o,es,ep,k1 d o nid e1,r⟩
 have hT1:=k1 T oT nTi hT;refine Qa (QN ?_);have hTy:(Shared.TypeIs { s with heap:=h1 } (.ref T) "tuple"):=⟨_,hT1,hTc⟩;refine Qa (wpAny_tryCatch ?_);unfold Builtin.Dict.pairItems;refine Qa (wpAny_typeOf hTy ?_);rw[QH (by decide)];refine Qa (wpAny_seqItems hT1 hTd (Qg ?_));show wpAny _ _ (holding [ka k,va k] (dictSet d (ka k) (va k))) _ _ _;refine QN (wpAny_dictSet_pairs (hk k hlt) hd1 (λh2 hd2 hs2=>?_) (by exact rq hsz hkl hlt));have k2:∀c o,c≠it->c≠d->s.heap.get? c=some o->h2.get? c=some o:=λc o n1 n2 e=>hs2.extBut c o n2 (k1 c o n1 e);refine Qg ⟨plainId_quiet bP _,ih (k+1) (i+1) _ _ (by exact rm hm hlt) (by exact rk hlt) (hit1.extBut hs2.extBut (QT nid)) (hl.at λo e=>k2 l o nil ndl e) (hp.keep k2) hd2 (QQ (fQ _ _ _) (by exact tZ hkl)) λh3 tk hd3 hk3=>?_⟩;refine hR h3 tk ?_ λc o c1 c2 e=>hk3 c o c1 c2 (k2 c o c1 c2 e);rw[show xs.size-k=(xs.size-(k+1))+1 from by exact t0 hm hlt,List.range_succ_eq_map,Qs,List.map_map];have e:(List.range (xs.size-(k+1))).map (λj=>(ks (k+1+j),va (k+1+j)))=(List.range (xs.size-(k+1))).map ((λj=>(ks (k+j),va (k+j)))∘Nat.succ):=List.map_congr_left λj _=>by simp[Function.comp,Nat.add_assoc,Nat.add_comm 1]
 rw[e]at hd3;exact hd3
variable {Q E:A0}
theorem lj {s:Shared} {l:Addr} {xs:Array Value} {ka va:Nat->Value} (hh:A.handled=none) (ks:Nat->K) (hk:∀k,k<xs.size->knd.is (ks k) (ka k)=true) (hsz:xs.size<=sizeLine) (hl:PlainL s.heap l xs)
  (hp:∀k,k<xs.size->∃(T:Addr) (o:Obj) (n:Nat),xs[k]?=some (.ref T)/\s.heap.get? T=some o/\o.cls=.type "tuple" /\ o.data=.seq #[ka k,va k] n)
  (h:∀h' tk,h'.DictOf knd s.heap.objs.size (cv [] ((List.range xs.size).map λj=>(ks j,va j)))->(∀c o,s.heap.get? c=some o->h'.get? c=some o)->Q (.ref s.heap.objs.size) { s with heap:=h',toks:=tk }) :
  wpAny (model prog w) A (call (.type "dict") [.ref l]) Q E s:=by
 refine callType_codes (Q₁:=λobj s1=>obj=.ref s.heap.objs.size/\s1={ s with heap:=s.heap.push { cls:=.type "dict", data:=.dict #[] } }) fw (di _) F.entry_dict_init (dZ _ ⟨rfl,rfl⟩) ?_;rintro obj s1 ⟨rfl,rfl⟩;have up:∀c o,s.heap.get? c=some o->(s.heap.push { cls:=.type "dict", data:=.dict #[] }).get? c=some o:=λc o e=>Qc _ e;have hnew:(s.heap.push { cls:=.type "dict", data:=.dict #[] }).DictOf knd s.heap.objs.size []:=Heap.DictOf.new s.heap;have lt:∀{c o},s.heap.get? c=some o->s.heap.objs.size≠c:=λe=>Nat.ne_of_gt (Qk e);obtain⟨⟨c0,d0,dt0,sl0⟩,n0,ho,hoc,hod,hos⟩:=hl;have hoc:c0=.type "list" := hoc;have hod:d0=none:=hod;have hos:dt0=.seq xs n0:=hos;subst hoc hod hos;refine⟨hnew.typeIs,F.args_dict_init_2 _ _,?_⟩;unfold Builtin.«dict.__init__»;refine Qa ?_;unfold Builtin.Dict.selfAndRest;refine Qa (wpAny_notOrdered_dict hnew.typeIs ?_);show wpAny _ _ (pure (s.heap.objs.size,[Value.ref l])) _ _ _;refine Qg ?_;show wpAny _ _ (Builtin.Dict.updateFrom "dict.__init__" s.heap.objs.size (.ref l) [] .none) _ _ _;unfold Builtin.Dict.updateFrom;have hzT:Shared.TypeIs { s with heap:=s.heap.push { cls:=.type "dict", data:=.dict #[] } } (.ref l) "list" := ⟨_,up _ _ ho,rfl⟩;refine Qa (wpAny_typeOf hzT ?_);rw[QH (by decide)];refine Qa (kW (up _ _ ho) (show A.in1.in1.handled=none from hh) λh3 tk k3=>?_);simp only[Option.isNone_none,if_true];refine Qa (wpAny_rule ?_);have hL3:h3.IsList l xs:=⟨_,k3 _ _ (up _ _ ho),rfl,n0,rfl⟩
 have hd3:h3.DictOf knd s.heap.objs.size []:=by
  obtain⟨o,es,ep,e1,r⟩:=hnew;exact⟨o,es,ep,k3 _ _ e1,r⟩
 obtain⟨od,es,ep,hd3',r3⟩:=id hd3;refine Qa (wpAny_pyIter_list hL3 ?_);refine Qg ⟨plainId_quiet bP _,?_⟩;have up4:∀c o,h3.get? c=some o->(h3.push { cls:=.type "list_iterator", data:=.fields #[.ref l,.int 0 0] }).get? c=some o:=λc o e=>Qc _ e;have lt3:∀{c o},h3.get? c=some o->c≠h3.objs.size:=λe=>Qy (Qk e);refine lb (it:=h3.objs.size) (l:=l) (d:=s.heap.objs.size) (ka:=ka) (va:=va) (lt3 hd3') (lt3 (k3 _ _ (up _ _ ho))) (lt ho).symm (show A.in1.handled=none from hh) ks hk hsz xs.size 0 0 _ [] (by simp) (QZ _) ⟨_,Qn _ rfl,rfl,rfl⟩ (hL3.at λo e=>up4 _ o e) (λk hlt=>?_) ⟨od,es,ep,up4 _ _ hd3',r3⟩ (Qh _) λh5 tk5 hd5 hk5=>?_
 ·obtain⟨T,o,n,e1,e2,e3,e4⟩:=hp k hlt;exact⟨T,o,n,e1,up4 _ _ (k3 _ _ (up _ _ e2)),e3,e4,lt3 (k3 _ _ (up _ _ e2)),(lt e2).symm⟩
 refine⟨rfl,h h5 tk5 (by simpa using hd5) λc o e=>hk5 c o (lt3 (k3 _ _ (up _ _ e))) (lt e).symm (up4 _ _ (k3 _ _ (up _ _ e)))⟩
end
end LZ
namespace L2
open PySem PySem.Spec PyProof.Rows
def pB (H:Hp) (v:V) (p:Str × V):Prop:=∃b,v=.ref b/\H b=some (.tup [.str p.1,p.2])
def cm (ps:List (Str × V)):List (Key × V):=ps.map λp=>((Sum.inr p.1:Key),p.2)
section
variable {X:Cx} {a:Expr} {ta:TA} {p1 pos1:Pos}
def iJ (K:PySem.W.Frag) (ta:TA):TE:=λσ H Q=>ta σ H λvs H1=>∃l xs ps,vs=[.ref l]/\SqL K H1 l xs/\xs.length<10000/\Paired (pB H1) xs ps/\∀d,H1 d=none->Q (.ref d) (upd H1 d (.dK (bj [] (cm ps))))
theorem rg {H:Hp}:∀{xs:List V} {ps:List (Str × V)},Paired (pB H) xs ps->∀(j:Nat) x,xs[j]?=some x->∃y,ps[j]?=some y/\pB H x y
 | _,_,.nil=>λj x e=>by simp at e
 | _,_,.cons (a:=a) (b:=b) h t=>λj x e=>by
  cases j with
  | zero=>simp at e;subst e;exact⟨_,rfl,h⟩
  | succ j=>simp at e;obtain⟨y,e',f⟩:=rg t j x e;exact⟨y,by simpa using e',f⟩
theorem n_ {H:Hp}:∀{xs:List V} {ps:List (Str × V)},Paired (pB H) xs ps->xs.length=ps.length
 | _,_,.nil=>rfl
 | _,_,.cons h t=>by simp[n_ t]
theorem mB (hc:X.calm=true) (hg:Gl X "dict") (hm:X.mg "dict" = none) (ha:PA X [a] ta) (hs:starEach [a] X.env=[(false,eval a X.env)]:=by rfl):PE X (.Call (.Name "dict" p1) [a] [] pos1) (iJ X.K ta):=by
 intro pins s σ H Q I h;refine Call_ (cO I hg hm PyProof.Rows.boot_dict (Q3 (thn (ha pos1 pins s σ H _ I h) λus s1 ⟨vs,H1,I1,r1,q1⟩=>?_) hs rfl));obtain⟨l,xs,ps,e,hl,hsm,hpr,q⟩:=q1;subst e;obtain⟨u1,e,ru1⟩:=dg r1;subst e;cases ru1;obtain⟨its,rv,pl,_⟩:=I1.list hl;have hits:its.length=xs.length:=rv.length.symm;have hps:=n_ hpr;have big:10000<sizeLine:=by decide
 have each:∀k,∃g:Value × Value × Str,k<its.length->∃(T:Addr) (o:Obj) (m:Nat) (v:V) (t:Tok),its[k]?=some (.ref T)/\s1.heap.get? T=some o/\o.cls=.type "tuple" /\ o.data=.seq #[g.1,g.2.1] m/\g.1=.str g.2.2 t/\ps[k]?=some (g.2.2,v)/\aU v g.2.1:=λk=>by
  by_cases hk:k<its.length
  ·have hx:xs[k]?=some (xs[k]'(by exact om3 hits hps hk)):=by simp
   obtain⟨y,hy,b,eb,hb⟩:=rg hpr k _ hx;obtain⟨u,hu,ru⟩:=rv.get hx;rw[eb]at ru;cases ru;obtain⟨its2,rv2,⟨o,e1,e2,n,e3⟩,_⟩:=I1.tuple (SqT.of hb);obtain⟨w1,w2,e4,r1,r2⟩:=jp rv2;subst e4;obtain⟨t,et⟩:=r1;subst et;exact⟨(.str y.1 t,w2,y.1),λ_=>⟨b,o,n,y.2,t,hu,e1,e2,e3,rfl,hy,r2⟩⟩
  exact⟨(.none,.none,Str.empty),λh=>absurd h hk⟩
 let g:=λk=>Classical.choose (each k);have hg':∀k,k<its.length->∃(T:Addr) (o:Obj) (m:Nat) (v:V) (t:Tok),its[k]?=some (.ref T)/\s1.heap.get? T=some o/\o.cls=.type "tuple" /\ o.data=.seq #[(g k).1,(g k).2.1] m/\(g k).1=.str (g k).2.2 t/\ps[k]?=some ((g k).2.2,v)/\aU v (g k).2.1:=λk=>Classical.choose_spec (each k);refine LZ.lj (knd:=bu X.prog X.w) (l:=l) (xs:=its.toArray) (ka:=λk=>(g k).1) (va:=λk=>(g k).2.1) (I1.ok.hd hc) (λk=>(Sum.inr (g k).2.2:Key)) (λk hk=>?_) (by rw[Qe,hits];omega) pl (λk hk=>?_) λh3 tk hd3 kept=>?_
 ·rw[Qe]at hk;obtain⟨T,o,m,v,t,_,_,_,_,e5,_⟩:=hg' k hk;show (bu X.prog X.w).is _ (g k).1=true;rw[e5];exact dD _ _ _ _
 ·rw[Qe]at hk;obtain⟨T,o,m,v,t,e1,e2,e3,e4,_⟩:=hg' k hk;exact⟨T,o,m,by simpa using e1,e2,e3,e4⟩
 rw[Qe]at hd3
 have kv:KV (cm ps) ((List.range its.length).map λj=>((Sum.inr (g j).2.2:Key),(g j).2.1)):=by
  unfold cm;refine d9 (by simp[hits,hps]) λj x y e1 e2=>?_;rw[Ql]at e1 e2
  have hj:j<its.length:=by
   cases e:(List.range its.length)[j]? with
   | none=>rw[e]at e2;cases e2
   | some q=>have:=(Qf.mp e).1;simpa using this
  obtain⟨T,o,m,v,t,_,_,_,_,_,e6,e7⟩:=hg' j hj;rw[e6]at e1;rw[List.getElem?_range hj]at e2;cases e1;cases e2;exact⟨rfl,e7⟩
 have hnew:H1 s1.heap.objs.size=none:=I1.hok.fresh (Qh _)
 have I3:Inv X pins σ (upd H1 s1.heap.objs.size (.dK (bj [] (cm ps)))) { s1 with heap:=h3,toks:=tk }:=I1.laid kept (Qh _) ⟨by
   have:=cN (cm ps) [];have e:(cm ps).length=ps.length:=by unfold cm;simp
   simp only[List.length_nil]at this
   omega,beq_eq_false_iff_ne.mpr (by
   have:@LT.lt Nat _ sysModules s1.heap.objs.size:=I1.big;intro e;have e':@Eq Nat s1.heap.objs.size sysModules:=e
   omega),_,kU kv .nil,hd3⟩
 exact⟨.ref s1.heap.objs.size,_,I3,rfl,q _ hnew⟩
end
section
variable {X:Cx}
def sm:V->List V->Hp->VK->Prop:=λx vs H Q=>∃(l:Addr) (xs:List Str) (y:Str) (j:Nat),x=.ref l/\vs=[.str y]/\H l=some (.lst (xs.map V.str))/\xs[j]?=some y/\(∀m,m<j->xs[m]?≠some y)/\xs.length<=100000/\Q (.int j) H
theorem oQ:MtR X "list.index" sm:=by
 intro pins s σ H x vs v us Q I rx rv h;obtain⟨l,xs,y,j,rfl,rfl,hH,hj,hno,hz,q⟩:=h;cases rx;obtain⟨u,rfl,t,rfl⟩:=dg rv;obtain⟨z,its,n,r,hl,e⟩:=I.lstM hH;have sa:=d5 r;have hlen:its.length=xs.length:=by rw[<-hl,Qb]
 have hjl:j<xs.length:=(Qf.mp hj).1
 have at':∀m (hm:m<its.toArray.size),isStrOf y its.toArray[m]=(xs[m]'(by rw[Qe]at hm;exact mC hlen hm)==y):=λm hm=>by
  rw[Qe]at hm;obtain⟨u,hu,ru⟩:=r.get (i:=m) (show (xs.map V.str)[m]?=some (.str (xs[m]'(by exact mC hlen hm))) from by rw[Ql,Qd (by exact mC hlen hm)];rfl);obtain⟨tu,eu⟩:=ru;subst eu
  have e2:its.toArray[m]=.str (xs[m]'(by exact mC hlen hm)) tu:=by
   have:=(Qf.mp hu).2;simpa using this
  rw[e2];rfl
 refine call_meets F.slot_list_index ⟨_,e,rfl⟩ F.entry_list_index (F.args_list_index_2 _ _) (MeetsSeq.list_index l its.toArray n (.str y t) (isStrOf y) (λv hv=>eq_isStrOf y t sa v (by simpa using hv)) j (by rw[Qe];exact ou hlen hjl) (by omega) ?_ (λm hm hmj=>?_)) ⟨e,?_⟩
 ·rw[at' j (by rw[Qe];exact ou hlen hjl)];have:=(Qf.mp hj).2;rw[this];simp
 ·rw[at' m hm];rw[Qe]at hm;have h1:=hno m hmj;rw[Qd (by exact mC hlen hm)]at h1;simpa using h1
 exact⟨.int j,H,I.tok _,⟨_,rfl⟩,q⟩
end
section
variable {X:Cx} {tg:Expr}
end
end L2
set_option maxHeartbeats 1000000
namespace XE
open PySem PySem.SeqAt PySem.MeetsSeq
open AutoSeq1 (wpAny_loadPart')
theorem gT (l:Addr) (es:Array DictEntry) (n:Nat) (dd:Option Addr) (sl:Array (Option Value)) (b:Str) (u:Tok) :
  Meets (Builtin.«dict.__eq__» ⟨[.ref l,.str b u],[]⟩) (λ_ R s=>s.heap.get? l=some { cls:=.type "dict", dict:=dd,data:=.dict es n,slots:=sl }/\R (.ok (.ret .notImplemented)) s) :=
 .of_wp λprog w A R s h=>by
  obtain⟨hp,g,d,tk,os⟩:=s;obtain⟨hl,h⟩:=h;have hsub:isSubtype (.type "str") (.type "dict")=pure false:=by rw[isSubtype_type];kernel_rfl
  wp_walk using wpAny_loadPart' hl,wpAny_load hl
  exact⟨_,rfl,h⟩
theorem eJ (b:Str) (u:Tok) (l:Addr) (c:Value) (es:Array DictEntry) (n:Nat) (dd:Option Addr) (sl:Array (Option Value)) :
  Meets (Builtin.«str.__eq__» ⟨[.str b u,.ref l],[]⟩) (λ_ R s=>s.heap.get? l=some { cls:=c,dict:=dd,data:=.dict es n,slots:=sl }/\R (.ok (.ret .notImplemented)) s) :=
 .of_wp λprog w A R s h=>by obtain⟨hp,g,d,tk,os⟩:=s;obtain⟨hl,h⟩:=h;wp_walk using wpAny_loadPart' hl,wpAny_load hl;exact⟨_,rfl,h⟩
section
variable {A:Around} {s:Shared}
variable {sl:Array (Option Value)} {es:Array DictEntry}
theorem jJ {l:Addr} {n:Nat} {dd:Option Addr} (b:Str) (u:Tok) (ho:s.heap.get? l=some { cls:=.type "dict", dict:=dd,data:=.dict es n,slots:=sl }) (hu:A.units<cLine):RcAt A s (.str b u) (.ref l) false:=λprog w E Q h=>by
 exact rc_eq_decline_or (k:=false) (typeIs_str s b u) ⟨_,ho,rfl⟩ (by decide) F.sub_dict_str F.slot_str_eq F.slot_dict_eq_refl
  (λ_ hq=>call_meets F.slot_str_eq (typeIs_str s b u) F.entry_str_eq (F.args_str_eq_2 _ _) (eJ b u l (.type "dict") es n dd sl) ⟨ho,hq⟩)
  (λ_ hq=>call_meets F.slot_dict_eq_refl ⟨_,ho,rfl⟩ F.entry_dict_eq (F.args_dict_eq_2 _ _) (gT l es n dd sl b u) ⟨ho,hq⟩)
  (λ_ hq=>wpAny_of_eq (rfl:isSame (.str b u) (.ref l)=pure false) hq) (.inr hu) h
theorem jY {l:Addr} {n:Nat} {dd:Option Addr} (b:Str) (u:Tok) (ho:s.heap.get? l=some { cls:=.type "dict", dict:=dd,data:=.dict es n,slots:=sl }) (hu:A.units<cLine):EqAt A s (.str b u) (.ref l) false:=λprog w E Q h=>by
 unfold eqBool;refine QN ?_;refine wpAny_ite_split (λhab=>absurd (eq_of_beq hab) nofun) (λ_=>?_);exact Qa (jJ b u ho hu prog w E _ (wpAny_truthy_bool h))
end
end XE
namespace L2
open PySem PySem.Spec PyProof.Rows PySem.Calls
def chs (z:Str):List V:=z.cps.toList.map λc=>.str ⟨#[c]⟩
theorem fN {z:Str} {acc:Array Value} (h:ItemsOf (SignAt z) acc z.cps.size):aM (chs z) acc.toList:=by
 have key:∀(cs:List Nat) (us:List Value),cs.length=us.length->(∀(j:Nat) (u:Value),us[j]?=some u->∃c t,cs[j]?=some c/\u=.str ⟨#[c]⟩ t)->aM (cs.map λc=>V.str ⟨#[c]⟩) us:=by
  intro cs
  induction cs with
  | nil =>
   intro us hl _
   cases us with
   | nil=>exact .nil
   | cons u us=>simp at hl
  | cons c cs ih =>
  intro us hl h
  cases us with
  | nil=>simp at hl
  | cons u us =>
  refine .cons ?_ (ih us (by simpa using hl) λj u' q=>?_)
  ·obtain⟨c',t,e1,e2⟩:=h 0 u rfl;have:c=c':=by simpa using e1
   subst this;exact⟨t,e2⟩
  obtain⟨c',t,e1,e2⟩:=h (j+1) u' (by simpa using q);exact⟨c',t,by simpa using e1,e2⟩
 refine key _ _ (by simp[h.1]) λj u q=>?_;obtain⟨c,t,e1,e2⟩:=h.2 j u (by simpa using q);exact⟨c,t,by simpa using e1,e2⟩
section
variable {X:Cx}
theorem mf (z:Str):(chs z).length=z.length:=by
 unfold chs;rw[Qb];exact Qz
theorem gW (hc:X.calm=true):cD X (.type "list") (λxs H Q=>∃z,xs=[.str z]/\z.length<=sizeLine/\∀l,H l=none->Q (.ref l) (upd H l (.lst (chs z)))):=by
 intro pins s σ H xs us Q I r h;obtain⟨z,rfl,hz,q⟩:=h;obtain⟨u,rfl,t,rfl⟩:=dg r;refine call_list_str (I.ok.hd hc) z t (λh' tk acc c' kp e it=>?_) hz;have rr:=fN it;exact⟨.ref s.heap.objs.size,_,I.laid (t':=tk) kp (Qh _) (show ba X.prog X.w _ h' _ (.lst (chs z)) from⟨by rw[mf];exact hz,acc.toList,c',rr,by simpa using e⟩),rfl,q _ (I.hok.fresh (Qh _))⟩
theorem gE (hc:X.calm=true):cD X (.type "tuple") (λxs H Q=>∃z,xs=[.str z]/\z.length<=sizeLine/\∀l,H l=none->Q (.ref l) (upd H l (.tup (chs z)))):=by
 intro pins s σ H xs us Q I r h;obtain⟨z,rfl,hz,q⟩:=h;obtain⟨u,rfl,t,rfl⟩:=dg r;refine call_tuple_str (I.ok.hd hc) z t (λh' tk acc kp it=>?_) hz;have rr:=fN it;have I1:Inv X pins σ H { s with heap:=h',toks:=tk }:=I.kept (t':=tk) kp
 have I2:Inv X pins σ (upd H h'.objs.size (.tup (chs z))) { s with heap:=h'.push { cls:=.type "tuple", data:=.seq acc },toks:=tk } :=
  I1.laid (t':=tk) (λb o e=>Qc _ e) (Qh _) (show ba X.prog X.w _ _ _ (.tup (chs z)) from⟨by rw[mf];exact hz,acc.toList,rr,by simpa using IsTup.new h' acc⟩)
 exact⟨.ref h'.objs.size,_,I2,rfl,q _ (I1.hok.fresh (Qh _))⟩
def j_ (K:PySem.W.Frag) (H:Hp) (x:V):Prop:=∃a,x=.ref a/\((∃xs,SqL K H a xs)\/(∃xs,SqT K H a xs)\/∃kvs,H a=some (.dK kvs))
theorem pq {pins:A1} {σ:St} {H:Hp} {s:Shared} {A:Around} {x:V} {v:Value} (I:Inv X pins σ H s) (h:j_ X.K H x) (rx:aU x v) (hu:A.units<cLine) (n:Str) (t:Tok):SeqAt.EqAt A s (.str n t) v false:=by
 obtain⟨a,rfl,h⟩:=h;cases (show v=Value.ref a from rx);rcases h with⟨xs,h⟩|⟨xs,h⟩|⟨kvs,h⟩
 ·obtain⟨its,_,pl,_⟩:=I.list h;exact SeqAt.EqAt.str_list n t pl.isList hu
 ·obtain⟨its,_,pl,_⟩:=I.tuple h;exact SeqAt.EqAt.str_tuple n t pl hu
 obtain⟨_,_,vs,_,p⟩:=(show ba X.prog X.w H s.heap a (.dK kvs) from I.hok a _ h);obtain⟨o,es,ep,h1,h2,h3,_⟩:=p;obtain⟨oc,od,odt,osl⟩:=o;have e1:oc=.type "dict" := h2.1;subst e1;have e2:odt=.dict es ep:=h3;subst e2;exact XE.jY n t h1 hu
def lH (K:PySem.W.Frag):R2:=λx y H Q=>∃(p:Addr) (ns:List Str),y=.ref p/\SqL K H p (ns.map V.str)/\((j_ K H x/\Q (.bl true) H)\/(cC x=true/\Q (.bl (!inV x (ns.map V.str))) H))
theorem gO {k:Nat} (hr:Room k X.A):OpR X (compareOp .NotIn) (lH X.K):=by
 intro pins s σ H x y v u Q I rx ry h;obtain⟨p,ns,rfl,hq,h⟩:=h;rcases h with⟨hb,q⟩|⟨fx,q⟩
 ·cases ry;obtain⟨its,r,pl,hz⟩:=I.list hq;have hun:=hr.units;refine SeqAt.notIn_listAt (λ_=>false) pl.isList (λw hw=>?_) ⟨.bl _,H,I,rfl,?_⟩
  ·obtain⟨n,t,rfl⟩:∃n t,w=Value.str n t:=by
    have hw':w∈its:=by simpa using hw
    have go:∀{ns:List Str} {us:List Value},aM (ns.map V.str) us->∀w∈us,∃n t,w=Value.str n t:=by
     intro ns
     induction ns with
     | nil=>intro us r w hw;cases r;cases hw
     | cons n ns ih =>
     intro us r w hw
     cases r with
     | @cons _ u _ us r1 r2 =>
     obtain⟨t,rfl⟩:=r1;rcases Q5.mp hw with rfl|hw
     ·exact⟨n,t,rfl⟩
     exact ih r2 w hw
    exact go r w hw'
   exact pq I hb rx (by show X.A.units+1<cLine;omega) n t
  have:(its.toArray.any λ_=>false)=false:=by simp
  first|(rw[this];exact q)|(simpa using q)
 refine jc pins s σ H x (.ref p) v u Q I rx ry ⟨p,_,rfl,.inl hq,fx,?_,q⟩;rw[xg];intro y hy;obtain⟨n,_,rfl⟩:=QL.mp hy;rfl
theorem ge {K:PySem.W.Frag} {k:Nat} (h:X.K=K) (hr:Room k X.A):OpR X (compareOp .NotIn) (lH K):=by subst h;exact gO hr
end
end L2
set_option maxHeartbeats 4000000
namespace L2
open PySem PySem.Spec PyProof.Rows
section
variable {X:Cx}
def sj:V->List V->Hp->VK->Prop:=λx vs H Q=>∃z:Str,x=.str z/\vs=[]/\z.length<=100000/\∀y:Str,y.length<=300000->Q (.str y) H
theorem oP:MtR X "str.upper" sj:=by
 intro pins s σ H x vs v us Q I rx rv h;obtain⟨z,rfl,rfl,hz,q⟩:=h;obtain⟨t,rfl⟩:=rx;cases rv;refine PyProof.Rows.SCL.upper (by omega) λhl=>?_;exact⟨.str _,H,I.tok _,⟨_,rfl⟩,q _ (by omega)⟩
end
variable {D a c b cell fa T:Addr} {H1 H:Hp}
theorem comp_rangeF {σ0:St} {g:TG} {te:TE} {tt:L2.TT} {QD:Hp->Prop} {lo:Int} {n:Nat} (Pv:Nat->Hp->List V->Prop) (h0:Pv 0 (upd H1 D (.lst [])) []) (hD:∀i H ys,Pv i H ys->H D=some (.lst ys))
  (hs:∀i H ys,i<n->Pv i H ys->g (.int (lo+i)) σ0 H λσ2 H2=>wk σ0 σ2/\tt σ2 H2 λb H3=>if b=true then te σ2 H3 (bN Pv n D i ys) else ∃m',m'<n-i/\(m'=n-(i+1)/\i+1<=n/\Pv (i+1) H3 ys)) (hd:∀H ys,Pv n H ys->QD H) :
  ∃W:Nat->Nat->Hp->List V->Prop,(∃m,W 0 m (upd H1 D (.lst [])) [])/\∀i m H ys,W i m H ys->H D=some (.lst ys)/\(((Itr lo n).stop i H/\QD H)\/((Itr lo n).go i H/\∀x H',(Itr lo n).yld i H x H'->g x σ0 H' λσ2 H2=>wk σ0 σ2/\tt σ2 H2 λb H3 =>
   if b=true then te σ2 H3 λv H4=>H4 D=some (.lst ys)/\ys.length<sizeLine/\∃m',m'<m/\W (i+1) m' (upd H4 D (.lst (ys++[v]))) (ys++[v]) else ∃m',m'<m/\W (i+1) m' H3 ys)):=by
 refine⟨λi m H ys=>m=n-i/\i<=n/\Pv i H ys,⟨n,by simp,QZ _,h0⟩,?_⟩;rintro i m H ys ⟨rfl,hi,p⟩;refine⟨hD i H ys p,?_⟩;by_cases hlt:i<n
 ·refine .inr ⟨hlt,λx H' y=>?_⟩;obtain⟨e,y⟩:=y;subst e y;exact hs i _ ys hlt p
 have e:i=n:=by exact om0 hi hlt
 subst e;exact .inl ⟨Qh _,hd H ys p⟩
theorem le {K:PySem.W.Frag} {σ0:St} {g:TG} {te:TE} {tt:TT} {QD:Hp->Prop} {xs:List V} (Pv:Nat->Hp->List V->Prop) (h0:Pv 0 (upd H1 D (.lst [])) []) (hD:∀i H ys,Pv i H ys->H D=some (.lst ys)/\SqL K H a xs)
  (hs:∀i x H ys,xs[i]?=some x->Pv i H ys->g x σ0 H λσ2 H2=>wk σ0 σ2/\tt σ2 H2 λb H3=>if b=true then te σ2 H3 (bN Pv xs.length D i ys) else ∃m',m'<xs.length-i/\(m'=xs.length-(i+1)/\i+1<=xs.length/\Pv (i+1) H3 ys)) (hd:∀H ys,Pv xs.length H ys->QD H) :
  ∃W:Nat->Nat->Hp->List V->Prop,(∃m,W 0 m (upd H1 D (.lst [])) [])/\∀i m H ys,W i m H ys->H D=some (.lst ys)/\(((Itl K a).stop i H/\QD H)\/((Itl K a).go i H/\∀x H',(Itl K a).yld i H x H'->g x σ0 H' λσ2 H2=>wk σ0 σ2/\tt σ2 H2 λb H3 =>
   if b=true then te σ2 H3 λv H4=>H4 D=some (.lst ys)/\ys.length<sizeLine/\∃m',m'<m/\W (i+1) m' (upd H4 D (.lst (ys++[v]))) (ys++[v]) else ∃m',m'<m/\W (i+1) m' H3 ys)):=by
 refine⟨λi m H ys=>m=xs.length-i/\i<=xs.length/\Pv i H ys,⟨xs.length,by simp,QZ _,h0⟩,?_⟩;rintro i m H ys ⟨rfl,hi,p⟩;obtain⟨d1,d2⟩:=hD i H ys p;refine⟨d1,?_⟩;by_cases hlt:i<xs.length
 ·refine .inr ⟨⟨xs,xs[i],d2,by simp[hlt]⟩,λx H' y=>?_⟩;obtain⟨e,y⟩:=y;subst e;exact hs i x _ ys (y xs d2) p
 have e:i=xs.length:=by exact om0 hi hlt
 subst e;exact .inl ⟨⟨xs,d2,Qh _⟩,hd H ys p⟩
theorem cut_mid {xs:List V} {a b:Nat} (ha:a<=b) (hb:b<=xs.length):cP xs (some (a:Int)) (some (b:Int))=(xs.drop a).take (b-a):=by
 unfold cP;rw[HT.cX,HT.cX,Nat.min_eq_left hb,Nat.min_eq_left (QQ ha hb)]
def gy (H:Hp) (c:Addr):Hp:=λb=>if b=c then none else H b
theorem dQ:gy H c c=none:=QH rfl
theorem bL (h:b≠c):gy H c b=H b:=QB h
theorem ng {o:HO} (h:gy H c b=some o):b≠c/\H b=some o:=by
 by_cases e:b=c
 ·subst e;rw[dQ]at h;cases h
 rw[bL e]at h;exact⟨e,h⟩
def kb (o:Obj):HO:=.frz o (.ext λ_=>True)
section
variable {P:Program} {w:World} {H H1:Hp} {h h1:Heap} {c:Addr} {o:Obj} {fs ex:A3}
theorem qM {H:Hp} (e:h.get? c=some o):ba P w H h c (kb o):=⟨e,trivial,⟨o,e⟩,λ_ _ _ _=>trivial⟩
theorem HOk.drop (x:HOk P w H h) (hc:H c=some (kb o)):HOk P w (gy H c) h:=λb u e=>by
 obtain⟨_,e⟩:=ng e;refine(x b u e).stay (λ_ _ _ q=>q) (λd q=>?_) λd xs q=>?_
 ·rw[bL];exact q;intro z;subst z;rw[hc]at q;cases q
 rw[bL];exact q;intro z;subst z;rw[hc]at q;cases q
theorem HOk.take (x:HOk P w H h) (hc:H c=none) (e:h.get? c=some o):HOk P w (upd H c (kb o)) h:=λb u q=>by
 by_cases hb:b=c
 ·subst hb;rw[af]at q;cases q;exact qM e
 rw[am hb]at q;refine(x b u q).stay (λ_ _ _ r=>r) (λd r=>?_) λd xs r=>?_
 ·rw[am (ax r hc)];exact r
 rw[am (ax r hc)];exact r
theorem Un.back (u:Un fs ex (gy H c) H1 h h1) (hc:H c=some (kb o)) (e:h.get? c=some o) (nf:c∉fs) (nx:c∉ex):Un fs ex H (upd H1 c (kb o)) h h1/\H1 c=none/\h1.get? c=some o:=by
 have h1c:=u.free c o e dQ nx;have e1:=u.keep c o e dQ nf nx;have ne:∀{b v},H b=some v->v≠kb o->b≠c:=λq n z=>by subst z;rw[hc]at q;cases q;exact n rfl
 have nn:∀{b},H b=none->b≠c:=λq z=>by subst z;rw[hc]at q;cases q
 refine⟨⟨λb ob q n hb hx=>?_,λb ob q n hb hx=>?_,λb ob q n hx=>?_,λb ob q hx=>u.there b ob q hx,λb xs q=>?_,λb ob v q=>?_,λb ps q=>?_⟩,h1c,e1⟩
 ·exact u.keep b ob q (by rw[bL (nn n)];exact n) hb hx
 ·exact u.slot b ob q (by rw[bL (nn n)];exact n) hb hx
 ·rw[am (nn n)];exact u.free b ob q (by rw[bL (nn n)];exact n) hx
 ·have nb:=ne q (λz=>by cases z);rw[am nb];exact u.tups b xs (by rw[bL nb];exact q)
 ·by_cases nb:b=c
  ·subst nb;rw[hc]at q;cases q;exact af
  rw[am nb];exact u.frzs b ob v (by rw[bL nb];exact q)
 have nb:=ne q (λz=>by cases z);rw[am nb];exact u.tbls b ps (by rw[bL nb];exact q)
theorem Un.out (u:Un fs ex (upd H c (kb o)) H1 h h1) (k1:HOk P w H1 h1) (hc:H c=none) (e:h.get? c=some o) (nf:c∉fs):Un fs ex H (gy H1 c) h h1/\HOk P w (gy H1 c) h1/\H1 c=some (kb o):=by
 have h1c:=u.frzs c o _ af;have e1:=(k1 c _ h1c).1;refine⟨⟨λb ob q n hb hx=>?_,λb ob q n hb hx=>?_,λb ob q n hx=>?_,λb ob q hx=>u.there b ob q hx,λb xs q=>?_,λb ob v q=>?_,λb ps q=>?_⟩,k1.drop h1c,h1c⟩
 ·by_cases nb:b=c
  ·subst nb;rw[e]at q;cases q;exact e1
  exact u.keep b ob q (by rw[am nb];exact n) hb hx
 ·have nb:b≠c:=λz=>by subst z;exact nf hb
  exact u.slot b ob q (by rw[am nb];exact n) hb hx
 ·by_cases nb:b=c
  ·subst nb;exact dQ
  rw[bL nb];exact u.free b ob q (by rw[am nb];exact n) hx
 ·have nb:=ax q hc;rw[bL nb];exact u.tups b xs (by rw[am nb];exact q)
 ·have nb:=ax q hc;rw[bL nb];exact u.frzs b ob v (by rw[am nb];exact q)
 have nb:=ax q hc;rw[bL nb];exact u.tbls b ps (by rw[am nb];exact q)
end
structure Lm where
 qual:Str
 params:Arguments
 body:Expr
 scope:Scope
 pos:Pos
def uY (c:Addr) (qual:Str):HO:=.ext λh=>h.CodeRec (.ref c) qual
def vk (f:Addr) (l:Lm) (cl:List (Str × Addr)) (c:Addr):HO:=.ext λh=>∃pm ctv,h.get? f=some (PySem.W.kla_obj "<lambda>" l.qual l.params l.body l.scope cl pm c ctv)
def entry (l:Lm) (c:Addr):Array Value:=#[rawInt l.pos.line,rawInt l.pos.col,.ref c]
structure Made (T:Addr) (l:Lm) (cl:List (Str × Addr)) (H:Hp) (f c:Addr) (H':Hp):Prop where
 new:H f=none
 fn:H' f=some (vk f l cl c)
 code:H' c=some (uY c l.qual)
 tab:H' T=some (.tbl (entry l c))
 old:∀b o,H b=some o->b≠T->H' b=some o
def fz (base:Heap) (mg:A2):Prop:=∃bm ob,mg "__builtins__" = some (.ref bm)/\bm≠builtinsNs/\bm≠mainGlobals/\base.get? bm=some ob/\ob.cls=.type "module" /\ ob.dict=some builtinsNs/\ob.data=.plain
section
variable {X:Cx}
end
structure LmScope (x y:Str) (sc:Scope):Prop where
 kind:sc.kind=.function
 co:sc.isCoroutine=false
 gen:sc.isGenerator=false
 par:sc.names.lookup x=some .local
 fre:sc.names.lookup y=some .free
 ne:x≠y
 nocell:∀z∈sc.names,z.2≠.cell
 only:∀z,sc.names.lookup z=some .free->z=y
def Calls (P:Program) (w:World) (K:PySem.W.Frag) (mg:A2) (base:Heap) (k:Nat) (f:Addr) (r:V->Hp->VK->Prop):Prop :=
 ∀(X:Cx),X.prog=P->X.w=w->X.K=K->X.mg=mg->X.base=base->eA CX0 X E0->Room k X.A->∀pins s σ H vx u (Q:VK),Inv X pins σ H s->aU vx u->r vx H Q->wpAny (model X.prog X.w) X.A (call (.ref f) [u]) (EP X pins σ Q) X.xe s
variable {y x:Str}
theorem Inv.cellAt {X:Cx} {pins:A1} {s:Shared} {σ:St} {i:Nat} {vy:V} (I:Inv X pins σ H s) (hN:X.N[i]?=some y) (hi:σ[i]?=some (some vy)) (hk:X.env.kindOf y=some .cell) (hv:Vis X.env.scope y) (hl:X.env.cells.lookup y=some cell) :
  ∃o uy,s.heap.get? cell=some o/\o.data=.cell (some uy)/\aU vy uy/\H cell=none:=by
 obtain⟨m,_,loc⟩:=I.loc;obtain⟨u,ru,lk⟩:=loc i y vy hN hi hv;rcases lk with⟨k,_⟩|⟨_,c,e,o,e1,e2⟩
 ·rw[hk]at k;cases k
 rw[hl]at e;cases e;exact⟨o,u,e1,e2,ru,I.freeC y cell hl⟩
structure FunC (K:PySem.W.Frag) (x qual:Str) (st:Stmt) (f:Addr) (fd:FuncData) (c:Addr):Prop where
 ex:∃oc od kV doc pm an ct osl,fd=PySem.W.fnOf x qual (bM st) (bB st) (ap st) .none kV doc pm an (.ref c) ct/\K.lookup f=some ⟨oc,od,.func (PySem.W.fnOf x qual (bM st) (bB st) (ap st) .none kV doc pm an (.ref c) ct),osl⟩/\PySem.W.codeIn K (.ref c) qual=true
section
variable {P:Program} {w:World} {K:PySem.W.Frag} {mg:A2} {base:Heap}
theorem FunC.ok {x qual:Str} {st:Stmt} {f c:Addr} {fd:FuncData} {N ps:List Str} {k:Nat} {sp:Sp} (F:FunC K x qual st f fd c) (S:FnScope N ps (ap st)) (len:∀vs H Q E,sp vs H Q E->vs.length=ps.length)
  (hbody:∀(A:Around) (outer:List Env) (s:Shared) (H:Hp) (vs:List V) (Q:VK) (E:XK),Room k (A.deeper (envOfC qual (ap st) s.heap.objs.size f (.ref c)))->sp vs H Q E ->
   ∃t,PSs (cxOf CX0 P w K mg base N qual (ap st) f (.ref c) A outer s H E).nox (bB st) t/\t { nx:=λ_ H'=>Q .non H',rt:=Q } (start N vs) H):FnOk P w K mg base CX0 (k+1) f fd ps sp:=by
 obtain⟨oc,od,kV,doc,pm,an,ct,osl,rfl,lk,hcd⟩:=F.ex;refine eU lk hcd S len λA outer s H vs Q E hr hsp=>?_;obtain⟨t,h,q⟩:=hbody A outer s H vs Q E hr hsp;exact⟨t,h.nox,q⟩
end
structure OnlyT (tabs:List (Addr × Addr)) (H:Hp):Prop where
 tab:∀q∈tabs,H q.2=some (.tbl #[])
 other:∀b,b∉tabs.map (·.2)->H b=none\/∃o xs,H b=some (.frz o (.lst xs))
theorem mP {P:Program} {w:World} {K:PySem.W.Frag} {mg mb:A2} {CX:CXT} {k:Nat} {fd:FuncData} {sp:Sp} {s₁:Shared} {vs:List Value} {ns:List Int} {tabs:List (Addr × Addr)}
  (KX:K.In s₁.heap) (hns:s₁.heap.Ns mainGlobals mg) (hb:s₁.heap.Ns builtinsNs mb) (hbb:∀x:Str,x ≠ "__name__" -> mb x=bootBuiltins x) (hlim:s₁.heap.NoLimit) (hg:s₁.gens=#[])
  (hbm:fz s₁.heap mg) (hT:PySem.W.TabsAt tabs s₁.heap) (hTK:∀q∈tabs,K.lookup q.2=none)
  (ha:s₁.heap.get? a=some { cls:=.type "list", data:=.seq vs.toArray }) (hi:IntsAre vs ns) (hl:ns.length<=sizeLine) (hr:Room k callerA)
  (F:∀base:Heap,K.In base->base.Ns mainGlobals mg->fz base mg->FnOk P w K mg base CX k fa fd [x] sp) (hbind:∀(s:Shared) (u:Value),BindsTo s fd ⟨[u],[]⟩ [(x,u)])
  (hsp:∀H:Hp,OnlyT tabs H->SqL K H a (ns.map V.int)->sp [.ref a] H (λv _=>v=.bl true) λ_ _ _=>False)
  (hCX:∀H e s',CX [] H s₁ (λ_ _ _=>False) e s'->False) :
  codeAny (model P w) callerA (.call (.ref fa) ⟨[.ref a],[]⟩) (λr s'=>r=.ok (.ret (.bool true))/\OldK s₁.heap s'.heap/\s'.os=s₁.os/\AllBare s'.gens) s₁:=by
 have rv:=hU hi;have lenV:=hi.length
 have naT:a∉tabs.map (·.2):=λq=>by
  obtain⟨r,hr,e⟩:=QL.mp q;have e2:=(hT r hr).2;rw[e,ha]at e2;cases e2
 have core:∀H:Hp,OnlyT tabs H->SqL K H a (ns.map V.int)->HOk P w H s₁.heap->(∀b,H b≠none->b=a\/b∈tabs.map (·.2))->(H a≠none->K.lookup a=none) ->
   codeAny (model P w) callerA (.call (.ref fa) ⟨[.ref a],[]⟩) (λr s'=>r=.ok (.ret (.bool true))/\OldK s₁.heap s'.heap/\s'.os=s₁.os/\AllBare s'.gens) s₁:=by
  intro H hO hS hok hA hK;have base_of:∀{b:Addr} {o:Obj},s₁.heap.get? b=some o->H b=none->(gR s₁.heap H).get? b=some o:=λe n=>oU e n
  have noA:∀{b:Addr} {o:Obj},s₁.heap.get? b=some o->(∀ps n,o.data≠.seq ps n)->(∀ps,o.data≠.fields ps)->H b=none:=λ{b o} e d1 d2=>by
   cases q:H b with
   | none=>rfl
   | some u =>
   rcases hA b (by rw[q];simp) with e'|e'
   ·subst e';rw[ha]at e;cases e;exact absurd rfl (d1 _ _)
   obtain⟨r,hr,er⟩:=QL.mp e';have e2:=(hT r hr).2;rw[er,e]at e2;cases e2;exact absurd rfl (d2 _)
  have nsK:∀{b:Addr} {m:A2},s₁.heap.Ns b m->(gR s₁.heap H).Ns b m:=λ{b m} ⟨o,es,ep,e,d,r⟩=>⟨o,es,ep,base_of e (noA e (λ_ _ z=>by rw[d]at z;cases z) (λ_ z=>by rw[d]at z;cases z)),d,r⟩
  have hKb:K.In (gR s₁.heap H):=λb o e=>base_of (KX b o e) (by
   cases q:H b with
   | none=>rfl
   | some u =>
   rcases hA b (by rw[q];simp) with e'|e'
   ·subst e';rw[hK (by rw[q];simp)]at e;cases e
   obtain⟨r,hr,er⟩:=QL.mp e';have e2:=hTK r hr;rw[er,e]at e2
   cases e2)
  have hM:Mod K mg (gR s₁.heap H):=⟨hKb,nsK hns,⟨mb,nsK hb,hbb⟩,let ⟨mc,h1,h2⟩:=hlim;⟨mc,nsK h1,h2⟩⟩
  have hB:fz (gR s₁.heap H) mg:=by
   obtain⟨bm,ob,b1,b2,b3,b4,b5,b6,b7⟩:=hbm;exact⟨bm,ob,b1,b2,b3,base_of b4 (noA b4 (λ_ _ z=>by rw[b7]at z;cases z) (λ_ z=>by rw[b7]at z;cases z)),b5,b6,b7⟩
  have e0:Env0 P w K mg (gR s₁.heap H) callerA [] s₁ H:=⟨rfl,hM,λb o e=>qo e,Nat.le_of_eq (m8 _ _),trivial,λb hb=>absurd (show b∈([]:A3) from hb) (by simp),hok,.of_eq hg⟩;refine codeAny_mono ((F _ hKb (nsK hns) hB).run callerA [] s₁ H ⟨[.ref a],[]⟩ [.ref a] [.ref a] _ _ hr e0 (hbind s₁ (.ref a)) (.cons rfl .nil) (hsp H hO hS)) λr s' h=>?_
  cases r with
  | error e=>exact(hCX H e s' h).elim
  | ok fl =>
  cases fl with
  | next=>exact False.elim h
  | brk=>exact False.elim h
  | cont=>exact False.elim h
  | ret u =>
  obtain⟨v,H',os,bare,un,hok',r',q⟩:=h;have q':v=.bl true:=q;subst q';obtain rfl:u=Value.bool true:=r';refine⟨rfl,⟨λb o e=>?_,λb o e=>un.there b o e (by simp)⟩,os,bare⟩
  cases q:H b with
  | none=>exact .inl (un.keep b o e q (by intro z;exact absurd (show b∈([]:A3) from z) (by simp)) (by simp))
  | some u =>
  by_cases hb:b∈tabs.map (·.2)
  ·obtain⟨r,hr,er⟩:=QL.mp hb;have t1:=hO.tab r hr;have e2:=(hT r hr).2;have ict:=((hT r hr).1.tab (hT r hr).2).isCodeTable;rw[er]at t1 e2 ict;rw[e]at e2;cases e2;obtain⟨more,t2⟩:=un.tbls b _ t1;have t3:s'.heap.get? b=some { cls:=.none,data:=.fields (#[]++more) }:=hok' b _ t2;exact .inr (.inl ⟨ict,rfl,#[],more,rfl,t3⟩)
  rcases hO.other b hb with z|⟨ob,xs,z⟩
  ·rw[q]at z;cases z
  have z2:=un.frzs b ob _ z;obtain⟨e1,_⟩:=hok b _ z;obtain⟨e2,_⟩:=hok' b _ z2;rw[e]at e1;cases e1;exact .inl e2
 let HT:Hp:=λb=>if b∈tabs.map (·.2) then some (.tbl #[]) else none
 have htab:∀b,b∈tabs.map (·.2)->s₁.heap.get? b=some (PySem.W.tabObj #[]):=λb hb=>by
  obtain⟨r,hr,er⟩:=QL.mp hb;rw[<-er];exact(hT r hr).2
 cases hk:K.lookup a with
 | some o =>
  have e:=KX a o hk;rw[ha]at e;cases e;refine core HT ⟨λq hq=>QH (QL.mpr ⟨q,hq,rfl⟩),λb hb=>.inl (QB hb)⟩ (.inr ⟨_,vs.toArray,_,hk,rfl,rfl,rfl,by rw[Qe,lenV];exact hl,by simpa using rv⟩) (λb u z=>?_) (λb z=>?_) λz=>absurd (QB naT) z
  ·by_cases hb:b∈tabs.map (·.2)
   ·have z':=(QH hb).symm.trans z;cases z';exact htab b hb
   have z':=(QB hb).symm.trans z;cases z'
  by_cases hb:b∈tabs.map (·.2)
  ·exact .inr hb
  exact absurd (QB hb) z
 | none =>
 let HA:Hp:=λb=>if b=a then some (.frz { cls:=.type "list", data:=.seq vs.toArray } (.lst (ns.map V.int))) else HT b;have hA1:HA a=some (.frz { cls:=.type "list", data:=.seq vs.toArray } (.lst (ns.map V.int))):=QH rfl;have hA2:∀b,b≠a->HA b=HT b:=λb h=>QB h;refine core HA ⟨λq hq=>?_,λb hb=>?_⟩ (.inl (.inr ⟨{ cls:=.type "list", data:=.seq vs.toArray },hA1⟩)) (λb u z=>?_) (λb z=>?_) λ_=>hk
 ·rw[hA2 _ λz=>naT (QL.mpr ⟨q,hq,z⟩)];exact QH (QL.mpr ⟨q,hq,rfl⟩)
 ·by_cases hba:b=a
  ·subst hba;exact .inr ⟨_,_,hA1⟩
  rw[hA2 b hba];exact .inl (QB hb)
 ·by_cases hba:b=a
  ·subst hba;rw[hA1]at z;cases z;exact⟨ha,by rw[Qb];exact hl,vs,_,rv,ha⟩
  rw[hA2 b hba]at z;by_cases hb:b∈tabs.map (·.2)
  ·have z':=(QH hb).symm.trans z;cases z';exact htab b hb
  have z':=(QB hb).symm.trans z;cases z'
 by_cases hba:b=a
 ·exact .inl hba
 rw[hA2 b hba]at z;by_cases hb:b∈tabs.map (·.2)
 ·exact .inr hb
 exact absurd (QB hb) z
variable {loose:List Str} {p q:Program}
theorem pz {mean:ExcName->Option Value} {mg mb:A2} {h:Heap} (T:Top p loose mean mg mb h):fz h mg:=by
 obtain⟨bm,ob,b1,b2,b3,b4,b5,b6⟩:=T.bmain;refine⟨bm,ob,b1,b2,λq=>?_,b3,b4,b5,b6⟩;obtain⟨o,es,ep,e,hd,_⟩:=T.g;rw[q,e]at b3;cases b3;rw[hd]at b6;cases b6
variable {l:PySem.W.OpenLaw}
theorem nC {n k:Nat} {XP:A2->Heap->Prop} {YP:World->Heap->Prop} {d:DefRec} {K:Params->PySem.W.Frag} {CX:World->CXT} {sp:World->Sp} (tabs:World->List (Addr × Addr))
  (hn:l.most=some n) (hn2:n<=sizeLine) (hdf:d.params.defaults=[]) (hr:Room k callerA)
  (hY:∀(w:World) (h:Heap),YP w h->(K w.params).In h) (hY2:∀(w:World) (h:Heap),YP w h->PySem.W.TabsAt (tabs w) h) (hTK:∀(w:World),∀q∈tabs w,(K w.params).lookup q.2=none)
  (F:∀(w:World) (mg:A2) (fa:Addr) (h:Heap),(K w.params).In h->h.Ns mainGlobals mg->mg d.name=some (.ref fa) ->
   ∃fd:FuncData,(∀(s:Shared) (u:Value),BindsTo s fd ⟨[u],[]⟩ [(x,u)]) /\
    ∀base:Heap,(K w.params).In base->base.Ns mainGlobals mg->fz base mg->FnOk l.prog w (K w.params) mg base (CX w) k fa fd [x] (sp w))
  (hsp:∀(w:World) (H:Hp) (a:Addr) (ns:List Int),ns.length<=n->OnlyT (tabs w) H->SqL (K w.params) H a (ns.map V.int)->sp w [.ref a] H (λv _=>v=.bl true) λ_ _ _=>False)
  (hCX:∀(w:World) (H:Hp) (s:Shared) (e:Value) (s':Shared),CX w [] H s (λ_ _ _=>False) e s'->False) :
  PySem.W.WalkO q loose XP YP l.row.toRowW d [] (λf vs=>PySem.call f vs):=by
 refine Att.j4 hn hdf λw s₀ s₁ mg mb fa o pm cd doc a vs ns G Y ho hd hcd hmg hobj hints hlen hg=>?_;have KX:=hY w _ Y;obtain⟨fd,hb,hF⟩:=F w mg fa _ KX G.T.g hmg;exact mP KX G.T.g G.T.b G.T.builtins G.T.nolimit hg (pz G.T) (hY2 w _ Y) (hTK w) hobj hints (QQ hlen hn2) hr hF hb (λH hO hS=>hsp w H a ns hlen hO hS) λH e s'=>hCX w H s₁ e s'
def kQ (K:PySem.W.Frag) (ts:A3):List (Addr × Addr):=ts.flatMap λT=>(K.filter λp=>PySem.W.codeHdIn K p.1 T).map λp=>(p.1,T)
def eO (K:PySem.W.Frag) (ts:A3):Bool:=ts.all λT=>(K.any λp=>PySem.W.codeHdIn K p.1 T)&&(K.lookup T).isNone
variable {ts as:A3}
theorem gn {K:PySem.W.Frag} {q:Addr × Addr} (h:q∈kQ K ts):q.2∈ts/\PySem.W.codeHdIn K q.1 q.2=true:=by
 obtain⟨T,hT,h⟩:=List.mem_flatMap.mp h;obtain⟨p,hp,rfl⟩:=QL.mp h;exact⟨hT,(List.mem_filter.mp hp).2⟩
theorem kP {K:PySem.W.Frag} (ok:eO K ts=true) (hT:T∈ts):∃c,(c,T)∈kQ K ts:=by
 have h:=xg.mp ok T hT;rw[xp]at h;obtain⟨p,hp,e⟩:=List.any_eq_true.mp h.1;exact⟨p.1,List.mem_flatMap.mpr ⟨T,hT,QL.mpr ⟨p,List.mem_filter.mpr ⟨hp,e⟩,rfl⟩⟩⟩
theorem kO {K:PySem.W.Frag} (ok:eO K ts=true) (hT:T∈ts):K.lookup T=none:=by
 have h:=xg.mp ok T hT;rw[xp]at h;exact Option.isNone_iff_eq_none.mp h.2
theorem nE {n k:Nat} {XP:A2->Heap->Prop} {d:DefRec} {K:Params->PySem.W.Frag} {e:∀P,as=(K P).map (·.1)} {CX:World->CXT} {sp:World->Sp}
  (hn:l.most=some n) (hn2:n<=sizeLine) (hdf:d.params.defaults=[]) (hr:Room k callerA) (ok:∀w:World,eO (K w.params) ts=true)
  (F:∀(w:World) (mg:A2) (fa:Addr) (h:Heap),(K w.params).In h->h.Ns mainGlobals mg->mg d.name=some (.ref fa) ->
   ∃fd:FuncData,(∀(s:Shared) (u:Value),BindsTo s fd ⟨[u],[]⟩ [(x,u)]) /\
    ∀base:Heap,(K w.params).In base->base.Ns mainGlobals mg->fz base mg->FnOk l.prog w (K w.params) mg base (CX w) k fa fd [x] (sp w))
  (hsp:∀(w:World) (H:Hp) (a:Addr) (ns:List Int),ns.length<=n->(∀T∈ts,H T=some (.tbl #[]))->SqL (K w.params) H a (ns.map V.int)->sp w [.ref a] H (λv _=>v=.bl true) λ_ _ _=>False)
  (hCX:∀(w:World) (H:Hp) (s:Shared) (e:Value) (s':Shared),CX w [] H s (λ_ _ _=>False) e s'->False) :
  PySem.W.WalkO q loose XP (PySem.W.kmHook K as e ts).says l.row.toRowW d [] (λf vs=>PySem.call f vs):=by
 refine nC (λw=>kQ (K w.params) ts) hn hn2 hdf hr (λw h Y=>PySem.W.km_in_of Y) (λw h Y q hq=>?_) (λw q hq=>kO (ok w) (gn hq).1) F (λw H a ns h1 hO hS=>hsp w H a ns h1 (λT hT=>?_) hS) hCX
 ·obtain⟨h1,h2⟩:=gn hq;exact⟨PySem.W.codeHd_of_K (PySem.W.km_in_of Y) h2,PySem.W.km_tabs_of Y _ h1⟩
 obtain⟨c,hc⟩:=kP (ok w) hT;exact hO.tab _ hc
end L2
namespace K2
open PySem L2
theorem qx {X:Cx} {K:PySem.W.Frag} (h:X.K=K):IxR X (jL K):=by subst h;exact aR
theorem eQ {X:Cx} {K:PySem.W.Frag} (h:X.K=K):IxR X (kA K):=by subst h;exact ao
variable {env:Env} {es a vs:List Expr} {p:Pos}
theorem se_sub {a b:Expr}:starEach (.Subscript a b p::es) env=(false,eval (.Subscript a b p) env)::starEach es env:=by rfl
theorem se_bin {a b:Expr} {o:Operator}:starEach (.BinOp a o b p::es) env=(false,eval (.BinOp a o b p) env)::starEach es env:=by rfl
theorem se_lc {a:Expr} {g:List Comprehension} {sc:Scope}:starEach (.ListComp a g sc p::es) env=(false,eval (.ListComp a g sc p) env)::starEach es env:=by rfl
variable {n i:Nat}
theorem se_tup:starEach (.Tuple a n p::es) env=(false,eval (.Tuple a n p) env)::starEach es env:=by rfl
theorem se_lst:starEach (.List a p::es) env=(false,eval (.List a p) env)::starEach es env:=by rfl
theorem se_call {f:Expr} {k:List Keyword}:starEach (.Call f a k p::es) env=(false,eval (.Call f a k p) env)::starEach es env:=by rfl
theorem aq {c:Const}:starEach (.Constant c n p::es) env=(false,eval (.Constant c n p) env)::starEach es env:=by rfl
theorem ae {x:Str}:starEach (.Name x p::es) env=(false,eval (.Name x p) env)::starEach es env:=by rfl
theorem se_dict {ks:List (Option Expr)}:starEach (.Dict ks vs p::es) env=(false,eval (.Dict ks vs p) env)::starEach es env:=by rfl
theorem se_un {o:UnaryOp} {a:Expr}:starEach (.UnaryOp o a p::es) env=(false,eval (.UnaryOp o a p) env)::starEach es env:=by rfl
structure Txt (K:PySem.W.Frag) (mg:A2) (TT:Addr):Prop where
 n_len:mg "len" = none
 n_range:mg "range" = none
 n_max:mg "max" = none
 n_min:mg "min" = none
 n_int:mg "int" = none
 n_list:mg "list" = none
 n_str:mg "str" = none
 n_isinstance:mg "isinstance" = none
 n_all:mg "all" = none
 n_set:mg "set" = none
 n_dict:mg "dict" = none
 n_enumerate:mg "enumerate" = none
 n_sorted:mg "sorted" = none
 n_tuple:mg "tuple" = none
 n_bool:mg "bool" = none
 n_zip:mg "zip" = none
 n_reversed:mg "reversed" = none
 n_abs:mg "abs" = none
 tURNED:mg "TURNED" = some (.ref TT)
 tab:lr K TT [("0", .flat (.str "1")),("1", .flat (.str "0"))]
abbrev SqLofQ:=@SqL.of
abbrev i_cQ:=@i_c
abbrev i_consQ:=@aJ
abbrev i_ixLQ:=@aO
abbrev i_nilQ:=@aZ
abbrev i_varQ:=@aE
abbrev iteTQ:=@cc
abbrev pa_consQ:=@aa
abbrev pa_nilQ:=@ad
abbrev pe_intQ:=@ac
abbrev pe_lstQ:=@aL
abbrev pe_strQ:=@az
abbrev pe_tupQ:=@bh
abbrev pss_consQ:=@ay
abbrev pss_oneQ:=@aG
abbrev s_nameQ:=@aB
abbrev se_conQ:=@aq
abbrev se_nameQ:=@ae
local macro_rules | `(tactic| walk_at "vc") => `(tactic| first
 | ((refine' (?zz : (?zA → ?zG) → ?zA → ?zG) ?zr ?_); (case zr => with_reducible exact s_seqT); (case zz => exact fun _ q => q); intro D') | ((refine' (?zz : (?zA → ?zG) → ?zA → ?zG) ?zr ?_); (case zr => with_reducible first | exact s_asg | exact s_drop | exact s_ret | exact s_if | exact s_sub | exact s_next | exact i_cQ | exact i_op | exact i_test | exact i_tB | exact i_and | exact i_or | exact i_not | exact i_andV | exact i_orV | exact i_notV | exact i_ifE | exact i_nilQ | exact i_consQ | exact i_cb | exact i_tup | exact i_lst | exact i_bm | exact i_sl | exact i_nopart | exact i_part | exact s_for | exact s_rng1 | exact s_list | exact s_str | exact i_comp); (case zz => exact fun _ q => q))   | (with_reducible refine s_nameQ ?_)
 | ((with_reducible refine' i_varQ ?hv ?_); (case hv => exact rfl))   | (with_reducible first | refine i_rI0 ?_ | refine i_call ?_ | refine s_strI ?_ | refine iteF ?_ | refine iteTQ ?_)
 | ((with_reducible show ∃ i, V.int _ = V.int i ∧ _); (refine ⟨_, rfl, ?_⟩)) | ((with_reducible show ∃ k, V.bl _ = V.bl k ∧ _); (refine ⟨_, rfl, ?_⟩)) | ((with_reducible show (∃ i, [V.bl _] = [V.int i] ∧ _) ∨ _); (refine Or.inr ⟨_, rfl, ?_⟩))
 | ((with_reducible refine' i_ixLQ ?ha ?hb ?_); (case ha => exact SqLofQ (by assumption)); (case hb => exact rfl)) | ((with_reducible refine' i_ixT ?ha ?hb ?_); (case ha => assumption); (case hb => exact rfl))
 | ((with_reducible show ∃ p _, [V.ref _] = [V.ref p] ∧ (SqL _ _ _ _ ∨ SqT _ _ _ _) ∧ _); (refine' ⟨_, _, rfl, Or.inl (SqLofQ ?ha), ?_⟩); (case ha => assumption)) | ((with_reducible refine' s_setL ?ha ?hb ?_); (case ha => assumption); (case hb => exact rfl))
 | ((with_reducible refine' i_eq ?ha ?_); (case ha => exact rfl)) | ((with_reducible refine' i_ne ?ha ?_); (case ha => exact rfl)))
local macro_rules | `(tactic| walk_at "p") => `(tactic| repeat' (with_reducible first | (refine' pss_oneQ ?_; rotate_left 1) | (refine' pss_consQ ?_ ?_; rotate_left 2) | exact pss_nil | (refine' ps_if ?_ ?_ ?_; rotate_left 3)))
local macro_rules | `(tactic| walk_at "b") => `(tactic| (refine' pss_consQ ?_ ?_; rotate_left 2; walk_at "p"))
local macro_rules | `(tactic| walk_at "f") => `(tactic| (refine' ps_for PassesOwn.never rfl ?_ ?_ ?_ (fun _ => rfl); rotate_left 3))
local macro_rules | `(tactic| walk_at "q") => `(tactic| repeat' (with_reducible first | exact pe_strQ | exact pe_intQ | exact pa_nilQ | (refine' pe_tupQ ?_; rotate_left 1) | (refine' pe_lstQ ?_; rotate_left 1) | (refine' pa_consQ ?_ ?_ se_conQ; rotate_left 2) | (refine' pa_consQ ?_ ?_ se_tup; rotate_left 2) | (refine' pa_consQ ?_ ?_ se_nameQ; rotate_left 2) | (refine' pa_consQ ?_ ?_ se_sub; rotate_left 2) | (refine' pa_consQ ?_ ?_ se_bin; rotate_left 2) | (refine' pa_consQ ?_ ?_ se_lst; rotate_left 2) | (refine' pa_consQ ?_ ?_ se_call; rotate_left 2) | (refine' pa_consQ ?_ ?_ se_lc; rotate_left 2) | (refine' pa_consQ ?_ ?_ se_dict; rotate_left 2) | (refine' pa_consQ ?_ ?_ se_un; rotate_left 2)))
local macro_rules | `(tactic|room) => `(tactic| (intro vs H Q E h; repeat (first | (obtain ⟨e, _⟩ := h; subst e; rfl) | (obtain ⟨_, h⟩ := h))))
local macro_rules | `(tactic|x_go) => `(tactic| ((try dsimp only [cxOf, Cx.nox, Cx.wish]); (conv in (L2.start _ _) => simp only [L2.start, Qs, List.map_nil, QM, List.length_nil, QS, List.replicate_zero, List.cons_append, List.nil_append, Nat.reduceAdd, Nat.reduceSub]); have big : 100000 < sizeLine := by decide))
local macro_rules | `(tactic|kt_k) => `(tactic| (with_reducible first | refine s_seq ?_ | refine s_if ?_ | refine s_next ?_ | refine i_or ?_ | refine s_nameQ ?_ | refine s_ret ?_))
local macro_rules|`(tactic|lk)=>`(tactic|repeat walk_at "vc")
local macro_rules|`(tactic|fin2)=>`(tactic|exact⟨rfl,rfl,rfl,by decide +kernel,rfl,by decide +kernel,by decide +kernel⟩)
local macro_rules|`(tactic|walk_at "d")=>`(tactic|try dsimp only[cxOf,Cx.nox,Cx.wish])
inductive Rl where
 | w (n:Str)|no (r:Rl)|an (a b:Rl)|orr (a b:Rl)
def Rl.ok (ns:List Str):Rl->Prop
 | .w n=>n∈ns
 | .no r=>r.ok ns
 | .an a b=>a.ok ns/\b.ok ns
 | .orr a b=>a.ok ns/\b.ok ns
def Rl.dep:Rl->Nat
 | .w _=>1
 | .no r=>r.dep+1
 | .an a b=>max a.dep b.dep+1
 | .orr a b=>max a.dep b.dep+1
def Rl.val (f:Str->Bool):Rl->Bool
 | .w n=>f n
 | .no r=>!r.val f
 | .an a b=>a.val f&&b.val f
 | .orr a b=>a.val f || b.val f
inductive RAt (H:Hp):V->Rl->Prop where
 | w {a:Addr} {n:Str}:H a=some (.tup [.str "wire", .str n])->RAt H (.ref a) (.w n)
 | no {a:Addr} {v:V} {r:Rl}:H a=some (.tup [.str "not", v])->RAt H v r->RAt H (.ref a) (.no r)
 | an {a:Addr} {v u:V} {r s:Rl}:H a=some (.tup [.str "and", v,u])->RAt H v r->RAt H u s->RAt H (.ref a) (.an r s)
 | orr {a:Addr} {v u:V} {r s:Rl}:H a=some (.tup [.str "or", v,u])->RAt H v r->RAt H u s->RAt H (.ref a) (.orr r s)
def cM (H H':Hp):Prop:=∀b xs,H b=some (.tup xs)->H' b=some (.tup xs)
variable {H H' H1:Hp}
theorem aj.tups (S:aj H H'):cM H H':=λb xs e=>S b _ e
theorem RAt.mono (hs:cM H H') {v:V} {r:Rl} (h:RAt H v r):RAt H' v r:=by
 induction h with
 | w e=>exact .w (hs _ _ e)
 | no e _ ih=>exact .no (hs _ _ e) ih
 | an e _ _ i1 i2=>exact .an (hs _ _ e) i1 i2
 | orr e _ _ i1 i2=>exact .orr (hs _ _ e) i1 i2
def GAt (H:Hp) (v:V) (g:Str × Rl):Prop:=∃b rv,v=.ref b/\H b=some (.tup [.str g.1,rv])/\RAt H rv g.2
theorem GAt.mono (hs:cM H H') {v:V} {g:Str × Rl} (h:GAt H v g):GAt H' v g:=let ⟨b,rv,e,h1,h2⟩:=h;⟨b,rv,e,hs _ _ h1,h2.mono hs⟩
structure NAt (H:Hp) (a li lg:Addr) (ins:List Str) (vs:List V) (gs:List (Str × Rl)):Prop where
 ha:H a=some (.tup [.ref li,.ref lg])
 hi:H li=some (.lst (ins.map V.str))
 hg:H lg=some (.lst vs)
 gates:Paired (GAt H) vs gs
theorem gt {H:Hp}:∀{vs:List V} {gs:List (Str × Rl)},Paired (GAt H) vs gs->∀x∈vs,∃a,x=V.ref a
 | _,_,.nil=>λx hx=>nomatch hx
 | _,_,.cons h t=>λx hx=>by
  rcases Q5.mp hx with e|hx
  ·obtain⟨b,_,e',_⟩:=h;exact⟨b,e.trans e'⟩
  exact gt t x hx
theorem bc {H H':Hp} (hs:cM H H'):∀{vs:List V} {gs:List (Str × Rl)},Paired (GAt H) vs gs->Paired (GAt H') vs gs
 | _,_,.nil=>.nil
 | _,_,.cons h t=>.cons (h.mono hs) (bc hs t)
variable {gs:List (Str × Rl)} {ins:List Str} {li lg f C e CS NE:Addr}
theorem NAt.same {a:Addr} {vs:List V} (S:aj H H') (h:NAt H a li lg ins vs gs):NAt H' a li lg ins vs gs:=⟨S _ _ h.ha,S _ _ h.hi,S _ _ h.hg,bc (aj.tups S) h.gates⟩
def ai (ins:List Str) (gs:List (Str × Rl)):List Str:=ins++gs.map (·.1)
structure NetOk (ins:List Str) (gs:List (Str × Rl)):Prop where
 nd:(ai ins gs).Nodup
 i4:ins.length<=4
 g1:1<=gs.length
 g7:gs.length<=7
 rules:∀g∈gs,g.2.ok (ai ins gs)/\g.2.dep<=10
structure StOk (n:Nat) (z:Str):Prop where
 len:z.cps.size=n
 signs:∀c∈z.cps.toList,c=48\/c=49
def sg (b:Bool):V:=if b then .str "1" else .str "0"
def sgn (names:List Str) (z:Str) (n:Str):Bool:=z.cps.getD (names.idxOf n) 0==49
def DFn (kvs:List (Key × V)) (names:List Str) (f:Str->Bool):Prop:=∀n∈names,bE kvs (Sum.inr n:Key)=some (sg (f n))
structure InitF (K:PySem.W.Frag) (f:Addr) (fd:FuncData):Prop where
 ex:∃(od:Option Addr) (TD:Addr) (kV doc pm:Value) (an:Option Addr) (cdv ct:Value) (osl:Array (Option Value)) (c1:Value) (d1:Option Addr) (n1:Nat) (s1:Array (Option Value)),
  fd=PySem.W.fnOf "__init__" "NoStep.__init__" (bM ef) (bB ef) (ap ef) (.ref TD) kV doc pm an cdv ct/\K.lookup f=some ⟨.type "function", od,.func fd,osl⟩/\PySem.W.codeIn K cdv "NoStep.__init__" = true/\K.lookup TD=some ⟨c1,d1,.seq #[.none] n1,s1⟩
variable {fd:FuncData}
theorem InitF.binds {K:PySem.W.Frag} (F:InitF K f fd) (s:Shared) (X:K.In s.heap) (a b:Value):BindsTo s fd ⟨[a,b],[]⟩ ((["self", "words", "at"]:List Str).zip [a,b,.none]):=by
 obtain⟨od,TD,kV,doc,pm,an,cdv,ct,osl,c1,d1,n1,s1,rfl,lk,hcd,hT⟩:=F.ex;exact BindsTo.of_defaults (T:=TD) rfl (X _ _ hT) rfl rfl rfl
theorem InitF.binds3 {K:PySem.W.Frag} (F:InitF K f fd) (s:Shared) (X:K.In s.heap) (a b c:Value):BindsTo s fd ⟨[a,b,c],[]⟩ ((["self", "words", "at"]:List Str).zip [a,b,c]):=by
 obtain⟨od,TD,kV,doc,pm,an,cdv,ct,osl,c1,d1,n1,s1,rfl,lk,hcd,hT⟩:=F.ex;exact BindsTo.of_defaults (T:=TD) rfl (X _ _ hT) rfl rfl rfl
theorem InitF.fn {K:PySem.W.Frag} (F:InitF K f fd):∃o,K.lookup f=some o/\o.cls=.type "function" := let ⟨_,_,_,_,_,_,_,_,_,_,_,_,_,_,lk,_⟩:=F.ex;⟨_,lk,rfl⟩
theorem InitF.bd3 {K:PySem.W.Frag} (F:InitF K f fd):b9 K fd ["self", "words", "at"] []:=λs us X hl=>by
 match us,hl with
 | [a,b,c],_=>exact F.binds3 s X a b c
def kh (K:PySem.W.Frag):Sp:=λvs H Q _=>∃e C NE txt v,vs=[.ref e,.str txt,v]/\H e=some (XO e C none true)/\XMk K C NE/\PySem.W.findIn K (.ref C) "at" = some none /\
 ∀H' dx,H dx=none->(∀b,b≠e->b≠dx->H' b=H b)->H' dx=some (.xd [("at", v)])->H' e=some (XO e C (some dx) true)->Q .non H'
theorem pO:FnScope ["self", "words", "at"] ["self", "words", "at"] (ap ef):=by fin2
variable {P:Program} {w:World} {K:PySem.W.Frag} {mg:A2} {base:Heap} {TT:Addr}
section
theorem qh {f:Addr} {fd:FuncData} (Fu:InitF K f fd) {NE:Addr} (hm:mg "NetError" = some (.ref NE)) (h1:PySem.W.specialIn K (.ref NE) "__getattribute__" = some (some (.builtin "type.__getattribute__"))) (h2:PySem.W.readsIn K NE (.type "type")=true)
  (h3:PySem.W.findCls K (.ref NE) (.type "type") "__init__" = some (.val (.builtin "ValueError.__init__"))):FnOk P w K mg base CX0 2 f fd ["self", "words", "at"] (kh K):=by
 obtain⟨od,TD,kV,doc,pm,an,cdv,ct,osl,c1,d1,n1,s1,rfl,lk,hcd,hT⟩:=Fu.ex;refine eU lk hcd pO (λvs H Q E h=>?_) (λA outer s H vs Q E hr h=>?_)
 ·obtain⟨e,C,NE',txt,v,rfl,_⟩:=h;rfl
 obtain⟨e,C,NE',txt,v,rfl,eo,M,na,k⟩:=h;refine⟨_,(ay (bi (ol (by rfl) hm h1 h2 h3 (aa (pv 0) (aa (pv 1) ad)))) (aG (sr (pv 0) (pv 2)))),?_⟩;x_go;refine⟨_,rfl,_,rfl,e,C,NE',none,_,rfl,eo,M,by simp,?_⟩;refine⟨_,rfl,_,rfl,e,C,NE',rfl,af,M.kl,na,λdx hdx=>?_⟩;have nde:dx≠e:=λz=>by rw[z,af]at hdx;cases hdx
 rw[am nde]at hdx;refine k _ dx hdx (λb h1 h2=>?_) (by rw[am nde];exact af) af;rw[am h1,am h2,am h1]
end
structure ExcS (P:Program) (w:World) (K:PySem.W.Frag) (mg:A2) (base:Heap) (CS NE fI:Addr) (fd:FuncData):Prop where
 xm:XMk K CS NE
 init:PySem.W.findIn K (.ref CS) "__init__" = some (some (.ref fI))
 fn:∃o,K.lookup fI=some o/\o.cls=.type "function"
 ok:FnOk P w K mg base CX0 2 fI fd ["self", "words", "at"] (kh K)
 bd:b9 K fd ["self", "words", "at"] []
 mS:mg "NoStep" = some (.ref CS)
 at_:PySem.W.findIn K (.ref CS) "at" = some none
theorem jf {sp:Sp} {dvs:List V} {t:TA} {σ:St} {Q:VK} (q:t σ H λvs H1=>vs.length<=sizeLine/\∀x,H1 x=none->sp (.ref x::(vs++dvs)) (upd H1 x (XO x C none true)) (λv H2=>v=.non/\Q (.ref x) H2) E0):nH C sp dvs t σ H Q:=q
def dS (CS:Addr) (v:V) (H H':Hp) (e:Addr):Prop:=∃dx,aj H H'/\H' e=some (XO e CS (some dx) false)/\H' dx=some (.xd [("at", v)])
theorem dS.held {v:V} (r:dS C v H H' e):Held6 C H' e:=let ⟨dx,_,h1,h2⟩:=r;⟨some dx,false,h1,λd q=>by cases q;exact⟨_,h2⟩⟩
theorem fg {K:PySem.W.Frag} {E:XK} {v:V} (M:XMk K CS NE) (na:PySem.W.findIn K (.ref CS) "at" = some none) (S:aj H H1) (k:∀H' e,dS CS v H H' e->E (.ref CS) (some e) H') (x:Addr) (hx:H1 x=none) {txt:Str} :
  kh K (.ref x::([V.str txt,v]++[])) (upd H1 x (XO x CS none true)) (λu H2=>u=.non/\∃e d,V.ref x=.ref e/\H2 e=some (XO e CS d true)/\E (.ref CS) (some e) (upd H2 e (XO e CS d false))) E0:=by
 refine⟨x,CS,NE,txt,v,rfl,af,M,na,λH' dx hdx els hd he=>⟨rfl,x,some dx,rfl,he,?_⟩⟩;have ndx:dx≠x:=λz=>by rw[z,af]at hdx;cases hdx
 rw[am ndx]at hdx;refine k _ x ⟨dx,λb o e=>?_,af,by rw[am ndx];exact hd⟩;have nbx:b≠x:=λz=>by rw[z]at e;rw[S _ _ e]at hx;cases hx
 have nbd:b≠dx:=λz=>by rw[z]at e;rw[S _ _ e]at hdx;cases hdx
 rw[am nbx,els b nbx nbd,am nbx];exact S _ _ e
def lA:Sp:=λvs H Q _=>∃a li lg ins gvs gs,vs=[.ref a]/\NAt H a li lg ins gvs gs/\NetOk ins gs/\∀l H',aj H H'->H l=none->H' l=some (.lst ((ai ins gs).map V.str))->Q (.ref l) H'
def lD:Sp:=λvs H Q _=>∃a li lg ins gvs gs,vs=[.ref a]/\NAt H a li lg ins gvs gs/\NetOk ins gs/\∀l H',aj H H'->H l=none->H' l=some (.lst ((gs.map (·.1)).map V.str))->Q (.ref l) H'
theorem ifT {c:Bool} {A B:Prop} (hc:c=true) (h:A):if c=true then A else B:=by rw[QH hc];exact h
theorem ifF {c:Bool} {A B:Prop} (hc:c=false) (h:B):if c=true then A else B:=by subst hc;exact iteF h
theorem aW {D:Addr} {o:HO} (S:aj H H') (hD:H D=none):aj H (upd H' D o):=λb u e=>by rw[am (ax e hD)];exact S b u e
theorem nk {K:PySem.W.Frag} {σ:St} {Q:VK} {c:Int} {a:Addr} {gvs vals:List V} (hσ:σ[i]?=some (some (.ref a))) (ha:H a=some (.tup [.ref li,.ref lg])) (hg:H lg=some (.lst gvs)) (hs:gvs.length<=1000)
  (hx:∀(j:Nat) x,gvs[j]?=some x->∃b ys v,x=.ref b/\H b=some (.tup ys)/\atI ys c=some v/\vals[j]?=some v) (hl:vals.length=gvs.length)
  (q:∀D H',H D=none->aj H H'->H' D=some (.lst vals)->Q (.ref D) H') :
  fP (jX K (tOp (jL K) (bA i) (tC (V.int 1)))) (cK 0) fB (tOp (jL K) (bA 0) (tC (V.int c))) (bw [Str.ofString "gate"] []) σ H Q:=by
 refine i_comp (s_list (i_op (aE hσ (i_c (i_ixT ha rfl ⟨lg,rfl,⟨_,SqL.of hg⟩,λD hD=>?_⟩)))));have big:1000<sizeLine:=by decide
 refine dR (xs:=gvs) (λn H' ys=>aj H H'/\H' D=some (.lst ys)/\ys=vals.take n) ⟨ah hD,af,by simp⟩ (λn H' ys p=>⟨p.2.1,SqL.of (p.1 _ _ hg)⟩) (λn x H' ys e p=>?_) (λH' ys p=>?_)
 ·obtain⟨S,hd,rfl⟩:=p;obtain⟨b,zs,v,rfl,hb,hv,hv2⟩:=hx n x e;have hn:n<gvs.length:=(Qf.mp e).1;refine aB ⟨trivial,?_⟩;refine i_yes (cc ?_);refine i_op (aE rfl (i_c (i_ixT (S _ _ hb) hv (bN.mk hd hn (by rw[Qu];omega) ⟨aW S hD,af,?_⟩))));rw[List.take_succ,hv2];rfl
 obtain⟨S,hd,rfl⟩:=p;exact q D H' hD S (by rw[hd,Q6 (by omega)])
theorem b_ {α β:Type} {F:α->β->Prop}:∀{xs:List α} {ys:List β},Paired F xs ys->∀(j:Nat) x,xs[j]?=some x->∃y,ys[j]?=some y/\F x y
 | _,_,.nil=>λj x e=>by simp at e
 | _,_,.cons (a:=a) (b:=b) h t=>λj x e=>by
  cases j with
  | zero=>simp at e;subst e;exact⟨_,rfl,h⟩
  | succ j=>simp at e;obtain⟨y,e',f⟩:=b_ t j x e;exact⟨y,by simpa using e',f⟩
theorem aV {α β:Type} {F:α->β->Prop}:∀{xs:List α} {ys:List β},Paired F xs ys->xs.length=ys.length
 | _,_,.nil=>rfl
 | _,_,.cons h t=>by simp[aV t]
theorem lc {K:PySem.W.Frag} {σ:St} {Q:VK} {a:Addr} {gvs:List V} (hσ:σ[i]?=some (some (.ref a))) (NA:NAt H a li lg ins gvs gs) (ok:NetOk ins gs)
  (q:∀D H',H D=none->aj H H'->H' D=some (.lst ((gs.map (·.1)).map V.str))->Q (.ref D) H') :
  fP (jX K (tOp (jL K) (bA i) (tC (V.int 1)))) (cK 0) fB (tOp (jL K) (bA 0) (tC (V.int 0))) (bw [Str.ofString "gate"] []) σ H Q:=by
 have l:=aV NA.gates;have g7:=ok.g7;refine nk (vals:=(gs.map (·.1)).map V.str) hσ NA.ha NA.hg (by omega) (λj x e=>?_) (by simp[l]) q;obtain⟨g,e',b,rv,rfl,hb,hr⟩:=b_ NA.gates j x e;exact⟨b,_,_,rfl,hb,rfl,by simp[e']⟩
theorem hG (ok:NetOk ins gs):(ins.map V.str).length+((gs.map (·.1)).map V.str).length<=sizeLine:=by
 have g7:=ok.g7;have i4:=ok.i4;have big:1000<sizeLine:=by decide
 simp only[Qb];omega
theorem g_ (ins:List Str) (gs:List (Str × Rl)):ins.map V.str++(gs.map (·.1)).map V.str=(ai ins gs).map V.str:=by unfold ai;rw[QJ]
section
theorem jI:FnScope ["net"] ["net"] (ap (top 11)):=by fin2
theorem oE {f:Addr} {fd:FuncData} (Fu:Fun K "gates_of" "gates_of" (top 11) f fd) (T:Txt K mg TT):FnOk P w K mg base CX0 1 f fd ["net"] lD:=by
 have S:=jI;refine Fu.ok S (by room) (λcdv A outer s H vs Q E hr h=>?_);obtain⟨a,li,lg,ins,gvs,gs,rfl,NA,ok,k⟩:=h;refine⟨_,(aG (aF (gb "gate" [] (cY (al aR (pv 0) ac)) (λ_ _ _ _=>(al (qx (K:=K) rfl) (pv 0) ac))))),?_⟩;x_go;refine lc (Q:=Q) rfl NA ok λD H2 hD s2 h2=>?_;exact k D H2 s2 hD h2
theorem jD:FnScope ["net"] ["net"] (ap (top 12)):=by fin2
theorem oy {f:Addr} {fd:FuncData} (Fu:Fun K "wires_of" "wires_of" (top 12) f fd) (T:Txt K mg TT) (f_gates_of:Fn P w K mg base "gates_of" ["net"] 1 lD):FnOk P w K mg base CX0 2 f fd ["net"] lA:=by
 have S:=jD;refine Fu.ok S (by room) (λcdv A outer s H vs Q E hr h=>?_);obtain⟨a,li,lg,ins,gvs,gs,rfl,NA,ok,k⟩:=h;obtain⟨ha,hi,hg,gts⟩:=id NA;refine⟨_,(aG (aF (ag bF (bK bY (by rfl) T.n_list xi (aa (al aR (pv 0) ac) ad)) (aN f_gates_of hr (aa (pv 0) ad))))),?_⟩;x_go;lk;intro l hl;have s1:=ah (o:=.lst (ins.map V.str)) hl;have NA1:=NA.same s1;lk;refine⟨a,li,lg,ins,gvs,gs,rfl,NA1,ok,λD H2 s2 hD h2=>?_⟩;have hl2:H2 l=some (.lst (ins.map V.str)):=s2 _ _ af;refine bZ hl2 h2 (hG ok) λp hp=>?_;have hs:aj H (upd H2 p (HO.lst (ins.map V.str++(gs.map (·.1)).map V.str))):=s1.trans (s2.trans (ah hp));refine k p _ hs (aj.free (s1.trans s2) hp) ?_;rw[af,g_]
end
end K2
namespace K2
open PySem L2
local macro_rules | `(tactic| walk_at "vc") => `(tactic| first
 | ((refine' (?zz : (?zA → ?zG) → ?zA → ?zG) ?zr ?_); (case zr => with_reducible exact s_seqT); (case zz => exact fun _ q => q); intro D') | ((refine' (?zz : (?zA → ?zG) → ?zA → ?zG) ?zr ?_); (case zr => with_reducible first | exact s_asg | exact s_drop | exact s_ret | exact s_if | exact s_sub | exact s_next | exact i_cQ | exact i_op | exact i_test | exact i_tB | exact i_and | exact i_or | exact i_not | exact i_andV | exact i_orV | exact i_notV | exact i_ifE | exact i_nilQ | exact i_consQ | exact i_cb | exact i_tup | exact i_lst | exact i_bm | exact i_sl | exact i_nopart | exact i_part | exact s_for | exact s_rng1 | exact s_list | exact s_str | exact i_comp | exact i_dget | exact i_yes); (case zz => exact fun _ q => q))   | (with_reducible refine s_nameQ ?_)
 | ((with_reducible refine' i_varQ ?hv ?_); (case hv => exact rfl))   | (with_reducible first | refine i_rI0 ?_ | refine i_call ?_ | refine s_strI ?_ | refine iteF ?_ | refine iteTQ ?_)
 | ((with_reducible show ∃ i, V.int _ = V.int i ∧ _); (refine ⟨_, rfl, ?_⟩)) | ((with_reducible show ∃ k, V.bl _ = V.bl k ∧ _); (refine ⟨_, rfl, ?_⟩)) | ((with_reducible show (∃ i, [V.bl _] = [V.int i] ∧ _) ∨ _); (refine Or.inr ⟨_, rfl, ?_⟩))
 | ((with_reducible refine' i_ixLQ ?ha ?hb ?_); (case ha => exact SqLofQ (by assumption)); (case hb => exact rfl)) | ((with_reducible refine' i_ixT ?ha ?hb ?_); (case ha => assumption); (case hb => exact rfl))
 | ((with_reducible show ∃ p _, [V.ref _] = [V.ref p] ∧ (SqL _ _ _ _ ∨ SqT _ _ _ _) ∧ _); (refine' ⟨_, _, rfl, Or.inl (SqLofQ ?ha), ?_⟩); (case ha => assumption)) | ((with_reducible refine' s_setL ?ha ?hb ?_); (case ha => assumption); (case hb => exact rfl))
 | ((with_reducible refine' i_eq ?ha ?_); (case ha => exact rfl)) | ((with_reducible refine' i_ne ?ha ?_); (case ha => exact rfl))
 | ((with_reducible show ∃ z, V.str _ = V.str z ∧ _); (refine ⟨_, rfl, ?_⟩)))
local macro_rules | `(tactic| walk_at "p") => `(tactic| repeat' (with_reducible first | (refine' pss_oneQ ?_; rotate_left 1) | (refine' pss_consQ ?_ ?_; rotate_left 2) | exact pss_nil | (refine' ps_if ?_ ?_ ?_; rotate_left 3)))
local macro_rules | `(tactic| walk_at "b") => `(tactic| (refine' pss_consQ ?_ ?_; rotate_left 2; walk_at "p"))
local macro_rules | `(tactic| walk_at "f") => `(tactic| (refine' ps_for PassesOwn.never rfl ?_ ?_ ?_ (fun _ => rfl); rotate_left 3))
local macro_rules | `(tactic| walk_at "q") => `(tactic| repeat' (with_reducible first | exact pe_strQ | exact pe_intQ | exact pa_nilQ | (refine' pe_tupQ ?_; rotate_left 1) | (refine' pe_lstQ ?_; rotate_left 1) | (refine' pa_consQ ?_ ?_ se_conQ; rotate_left 2) | (refine' pa_consQ ?_ ?_ se_tup; rotate_left 2) | (refine' pa_consQ ?_ ?_ se_nameQ; rotate_left 2) | (refine' pa_consQ ?_ ?_ se_sub; rotate_left 2) | (refine' pa_consQ ?_ ?_ se_bin; rotate_left 2) | (refine' pa_consQ ?_ ?_ se_lst; rotate_left 2) | (refine' pa_consQ ?_ ?_ se_call; rotate_left 2) | (refine' pa_consQ ?_ ?_ se_lc; rotate_left 2) | (refine' pa_consQ ?_ ?_ se_dict; rotate_left 2) | (refine' pa_consQ ?_ ?_ se_un; rotate_left 2)))
local macro_rules | `(tactic|room) => `(tactic| (intro vs H Q E h; repeat (first | (obtain ⟨e, _⟩ := h; subst e; rfl) | (obtain ⟨_, h⟩ := h))))
local macro_rules | `(tactic|x_go) => `(tactic| ((try dsimp only [cxOf, Cx.nox, Cx.wish]); (conv in (L2.start _ _) => simp only [L2.start, Qs, List.map_nil, QM, List.length_nil, QS, List.replicate_zero, List.cons_append, List.nil_append, Nat.reduceAdd, Nat.reduceSub]); have big : 100000 < sizeLine := by decide))
local macro_rules | `(tactic|kt_k) => `(tactic| (with_reducible first | refine s_seq ?_ | refine s_if ?_ | refine s_next ?_ | refine i_or ?_ | refine s_nameQ ?_ | refine s_ret ?_))
local macro_rules|`(tactic|lk)=>`(tactic|repeat walk_at "vc")
local macro_rules|`(tactic|fin2)=>`(tactic|exact⟨rfl,rfl,rfl,by decide +kernel,rfl,by decide +kernel,by decide +kernel⟩)
local macro_rules|`(tactic|walk_at "d")=>`(tactic|try dsimp only[cxOf,Cx.nox,Cx.wish])
def d6 (v:V):Sp:=λvs H Q _=>∃a li lg ins gvs gs z,vs=[.ref a,.str z]/\NAt H a li lg ins gvs gs/\NetOk ins gs/\StOk (ai ins gs).length z/\∀H',aj H H'->Q v H'
def q_:Sp:=λvs H Q _=>∃(z:Str) (m:Nat),vs=[.str z,.int (m:Int)]/\m<=11/\StOk m z/\∀H',aj H H'->Q (.bl true) H'
variable {P:Program} {w:World} {K:PySem.W.Frag} {mg:A2} {base:Heap} {TT:Addr}
section
theorem h_:FnScope ["thing", "many"] ["thing", "many"] (ap (top 10)):=by fin2
variable {fd:FuncData} {f:Addr}
theorem sK (Fu:Fun K "is_row" "is_row" (top 10) f fd) (T:Txt K mg TT):FnOk P w K mg base CX0 1 f fd ["thing", "many"] q_:=by
 have S:=h_;refine Fu.ok S (by room) (λcdv A outer s H vs Q E hr h=>?_);obtain⟨z,m,rfl,hm,st,k⟩:=h
 refine⟨_,(ay (ps_if (PW.pt (ia (d8 (cy (au bS (by rfl) T.n_isinstance Qq (aa (pv 0) (aa (c6 (v:=.ty "str") (by rfl) T.n_str PyProof.Rows.boot_str rfl) ad))))) (fi (aC dm (au cr (by rfl) T.n_len Qo (aa (pv 0) ad)) (pv 1) (aI _))))) (aG (aF cG)) pss_nil)
  (aG (aF (au (j2 rfl) (by rfl) T.n_all PyProof.Rows.boot_all (aa (gb "sign" [] (oh (pv 0)) (λ_ _ _ _=>(cF (ie T.tab) (pv 0) (cq (v:=.ref TT) (by rfl) T.tURNED rfl) rfl))) ad))))),?_⟩
 x_go;lk;refine⟨_,_,_,_,rfl,TyOf.str z,cV "str", ?_⟩;refine⟨_,rfl,iteF ?_⟩;have hz:z.length=m:=st.len;have big:1000<sizeLine:=by decide
 lk;refine⟨_,rfl,(by omega),?_⟩;lk;refine ce (λh=>?_) (λ_=>?_)
 ·exfalso;have e:(V.int ↑z.length)=V.int (m:Int):=congrArg (λ(n:Nat)=>V.int (n:Int)) hz;simp[e]at h
 lk;intro D hD;refine j0 (λn H' ys=>aj H H'/\H' D=some (.lst ys)/\ys=(List.replicate n true).map V.bl) ⟨ah hD,af,rfl⟩ (λn H' ys p=>p.2.1) (λn H' ys hn p=>?_) (λH' ys p=>?_)
 ·obtain⟨Sm,hd,rfl⟩:=p;refine aB ⟨trivial,i_yes (cc ?_)⟩;refine i_op (aE rfl (i_c ⟨_,rfl,rfl,?_⟩));refine bN.mk hd hn (by rw[Qb,List.length_replicate];have:z.cps.size=z.length:=rfl;omega) ⟨aW Sm hD,af,?_⟩
  have hc:PyProof.Rows.KTD.inKeys (⟨#[z.cps.getD n 0]⟩:Str) [(("0" : Str),PyProof.Rows.KTD.Dat.flat (PyData.str "1")),("1", .flat (.str "0"))]=true:=by
   have:z.cps.getD n 0=48\/z.cps.getD n 0=49:=by
    have e:z.cps.getD n 0=z.cps[n]:=by simp[Array.getD,hn]
    rw[e];exact st.signs _ (by simp)
   rcases this with e|e
   ·rw[e];decide +kernel
   rw[e];decide +kernel
  rw[List.replicate_succ',QJ];exact congrArg (λb=>List.map V.bl (List.replicate n true)++[V.bl b]) hc
 obtain⟨Sm,hd,rfl⟩:=p;refine aZ ⟨_,_,rfl,SqL.of hd,?_⟩;have e:(List.replicate z.cps.size true).all id=true:=by simp
 rw[e];exact k H' Sm
theorem dA:FnScope ["net", "thing"] ["net", "thing"] (ap (top 13)):=by fin2
theorem qg (Fu:Fun K "is_standing" "is_standing" (top 13) f fd) (T:Txt K mg TT) (f_is_row:Fn P w K mg base "is_row" ["thing", "many"] 1 q_):FnOk P w K mg base CX0 2 f fd ["net", "thing"] (d6 (.bl true)):=by
 have S:=dA;refine Fu.ok S (by room) (λcdv A outer s H vs Q E hr h=>?_);obtain⟨a,li,lg,ins,gvs,gs,z,rfl,NA,ok,st,k⟩:=h;obtain⟨ha,hi,hg,gts⟩:=id NA;refine⟨_,(aG (aF (aN f_is_row hr (aa (pv 1) (aa (ag aD (au aA (by rfl) T.n_len Qo (aa (al aR (pv 0) ac) ad)) (au aA (by rfl) T.n_len Qo (aa (al aR (pv 0) ac) ad))) ad))))),?_⟩;x_go
 have hz:(ai ins gs).length=ins.length+gs.length:=by
  unfold ai;rw[Qi,Qb]
 have lg:=aV NA.gates;have i4:=ok.i4;have g7:=ok.g7;lk;refine⟨z,(ai ins gs).length,?_,by omega,st,λH' Sm=>k H' Sm⟩;rw[Qb,lg,hz];rfl
theorem cE:FnScope ["net", "thing"] ["net", "thing"] (ap (top 14)):=by fin2
theorem jR (Fu:Fun K "check_standing" "check_standing" (top 14) f fd) (T:Txt K mg TT) (f_is_standing:Fn P w K mg base "is_standing" ["net", "thing"] 2 (d6 (.bl true))):FnOk P w K mg base CX0 3 f fd ["net", "thing"] (d6 .non):=by
 have S:=cE;refine Fu.ok S (by room) (λcdv A outer s H vs Q E hr h=>?_);obtain⟨a,li,lg,ins,gvs,gs,z,rfl,NA,ok,st,k⟩:=h;refine⟨_,(aG (ps_if (d8 (cy (aN f_is_standing hr (aa (pv 0) (aa (pv 1) ad))))) cT pss_nil)),?_⟩;x_go;lk;refine⟨a,li,lg,ins,gvs,gs,z,rfl,NA,ok,st,λH' Sm=>⟨_,rfl,iteF ?_⟩⟩;exact k H' Sm
def dL (d:Nat):Sp:=λvs H Q _=>∃v a kvs r ns g,vs=[v,.ref a]/\RAt H v r/\r.dep<=d/\r.ok ns/\H a=some (.dK kvs)/\DFn kvs ns g/\Q (.bl (r.val g)) H
theorem ek {k:Nat} {ps:List Str} {sp:Sp} (h:∀vs H Q E,sp vs H Q E->False):FnOk P w K mg base CX0 k f fd ps sp :=
 ⟨λvs H Q E q=>(h vs H Q E q).elim,λ_ _ _ _ _ _ vs Q E _ _ _ _ q=>(h _ _ _ _ q).elim⟩
theorem l8 (r:Rl):1<=r.dep:=by cases r <;> simp[Rl.dep]
theorem kn (b:Bool):decide (sg b=V.str "1")=b:=by
 cases b
 ·decide +kernel
 decide +kernel
theorem gM:FnScope ["rule", "signs", "kind"] ["rule", "signs"] (ap (top 15)):=by fin2
theorem jQ {f:Addr} {fd:FuncData} (Fu:Fun K "rule_holds" "rule_holds" (top 15) f fd) (T:Txt K mg TT) (hm:mg "rule_holds" = some (.ref f)) (hk:PySem.W.keepIn K (.ref f)=true) (hb:b9 K fd ["rule", "signs"] []):∀d,FnOk P w K mg base CX0 d f fd ["rule", "signs"] (dL d)
 | 0=>ek λvs H Q E ⟨v,a,kvs,r,ns,g,_,_,h,_⟩=>by have:=l8 r;omega
 | d+1=>by
  have S:=gM;have f_rule_holds:Fn P w K mg base "rule_holds" ["rule", "signs"] d (dL d):=⟨f,fd,jQ Fu T hm hk hb d,hm,hk,hb⟩;refine Fu.ok S (λvs H Q E h=>?_) (λcdv A outer s H vs Q E hr h=>?_)
  ·obtain⟨v,a,kvs,r,ns,g,rfl,_⟩:=h;rfl
  obtain⟨v,a,kvs,r,ns,g,rfl,ra,hd,rok,ha,hf,q⟩:=h;have hu:=lX hr
  refine⟨_,(ay (ar 2 S.nd (al aR (pv 0) ac))
  (ay (ps_if (aC bD (pv 2) az (aI _)) (aG (aF (cF bD (dN hu (pv 1) (al aR (pv 0) ac)) az (aI _)))) pss_nil)
  (ay (ps_if (aC bD (pv 2) az (aI _)) (aG (aF (om (aN f_rule_holds hr (aa (al aR (pv 0) ac) (aa (pv 1) ad)))))) pss_nil)
  (ay (ps_if (aC bD (pv 2) az (aI _)) (aG (aF (ja (aN f_rule_holds hr (aa (al aR (pv 0) ac) (aa (pv 1) ad))) (f_ (aN f_rule_holds hr (aa (al aR (pv 0) ac) (aa (pv 1) ad))))))) pss_nil)
  (aG (aF (rh (aN f_rule_holds hr (aa (al aR (pv 0) ac) (aa (pv 1) ad))) (f_ (aN f_rule_holds hr (aa (al aR (pv 0) ac) (aa (pv 1) ad))))))))))),?_⟩
  x_go
  cases ra with
  | @w b n hb =>
   lk;refine ifT (by decide +kernel) ?_;lk;have hv:bE kvs (Sum.inr n:Key)=some (sg (g n)):=hf n rok;refine⟨a,sg (g n),rfl,by rw[<-hv];exact du.k (k:=Sum.inr n) ha,?_⟩;lk;refine i_eq (by cases g n <;> rfl) ?_;rw[kn];exact q
  | @no b u r hb hr1 =>
   lk;refine ifF (by decide +kernel) ?_;lk;refine ifT (by decide +kernel) ?_;lk;exact⟨u,a,kvs,r,ns,g,rfl,hr1,by simp only[Rl.dep]at hd;omega,rok,ha,hf,⟨_,rfl,q⟩⟩
  | @an b u x r1 r2 hb hr1 hr2 =>
   lk;refine ifF (by decide +kernel) ?_;lk;refine ifF (by decide +kernel) ?_;lk;refine ifT (by decide +kernel) ?_;lk;simp only[Rl.dep]at hd;refine⟨u,a,kvs,r1,ns,g,rfl,hr1,by omega,rok.1,ha,hf,⟨_,rfl,?_⟩⟩;have e:Rl.val g (Rl.an r1 r2)=(r1.val g&&r2.val g):=rfl;rw[e]at q
   cases hv:r1.val g with
   | false=>rw[hv]at q;exact iteF q
   | true =>
   rw[hv]at q;refine cc ?_;lk;exact⟨x,a,kvs,r2,ns,g,rfl,hr2,by omega,rok.2,ha,hf,q⟩
  | @orr b u x r1 r2 hb hr1 hr2 =>
  lk;refine ifF (by decide +kernel) ?_;lk;refine ifF (by decide +kernel) ?_;lk;refine ifF (by decide +kernel) ?_;lk;simp only[Rl.dep]at hd;refine⟨u,a,kvs,r1,ns,g,rfl,hr1,by omega,rok.1,ha,hf,⟨_,rfl,?_⟩⟩;have e:Rl.val g (Rl.orr r1 r2)=(r1.val g || r2.val g):=rfl;rw[e]at q
  cases hv:r1.val g with
  | true=>rw[hv]at q;exact cc q
  | false =>
  rw[hv]at q;refine iteF ?_;lk;exact⟨x,a,kvs,r2,ns,g,rfl,hr2,by omega,rok.2,ha,hf,q⟩
def ly (d:Nat):Sp:=λvs H Q _=>∃v a kvs r ns g,vs=[v,.ref a]/\RAt H v r/\r.dep<=d/\r.ok ns/\H a=some (.dK kvs)/\DFn kvs ns g/\Q (sg (r.val g)) H
theorem gL:FnScope ["rule", "signs"] ["rule", "signs"] (ap (top 16)):=by fin2
theorem ow (Fu:Fun K "rule_worth" "rule_worth" (top 16) f fd) (T:Txt K mg TT) (f_rule_holds:Fn P w K mg base "rule_holds" ["rule", "signs"] 10 (dL 10)):FnOk P w K mg base CX0 11 f fd ["rule", "signs"] (ly 10):=by
 have S:=gL;refine Fu.ok S (by room) (λcdv A outer s H vs Q E hr h=>?_);obtain⟨v,a,kvs,r,ns,g,rfl,ra,hd,rok,ha,hf,q⟩:=h;refine⟨_,(aG (aF (on (cy (aN f_rule_holds hr (aa (pv 0) (aa (pv 1) ad)))) az az))),?_⟩;x_go;lk;refine⟨v,a,kvs,r,ns,g,rfl,ra,hd,rok,ha,hf,⟨_,rfl,?_⟩⟩
 cases hv:r.val g with
 | true=>rw[hv]at q;exact cc q
 | false=>rw[hv]at q;exact iteF q
end
theorem dh {k:Key}:∀{qs kvs:List (Key × V)},k∉qs.map (·.1)->bE (bj kvs qs) k=bE kvs k
 | [],kvs,_=>rfl
 | q::qs,kvs,h=>by
  simp only[Qs,Q5,not_or]at h;show bE (bj (cS kvs q.1 q.2) qs) k=_;rw[dh h.2,dw,QB h.1]
theorem cw {k:Key} {v:V}:∀{qs kvs:List (Key × V)},(qs.map (·.1)).Nodup->(k,v)∈qs->bE (bj kvs qs) k=some v
 | [],kvs,_,h=>nomatch h
 | q::qs,kvs,nd,h=>by
  rw[Qs,xk]at nd;show bE (bj (cS kvs q.1 q.2) qs) k=_;rcases Q5.mp h with e|h
  ·subst e;rw[dh nd.1,dw,QH rfl]
  exact cw nd.2 h
theorem jo (ns:List Str) (z:Str):(bT ns z).map (·.1)=ns.map Sum.inr:=by
 unfold bT;rw[List.map_map];have e:((λx:Key × V=>x.1)∘λp:Str × Nat=>((Sum.inr p.1:Key),dj z p.2))=(λp:Str × Nat=>(Sum.inr p.1:Key)):=rfl;rw[e];have e2:(λp:Str × Nat=>(Sum.inr p.1:Key))=(Sum.inr:Str->Key)∘Prod.fst:=rfl;rw[e2,<-List.map_map,List.zipIdx_map_fst]
theorem ij {ns:List Str} (h:ns.Nodup):(ns.map (Sum.inr:Str->Key)).Nodup:=by
 induction ns with
 | nil=>exact List.nodup_nil
 | cons a r ih =>
 rw[xk]at h;rw[Qs,xk];refine⟨λm=>?_,ih h.2⟩;obtain⟨x,hx,e⟩:=QL.mp m;cases e;exact h.1 hx
theorem fJ {n:Nat} {z:Str} (st:StOk n z) {i:Nat} (hi:i<n):dj z i=sg (z.cps.getD i 0==49):=by
 have hl:=st.len;have e:z.cps.getD i 0=z.cps[i]'(by omega):=by simp[Array.getD,hl,hi]
 have:z.cps.getD i 0=48\/z.cps.getD i 0=49:=by
  rw[e];exact st.signs _ (by simp)
 unfold dj;rcases this with e|e
 ·rw[e];decide +kernel
 rw[e];decide +kernel
theorem l6 {ns:List Str} {z:Str} (nd:ns.Nodup) (st:StOk ns.length z):DFn (bj [] (bT ns z)) ns (sgn ns z):=λn hn=>by
 have hi:ns.idxOf n<ns.length:=List.idxOf_lt_length_of_mem hn;have e:ns[ns.idxOf n]?=some n:=by rw[Qd hi];exact congrArg some (List.getElem_idxOf hi)
 have hm:((Sum.inr n:Key),dj z (ns.idxOf n))∈bT ns z:=by
  unfold bT;refine QL.mpr ⟨(n,ns.idxOf n),?_,rfl⟩;rw[List.mem_zipIdx_iff_getElem?];exact e
 rw[cw (by rw[jo];exact ij nd) hm,fJ st hi];rfl
def hZ:Sp:=λvs H Q _=>∃a li lg ins gvs gs z,vs=[.ref a,.str z]/\NAt H a li lg ins gvs gs/\NetOk ins gs/\StOk (ai ins gs).length z /\
 ∀d H' kvs,aj H H'->H' d=some (.dK kvs)->DFn kvs (ai ins gs) (sgn (ai ins gs) z)->Q (.ref d) H'
section
theorem jE:FnScope ["net", "standing"] ["net", "standing"] (ap (top 17)):=by fin2
theorem kD {f:Addr} {fd:FuncData} (Fu:Fun K "signs_in" "signs_in" (top 17) f fd) (T:Txt K mg TT) (f_wires_of:Fn P w K mg base "wires_of" ["net"] 2 lA):FnOk P w K mg base CX0 3 f fd ["net", "standing"] hZ:=by
 have S:=jE;refine Fu.ok S (by room) (λcdv A outer s H vs Q E hr h=>?_);obtain⟨a,li,lg,ins,gvs,gs,z,rfl,NA,ok,st,k⟩:=h;refine⟨_,(aG (aF (lM rfl (by rfl) T.n_dict (by rfl) T.n_zip (aa (aN f_wires_of hr (aa (pv 0) ad)) (aa (pv 1) ad))))),?_⟩;x_go
 have wl:(ai ins gs).length<1000:=by
  have i4:=ok.i4;have g7:=ok.g7;unfold ai;rw[Qi,Qb];omega
 lk;show be _ _ _ _ _;lk;refine⟨a,li,lg,ins,gvs,gs,rfl,NA,ok,λl H1 S1 hl h1=>?_⟩;lk;refine⟨l,ai ins gs,z,rfl,SqL.of h1,by rw[st.len];omega,wl,λd hd=>?_⟩;exact k d _ _ (S1.trans (ah hd)) af (l6 ok.nd st)
end
theorem i8 {X:Cx} {K:PySem.W.Frag} {es:List Expr} {k:Nat} {t:TGs} {n:Nat} {pos:Pos} (hK:X.K=K) (hc:X.calm=true) (h:PGs X es t)
  (hn:(assignEach es X.env).length=n:=by rfl) (hst:(assignEach es X.env).findIdx? (·.1)=none:=by rfl):PG X (.Tuple es k pos) (sX K n t):=by subst hK;exact cZ hc h hn hst
def cL (z:Str) (i:Nat):Str:=if (z.cps.getD i 0==49)=true then "0" else "1"
def eF (z:Str) (i:Nat):Str:=(Txt.slice z none (some (i:Int))++cL z i)++Txt.slice z (some ((i:Int)+1)) none
def ju:Sp:=λvs H Q _=>∃(z:Str) (n i:Nat),vs=[.str z,.int (i:Int)]/\StOk n z/\i<n/\n<=11/\Q (.str (eF z i)) H
section
theorem ji {n:Nat} {z:Str} (st:StOk n z) {i:Nat} (hi:i<n):atI z.cps.toList ((i:Nat):Int)=some (z.cps.getD i 0):=by
 have hl:=st.len;refine a_ ?_;simp[Array.getD,hl,hi]
theorem iN:FnScope ["standing", "place"] ["standing", "place"] (ap (top 18)):=by fin2
theorem mD {f:Addr} {fd:FuncData} (Fu:Fun K "turned_at" "turned_at" (top 18) f fd) (T:Txt K mg TT):FnOk P w K mg base CX0 1 f fd ["standing", "place"] ju:=by
 have S:=iN;refine Fu.ok S (by room) (λcdv A outer s H vs Q E hr h=>?_);obtain⟨z,n,i,rfl,st,hi,hn,k⟩:=h;refine⟨_,(aG (aF (ag aQ (ag aQ (aK cj (pv 0) aX (aS (pv 1))) (al (qw T.tab) (cq (v:=.ref TT) (by rfl) T.tURNED rfl) (al cB (pv 0) (pv 1)))) (aK cj (pv 0) (aS (ag aD (pv 1) ac)) aX)))),?_⟩;x_go;have hz:z.length=n:=st.len;have big:1000<sizeLine:=by decide
 lk;have s1:=Txt.slice_le z none (some (i:Int));have s2:=Txt.slice_le z (some ((i:Int)+1)) none
 have fl:(cL z i).length=1:=by
  unfold cL
  split
  ·decide +kernel
  decide +kernel
 refine dq (by omega) ?_;refine i_op (i_c ?_);refine i_op (aE rfl (aE rfl (dF (by omega) (ji st hi) ?_)));have e:=fJ st hi;unfold dj at e;rw[e]
 have step:∀(b:Bool) (G:VK),G (.str (if b=true then "0" else "1")) H->lJ TT (.ref TT) (sg b) H G:=λb G g=>by
  cases b
  ·exact⟨rfl,.inl ⟨rfl,g⟩⟩
  exact⟨rfl,.inr ⟨rfl,g⟩⟩
 refine step _ _ ?_;show ∃i_1 j,V.str _=V.str i_1/\V.str (cL z i)=V.str j/\_;have l1:(Txt.slice z none (some (i:Int))++cL z i).length=(Txt.slice z none (some (i:Int))).length+(cL z i).length:=Array.size_append;refine⟨_,_,rfl,rfl,by omega,?_⟩;lk;refine dq (by omega) ?_;exact⟨_,_,rfl,rfl,by rw[l1];omega,k⟩
end
def bq (f:Str->Bool) (z:Str) (p:(Str × Rl) × Nat):Option (Str × Str):=if (p.1.2.val f==(z.cps.getD p.2 0==49))=true then none else some (p.1.1,eF z p.2)
def bf (ins:List Str) (gs:List (Str × Rl)) (z:Str):List (Str × Str):=(gs.zipIdx ins.length).filterMap (bq (sgn (ai ins gs) z) z)
def jm (H:Hp) (v:V) (p:Str × Str):Prop:=∃b,v=.ref b/\H b=some (.tup [.str p.1,.str p.2])
theorem jm.mono {H H':Hp} (hs:cM H H') {v:V} {p:Str × Str} (h:jm H v p):jm H' v p:=let ⟨b,e,q⟩:=h;⟨b,e,hs _ _ q⟩
theorem bO {H H':Hp} (hs:cM H H'):∀{vs:List V} {ps:List (Str × Str)},Paired (jm H) vs ps->Paired (jm H') vs ps
 | _,_,.nil=>.nil
 | _,_,.cons h t=>.cons (h.mono hs) (bO hs t)
theorem bX {α β:Type} {F:α->β->Prop}:∀{xs:List α} {ys:List β} {x:α} {y:β},Paired F xs ys->F x y->Paired F (xs++[x]) (ys++[y])
 | _,_,_,_,.nil,h=>.cons h .nil
 | _,_,_,_,.cons a t,h=>.cons a (bX t h)
def dJ:Sp:=λvs H Q _=>∃a li lg ins gvs gs z,vs=[.ref a,.str z]/\NAt H a li lg ins gvs gs/\NetOk ins gs/\StOk (ai ins gs).length z /\
 ∀l vs' H',aj H H'->H l=none->H' l=some (.lst vs')->Paired (jm H') vs' (bf ins gs z)->Q (.ref l) H'
theorem tO (a b:Bool):decide (sg a=sg b)=(a==b):=by
 cases a <;> cases b <;> decide +kernel
section
theorem gK:FnScope ["net", "standing", "signs", "steps", "place", "gate"] ["net", "standing"] (ap (top 19)):=by fin2
theorem oz {f:Addr} {fd:FuncData} (Fu:Fun K "steps_from" "steps_from" (top 19) f fd) (T:Txt K mg TT) (f_signs_in:Fn P w K mg base "signs_in" ["net", "standing"] 3 hZ) (f_rule_worth:Fn P w K mg base "rule_worth" ["rule", "signs"] 11 (ly 10)) (f_turned_at:Fn P w K mg base "turned_at" ["standing", "place"] 1 ju) :
  FnOk P w K mg base CX0 12 f fd ["net", "standing"] dJ:=by
 have S:=gK;refine Fu.ok S (by room) (λcdv A outer s H vs Q E hr h=>?_);obtain⟨a,li,lg,ins,gvs,gs,z,rfl,NA,ok,st,k⟩:=h
 refine⟨_,(ay (ar 2 S.nd (aN f_signs_in hr (aa (pv 0) (aa (pv 1) ad))))
  (ay (ar 3 S.nd (aL ad))
  (ay (ps_for PassesOwn.never rfl (oi (by rfl) T.n_enumerate (aa (al aR (pv 0) ac) ad) (pV (au aA (by rfl) T.n_len Qo (aa (al aR (pv 0) ac) ad)) su)) (cZ rfl (aP (bC 4 S.nd) (aP (bC 5 S.nd) bV)))
  (aG (ps_if (aC dm (aN f_rule_worth hr (aa (al aR (pv 5) ac) (aa (pv 2) ad))) (al cB (pv 1) (pv 4)) (aI _)) (aG (bi (cA QC QF QG bg (pv 3) (aa (bh (aa (al aR (pv 5) ac) (aa (aN f_turned_at hr (aa (pv 1) (aa (pv 4) ad))) ad))) ad)))) pss_nil)))
  (aG (aF (pv 3)))))),?_⟩
 x_go;have i4:=ok.i4;have g7:=ok.g7;have lgn:=aV NA.gates;have wl:(ai ins gs).length=ins.length+gs.length:=by unfold ai;rw[Qi,Qb]
 have big:1000<sizeLine:=by decide
 lk;refine⟨a,li,lg,ins,gvs,gs,z,rfl,NA,ok,st,λd H1 kvs S1 hd df=>?_⟩;lk;refine⟨by simp[sizeLine],λl hl=>?_⟩;generalize hE:upd _ l _=H2;have S2:aj H1 H2:=by rw[<-hE];exact ah hl
 have q2:H2 l=some (.lst []):=by rw[<-hE];exact af
 clear hE;have S12:=S1.trans S2;have hlH:H l=none:=aj.free S1 hl;have NA2:=NA.same S12;have hd2:=S2 _ _ hd;have dl:d≠l:=ax hd hl;obtain⟨ha,hi,hg,gts⟩:=id NA2;lk;show be _ _ _ _ _;lk;refine⟨lg,_,rfl,rfl,by rw[Qb];omega,⟨_,SqL.of hg⟩,?_⟩;have nlg:lg≠l:=ax NA.hg hlH;let I1:IvF:=λi σ H'=>(∃x4 x5 vs',σ=[some (.ref a),some (.str z),some (.ref d),some (.ref l),x4,x5]/\H' l=some (.lst vs')/\vs'.length<=i/\Paired (jm H') vs' (((gs.zipIdx ins.length).take i).filterMap (bq (sgn (ai ins gs) z) z)))/\aj H H'/\H' d=some (.dK kvs)
 refine m_ (xs:=gvs) I1
  ⟨⟨_,_,[],rfl,q2,by simp,by simp;exact .nil⟩,S12,hd2⟩ (λi σ H' _ pv=>SqL.of (pv.2.1 _ _ NA.hg)) (λi x σ H' t hx pv ht=>?_) (λσ H' pv=>?_)
 ·obtain⟨⟨x4,x5,vs',rfl,hl',hlen,hp⟩,SS,hd'⟩:=pv;have hig:i<gvs.length:=(Qf.mp hx).1;obtain⟨g,hgi,b,rv,rfl,hb,hrv⟩:=b_ NA.gates i x hx;have S3:=ah (o:=.tup [.int (((ins.map V.str).length:Int)+(i:Nat)),.ref b]) ht;refine⟨t,_,rfl,SqT.of af,rfl,?_⟩;refine⟨_,_,rfl,aB ⟨_,_,rfl,aB ?_⟩⟩;have hl3:=S3 _ _ hl';have hd3:=S3 _ _ hd';have SS3:=SS.trans S3;have hp3:=bO (aj.tups S3) hp;generalize upd H' t (.tup [.int (((ins.map V.str).length:Int)+(i:Nat)),.ref b])=H3 at *;have hb3:=SS3 _ _ hb;have hr3:=hrv.mono (aj.tups SS3);have gm:g∈gs:=QP hgi;have ep:(((ins.map V.str).length:Int)+(i:Nat))=((ins.length+i:Nat):Int):=by rw[Qb];omega
  rw[ep];obtain⟨rok,rdep⟩:=ok.rules g gm;have hpl:ins.length+i<(ai ins gs).length:=by omega
  have hzi:(gs.zipIdx ins.length)[i]?=some (g,ins.length+i):=by rw[List.getElem?_zipIdx,hgi];rfl
  refine⟨rfl,?_⟩;lk;refine⟨rv,d,kvs,g.2,_,_,rfl,hr3,rdep,rok,hd3,df,?_⟩;generalize hv:g.2.val (sgn (ai ins gs) z)=bv;have e:=fJ st hpl;unfold dj at e;have zl:z.length=(ai ins gs).length:=st.len;lk;refine dF (by omega) (ji st hpl) ?_;rw[e];refine i_ne (by cases bv <;> cases (z.cps.getD (ins.length+i) 0==49) <;> rfl) ?_;rw[tO];refine⟨_,rfl,?_⟩
  have tk:((gs.zipIdx ins.length).take (i+1)).filterMap (bq (sgn (ai ins gs) z) z)=((gs.zipIdx ins.length).take i).filterMap (bq (sgn (ai ins gs) z) z)++(bq (sgn (ai ins gs) z) z (g,ins.length+i)).toList:=by
   rw[List.take_succ,hzi,List.filterMap_append];cases h:bq (sgn (ai ins gs) z) z (g,ins.length+i) <;> simp[h]
  have so:bq (sgn (ai ins gs) z) z (g,ins.length+i)=if (bv==(z.cps.getD (ins.length+i) 0==49))=true then none else some (g.1,eF z (ins.length+i)):=by
   unfold bq;rw[hv]
  cases hc:(bv==(z.cps.getD (ins.length+i) 0==49)) with
  | true =>
   refine iteF ?_;rw[hc]at so;refine⟨⟨_,_,vs',rfl,hl3,by omega,?_⟩,SS3,hd3⟩;rw[tk,so];simpa using hp3
  | false =>
  refine cc ?_;rw[hc]at so;lk;refine⟨i_tyL hl3,?_⟩;lk;refine⟨z,_,ins.length+i,rfl,st,hpl,by omega,?_⟩;lk;refine⟨by simp[sizeLine],λq hq=>?_⟩;generalize hE:upd _ q _=H4;have S4:aj H3 H4:=by rw[<-hE];exact ah hq
  have q4:H4 q=some (.tup [.str g.1,.str (eF z (ins.length+i))]):=by rw[<-hE];exact af
  clear hE;have hl4:=S4 _ _ hl3;have hd4:=S4 _ _ hd3;have nql:q≠l:=λe=>by rw[e,hl3]at hq;cases hq
  lk;refine dY hl4 (by omega) ?_
  have kt:cM H4 (upd H4 l (.lst (vs'++[.ref q]))):=λb xs e=>by
   have:b≠l:=λx=>by rw[x,hl4]at e;cases e
   rw[am this];exact e
  refine⟨⟨_,_,vs'++[.ref q],rfl,af,by simp;omega,?_⟩,aW (SS3.trans S4) hlH,by rw[am dl];exact hd4⟩;rw[tk,so];exact bX (bO kt (bO (aj.tups S4) hp3)) ⟨q,rfl,kt _ _ q4⟩
 obtain⟨⟨x4,x5,vs',rfl,hl',hlen,hp⟩,SS,hd'⟩:=pv;refine s_ret (te:=bA 3) (D:={ nx:=λx H'=>Q V.non H',rt:=Q }) (aE rfl ?_);refine k l vs' H' SS hlH hl' ?_;have e:(gs.zipIdx ins.length).length=gvs.length:=by rw[List.length_zipIdx,lgn]
 rw[<-e,List.take_length]at hp;exact hp
end
end K2
namespace K2
open PySem L2
local macro_rules | `(tactic| walk_at "vc") => `(tactic| first
 | ((refine' (?zz : (?zA → ?zG) → ?zA → ?zG) ?zr ?_); (case zr => with_reducible exact s_seqT); (case zz => exact fun _ q => q); intro D') | ((refine' (?zz : (?zA → ?zG) → ?zA → ?zG) ?zr ?_); (case zr => with_reducible first | exact s_asg | exact s_drop | exact s_ret | exact s_if | exact s_sub | exact s_next | exact i_cQ | exact i_op | exact i_test | exact i_tB | exact i_and | exact i_or | exact i_not | exact i_andV | exact i_orV | exact i_notV | exact i_ifE | exact i_nilQ | exact i_consQ | exact i_cb | exact i_tup | exact i_lst | exact i_bm | exact i_sl | exact i_nopart | exact i_part | exact s_for | exact s_rng1 | exact s_list | exact s_str | exact i_dget | exact i_yes | exact i_un); (case zz => exact fun _ q => q))   | (with_reducible refine s_nameQ ?_)
 | ((with_reducible refine' i_varQ ?hv ?_); (case hv => exact rfl))   | (with_reducible first | refine i_rI0 ?_ | refine i_call ?_ | refine s_strI ?_ | refine iteF ?_ | refine iteTQ ?_ | refine i_rU ?_)
 | ((with_reducible show ∃ i, V.int _ = V.int i ∧ _); (refine ⟨_, rfl, ?_⟩)) | ((with_reducible show ∃ k, V.bl _ = V.bl k ∧ _); (refine ⟨_, rfl, ?_⟩)) | ((with_reducible show (∃ i, [V.bl _] = [V.int i] ∧ _) ∨ _); (refine Or.inr ⟨_, rfl, ?_⟩))
 | ((with_reducible refine' i_ixLQ ?ha ?hb ?_); (case ha => exact SqLofQ (by assumption)); (case hb => exact rfl)) | ((with_reducible refine' i_ixT ?ha ?hb ?_); (case ha => assumption); (case hb => exact rfl))
 | ((with_reducible show ∃ p _, [V.ref _] = [V.ref p] ∧ (SqL _ _ _ _ ∨ SqT _ _ _ _) ∧ _); (refine' ⟨_, _, rfl, Or.inl (SqLofQ ?ha), ?_⟩); (case ha => assumption)) | ((with_reducible refine' s_setL ?ha ?hb ?_); (case ha => assumption); (case hb => exact rfl))
 | ((with_reducible refine' i_eq ?ha ?_); (case ha => exact rfl)) | ((with_reducible refine' i_ne ?ha ?_); (case ha => exact rfl))
 | ((with_reducible show ∃ z, V.str _ = V.str z ∧ _); (refine ⟨_, rfl, ?_⟩))
 | ((with_reducible refine' i_rI ?hv ?_); (case hv => first | decide | (dsimp only; omega) | exact .inl ⟨by omega, by omega⟩ | exact .inr ⟨by omega, by omega⟩ | exact ⟨by decide, by decide⟩ | exact ⟨by decide, by decide, by decide⟩ | exact ⟨by omega, by omega⟩))
 | ((with_reducible show ∃ i, [V.int _] = [V.int i] ∧ _); (refine ⟨_, rfl, ?_⟩))
 | ((with_reducible show tyV _ "list" _ _ ∧ _); (refine' ⟨i_tyL ?ha, ?_⟩); (case ha => assumption)))
local macro_rules | `(tactic| walk_at "p") => `(tactic| repeat' (with_reducible first | (refine' pss_oneQ ?_; rotate_left 1) | (refine' pss_consQ ?_ ?_; rotate_left 2) | exact pss_nil | (refine' ps_if ?_ ?_ ?_; rotate_left 3)))
local macro_rules | `(tactic| walk_at "b") => `(tactic| (refine' pss_consQ ?_ ?_; rotate_left 2; walk_at "p"))
local macro_rules | `(tactic| walk_at "f") => `(tactic| (refine' ps_for PassesOwn.never rfl ?_ ?_ ?_ (fun _ => rfl); rotate_left 3))
local macro_rules | `(tactic| walk_at "q") => `(tactic| repeat' (with_reducible first | exact pe_strQ | exact pe_intQ | exact pa_nilQ | (refine' pe_tupQ ?_; rotate_left 1) | (refine' pe_lstQ ?_; rotate_left 1) | (refine' pa_consQ ?_ ?_ se_conQ; rotate_left 2) | (refine' pa_consQ ?_ ?_ se_tup; rotate_left 2) | (refine' pa_consQ ?_ ?_ se_nameQ; rotate_left 2) | (refine' pa_consQ ?_ ?_ se_sub; rotate_left 2) | (refine' pa_consQ ?_ ?_ se_bin; rotate_left 2) | (refine' pa_consQ ?_ ?_ se_lst; rotate_left 2) | (refine' pa_consQ ?_ ?_ se_call; rotate_left 2) | (refine' pa_consQ ?_ ?_ se_lc; rotate_left 2) | (refine' pa_consQ ?_ ?_ se_dict; rotate_left 2) | (refine' pa_consQ ?_ ?_ se_un; rotate_left 2)))
local macro_rules | `(tactic|room) => `(tactic| (intro vs H Q E h; repeat (first | (obtain ⟨e, _⟩ := h; subst e; rfl) | (obtain ⟨_, h⟩ := h))))
local macro_rules | `(tactic|x_go) => `(tactic| ((try dsimp only [cxOf, Cx.nox, Cx.wish]); (conv in (L2.start _ _) => simp only [L2.start, Qs, List.map_nil, QM, List.length_nil, QS, List.replicate_zero, List.cons_append, List.nil_append, Nat.reduceAdd, Nat.reduceSub]); have big : 100000 < sizeLine := by decide))
local macro_rules | `(tactic|kt_k) => `(tactic| (with_reducible first | refine s_seq ?_ | refine s_if ?_ | refine s_next ?_ | refine i_or ?_ | refine s_nameQ ?_ | refine s_ret ?_))
local macro_rules|`(tactic|lk)=>`(tactic|repeat walk_at "vc")
local macro_rules|`(tactic|fin2)=>`(tactic|exact⟨rfl,rfl,rfl,by decide +kernel,rfl,by decide +kernel,by decide +kernel⟩)
local macro_rules|`(tactic|walk_at "d")=>`(tactic|try dsimp only[cxOf,Cx.nox,Cx.wish])
structure DOk (ns:List Int):Prop where
 lo:200<=ns.length
 hi:ns.length<=400
 each:∀n∈ns,0<=n/\n<10007
def lE (K:PySem.W.Frag):Sp:=λvs H Q _=>∃(s:Addr) (cs:List Int),vs=[.ref s,.int 200]/\SqL K H s (cs.map V.int)/\cs.length<=63/\∀l ns H',aj H H'->H l=none->H' l=some (.lst (ns.map V.int))->DOk ns->Q (.ref l) H'
theorem qF {xs:List V} {lo hi:Option Int}:(∀x∈cP xs lo hi,x∈xs)/\(cP xs lo hi).length<=xs.length :=
 ⟨λx hx=>List.mem_of_mem_drop (List.mem_of_mem_take hx),fu xs lo hi⟩
theorem lU:∀(xs:List V),(∀x∈xs,∃i:Int,x=.int i)->∃ds:List Int,xs=ds.map V.int
 | [],_=>⟨[],rfl⟩
 | x::xs,h=>by
  obtain⟨i,e⟩:=h x (by simp);obtain⟨ds,e2⟩:=lU xs λy hy=>h y (Qp _ hy);exact⟨i::ds,by rw[e,e2];rfl⟩
theorem pf (cs:List Int) (h:cs.length<=63) {lo hi:Option Int}:∃ds:List Int,cP (cs.map V.int) lo hi=ds.map V.int/\ds.length<=63:=by
 obtain⟨m,l⟩:=qF (xs:=cs.map V.int) (lo:=lo) (hi:=hi)
 obtain⟨ds,e⟩:=lU (cP (cs.map V.int) lo hi) λx hx=>by
  obtain⟨i,_,e⟩:=QL.mp (m x hx);exact⟨i,e.symm⟩
 refine⟨ds,e,?_⟩;rw[e,Qb,Qb]at l;omega
variable {p q l b g li lg f C0 NE CS fI a' li' lg':Addr} {H H3 H4 H1 H2 H':Hp}
theorem k9 {ns:List Int} {n:Int} {Q:VK} (h:H p=some (.lst (ns.map V.int))) (hz:ns.length<=500) (hns:∀m∈ns,0<=m/\m<10007) (hb:0<=n/\n<10007)
  (q:∀(H':Hp) (ns':List Int),H' p=some (.lst (ns'.map V.int))->ns'.length=ns.length+1->(∀m∈ns',0<=m/\m<10007)->(∀b,b≠p->H' b=H b)->Q .non H'):i0 (.ref p) [.int n] H Q:=by
 have big:1000<sizeLine:=by decide
 refine dY h (by rw[Qb];omega) (q _ (ns++[n]) (by rw[af];simp) (by simp) (λm hm=>?_) λb hb=>am hb);rcases QR.mp hm with h|h
 ·exact hns m h
 rw[Q2]at h;rw[h];exact hb
theorem kM (a:Int):0<=a % 10007/\a % 10007<10007:=⟨Q8 _ (by decide),QX _ (by decide)⟩
theorem fZ (S:aj H H3) (hp:H p=none) (h:∀b,b≠p->H4 b=H3 b):aj H H4:=λb u e=>by rw[h b (ax e hp)];exact S b u e
theorem bU {A B:TS} {D:Ends} {σ:St} (J:St->Hp->Prop) (h:∀(R:St->Hp->Prop),(∀σ H,J σ H->R σ H)->A { D with nx:=R } σ H) (hJ:∀σ H,J σ H->B D σ H):pJ A B D σ H:=h (B D) hJ
variable {P:Program} {w:World} {K:PySem.W.Frag} {mg:A2} {base:Heap} {TT:Addr}
section
theorem iV:FnScope ["script", "many", "drawn", "base", "k", "cell", "number", "one"] ["script", "many"] (ap (top 30)):=by fin2
theorem oF {f:Addr} {fd:FuncData} (Fu:Fun K "_law_draws" "_law_draws" (top 30) f fd) (T:Txt K mg TT):FnOk P w K mg base CX0 1 f fd ["script", "many"] (lE K):=by
 have S:=iV;refine Fu.ok S (by room) (λcdv A outer s H vs Q E hr h=>?_);obtain⟨a,cs,rfl,hS,hlen,k⟩:=h
 refine⟨_,(ay (ar 2 S.nd (aL ad))
  (ay (i6 (i:=3) S.nd rfl (by z_go) ac)
  (ay (ps_for PassesOwn.never rfl (i7 (by rfl) T.n_enumerate (aa (aK bH (pv 0) aX (aS ac)) ad)) (cZ rfl (aP (bC 4 S.nd) (aP (bC 5 S.nd) bV)))
  (ay (ar 6 S.nd (au pj (by rfl) T.n_abs PyProof.Rows.boot_abs (aa (pv 5) ad)))
  (ay (ar 3 S.nd (ag aH (ag aD (ag ck (pv 3) ac) (pv 6)) ac))
  (aG (ps_if (aC tY (pv 6) (ag jb ac ac) (aI _)) (aG (jM PassesOwn.never (PW.pt (d7 (aC rj (pv 6) ac (aI _)) (dM (aC lO (au aA (by rfl) T.n_len Qo (aa (pv 2) ad)) (pv 1) (aI _)))))
  (ay (bi (cA QC QF QG bg (pv 2) (aa (ag aH (pv 6) ac) ad)))
  (aG (ar 6 S.nd (ag bo (pv 6) ac)))))) (ay (ar 7 S.nd (ag aH (ag ck (ag aD (ag aD (ag aH (pv 6) ac) (pv 4)) ac) ac) ac))
  (ay (ar 7 S.nd (ag aH (ag ck (pv 7) (pv 7)) ac))
  (ay (bi (cA QC QF QG bg (pv 2) (aa (ag aH (ag bo (pv 7) ac) ac) ad)))
  (ay (ar 7 S.nd (ag aH (ag aD (ag aD (ag ck (pv 7) ac) (ag ck ac (pv 4))) ac) ac))
  (ay (ar 7 S.nd (ag aH (ag ck (pv 7) (pv 7)) ac))
  (aG (bi (cA QC QF QG bg (pv 2) (aa (ag aH (ag bo (pv 7) ac) ac) ad))))))))))))))
  (ay (ps_for PassesOwn.never rfl (bn (by rfl) T.n_range (aa (ag c7 (pv 1) (au aA (by rfl) T.n_len Qo (aa (pv 2) ad))) ad)) (bC 4 S.nd)
  (ay (ar 7 S.nd (ag aH (ag aD (ag aD (pv 3) (ag ck ac (pv 4))) ac) ac))
  (ay (ar 7 S.nd (ag aH (ag ck (pv 7) (pv 7)) ac))
  (ay (ar 7 S.nd (ag aH (ag aD (ag ck (pv 7) ac) (pv 4)) ac))
  (aG (bi (cA QC QF QG bg (pv 2) (aa (ag aH (ag bo (ag aH (ag ck (pv 7) (pv 7)) ac) ac) ac) ad))))))))
  (aG (aF (pv 2))))))),?_⟩
 x_go;lk;refine⟨by decide,λp hp=>?_⟩;generalize hE:upd _ p _=H1;have S1:aj H H1:=by rw[<-hE];exact ah hp
 have q1:H1 p=some (.lst (([]:List Int).map V.int)):=by rw[<-hE];exact af
 clear hE;lk;show be _ _ _ _ _;lk;refine cJ (S1.seq hS) λsl hsl=>?_;obtain⟨ds,hds,dl⟩:∃ds:List Int,cP (cs.map V.int) none (some 63)=ds.map V.int/\ds.length<=63:=pf cs hlen;rw[hds];generalize hE:upd _ sl _=H2;have S2:aj H1 H2:=by rw[<-hE];exact ah hsl
 have q2:H2 sl=some (.lst (ds.map V.int)):=by rw[<-hE];exact af
 clear hE;have nps:p≠sl:=ax q1 hsl;refine aZ ⟨sl,rfl,⟨_,SqL.of q2⟩,?_⟩;let I2:IvF:=λi σ H'=>(∃(bs:Int) (ns:List Int),∃x4 x5 x6 x7,σ=[some (.ref a),some (.int 200),some (.ref p),some (.int bs),x4,x5,x6,x7]/\0<=bs/\bs<2147483629/\H' p=some (.lst (ns.map V.int))/\ns.length<=200+2*i/\∀n∈ns,0<=n/\n<10007)/\aj H H'/\H' sl=some (.lst (ds.map V.int))
 refine gu (xs:=ds.map V.int) I2
  ⟨⟨7,[],_,_,_,_,rfl,by decide,by decide,S2 _ _ q1,by simp,λn h=>nomatch h⟩,S1.trans S2,q2⟩ (λi σ H' _ pv=>SqL.of pv.2.2) (λi x σ H' t hx pv ht=>?_) (λσ H' pv=>?_)
 ·obtain⟨⟨bs,ns,x4,x5,x6,x7,rfl,b0,b1,hp',hln,hns⟩,SS,hsl'⟩:=pv;rw[Ql]at hx
  cases hc:ds[i]? with
  | none=>rw[hc]at hx;cases hx
  | some c =>
  rw[hc]at hx;cases hx;have hi:i<ds.length:=(Qf.mp hc).1;have S3:=ah (o:=.tup [.int (i:Nat),.int c]) ht;refine⟨t,_,rfl,SqT.of af,rfl,?_⟩;refine⟨_,_,rfl,aB ⟨_,_,rfl,aB ?_⟩⟩;have hp3:=S3 _ _ hp';have hsl3:=S3 _ _ hsl';have SS3:=SS.trans S3;generalize upd H' t (.tup [.int (i:Nat),.int c])=H3 at *;refine⟨rfl,?_⟩;have n0:0<=(if c<0 then -c else c):=by split <;> omega
  lk;generalize (if c<0 then -c else c)=nu at *;have bb0:0<=(bs*31+nu) % 2147483629:=Q8 _ (by decide);have bb1:(bs*31+nu) % 2147483629<2147483629:=QX _ (by decide);generalize (bs*31+nu) % 2147483629=b2 at *;refine ce (λ_=>?_) (λ_=>?_)
  ·let I3:IvF:=λm σ H'=>∃(nu:Int) (ns:List Int),∃x7,m=200-ns.length/\σ=[some (.ref a),some (.int 200),some (.ref p),some (.int b2),some (.int (i:Nat)),some (.int c),some (.int nu),x7]/\H' p=some (.lst (ns.map V.int))/\ns.length<=200+2*(i+1)/\(∀n∈ns,0<=n/\n<10007)/\aj H H'/\H' sl=some (.lst (ds.map V.int))
   refine⟨I3,
    ⟨_,nu,ns,_,rfl,rfl,hp3,by omega,hns,SS3,hsl3⟩,?_⟩
   rintro m σ H4 ⟨nu,ns,x7,rfl,rfl,hp4,hl4,hn4,SS4,hs4⟩
   have done:((∃(bs:Int) (ns:List Int),∃x4 x5 x6 x7',[some (.ref a),some (.int 200),some (.ref p),some (.int b2),some (.int (i:Nat)),some (.int c),some (.int nu),x7]=[some (V.ref a),some (V.int 200),some (V.ref p),some (V.int bs),x4,x5,x6,x7']/\0<=bs/\bs<2147483629/\H4 p=some (.lst (ns.map V.int))/\ns.length<=200+2*(i+1)/\∀n∈ns,0<=n/\n<10007)/\aj H H4/\H4 sl=some (.lst (ds.map V.int))) :=
    ⟨⟨b2,ns,_,_,_,_,rfl,bb0,bb1,hp4,hl4,hn4⟩,SS4,hs4⟩
   lk;refine ce (λ_=>?_) (λ_=>iteF done);lk;refine ce (λhlt=>?_) (λ_=>done)
   have hlt':ns.length<200:=by
    have:=of_decide_eq_true hlt;rw[Qb]at this;omega
   let I4:IvJ:=λσ H'=>∃(nu:Int) (ns':List Int),∃x7,ns'.length=ns.length+1/\σ=[some (.ref a),some (.int 200),some (.ref p),some (.int b2),some (.int (i:Nat)),some (.int c),some (.int nu),x7]/\H' p=some (.lst (ns'.map V.int))/\ns'.length<=200+2*(i+1)/\(∀n∈ns',0<=n/\n<10007)/\aj H H'/\H' sl=some (.lst (ds.map V.int));refine⟨I4,λσ' H' ⟨nu,ns',x7,e,r⟩=>⟨200-ns'.length,by omega,nu,ns',x7,rfl,r⟩,?_⟩;lk;refine dY hp4 (by rw[Qb];omega) ?_;lk;refine⟨_,ns++[nu % 10007],_,by simp,rfl,by rw[af];simp,by simp;omega,λn hn=>?_,aW SS4 hp,by rw[am nps.symm];exact hs4⟩;rcases QR.mp hn with h|h
   ·exact hn4 n h
   rw[Q2]at h;rw[h];exact⟨Q8 _ (by decide),QX _ (by decide)⟩
  lk;refine k9 hp3 (by omega) hns (kM _) λH4 ns4 hp4 l4 hn4 o4=>?_;lk;refine k9 hp4 (by omega) hn4 (kM _) λH5 ns5 hp5 l5 hn5 o5=>?_;exact⟨⟨b2,ns5,_,_,_,_,rfl,bb0,bb1,hp5,by omega,hn5⟩,fZ (fZ SS3 hp o4) hp o5,by rw[o5 _ nps.symm,o4 _ nps.symm];exact hsl3⟩
 obtain⟨⟨bs,ns,x4,x5,x6,x7,rfl,b0,b1,hp',hln,hns⟩,SS,hsl'⟩:=pv;rw[Qb]at hln;lk;refine⟨by rw[Qb];omega,by rw[Qb];omega,?_⟩;rw[Qb];let I5:IvF:=λi σ H'=>(∃(ns':List Int),∃x4 x5 x6 x7,σ=[some (.ref a),some (.int 200),some (.ref p),some (.int bs),x4,x5,x6,x7]/\H' p=some (.lst (ns'.map V.int))/\ns'.length=ns.length+i/\∀n∈ns',0<=n/\n<10007)/\aj H H';refine bQ I5 ⟨⟨ns,_,_,_,_,rfl,hp',rfl,hns⟩,SS⟩ (λi σ H' hi pv=>?_) (λσ H' pv=>?_)
 ·obtain⟨⟨ns',x4,x5,x6,x7,rfl,hp6,hl6,hn6⟩,SS6⟩:=pv;have hi':i<200:=by omega
  refine aB ?_;lk;refine k9 hp6 (by omega) hn6 (kM _) λH7 ns7 hp7 l7 hn7 o7=>?_;exact⟨⟨ns7,_,_,_,_,rfl,hp7,by omega,hn7⟩,fZ SS6 hp o7⟩
 obtain⟨⟨ns',x4,x5,x6,x7,rfl,hp6,hl6,hn6⟩,SS6⟩:=pv;refine s_ret (te:=bA 2) (D:={ nx:=λx H'=>Q V.non H',rt:=Q }) (aE rfl ?_);exact k p ns' H' SS6 hp hp6 ⟨by omega,by omega,hn6⟩
end
theorem c9 {T:List Nat}:∀(zs:List Str),(∀z∈zs,∃c∈T,z=⟨#[c]⟩)->((zs.map (·.cps.toList)).flatten).length=zs.length/\(∀c∈(zs.map (·.cps.toList)).flatten,c∈T)/\(zs.map (·.length)).sum=zs.length
 | [],_=>⟨rfl,λc h=>(List.not_mem_nil h).elim,rfl⟩
 | z::zs,h=>by
  obtain⟨c,hc,rfl⟩:=h z (by simp);obtain⟨e1,e2,e3⟩:=c9 zs λz hz=>h z (Qp _ hz);refine⟨?_,λd hd=>?_,?_⟩
  ·simp only[Qs,Q0,Qi,e1,QM];show (#[c]:Array Nat).toList.length+zs.length=_;simp;omega
  ·simp only[Qs,Q0,QR]at hd;rcases hd with hd|hd
   ·have:d=c:=by simpa using hd
    rw[this];exact hc
   exact e2 d hd
  simp only[Qs,List.sum_cons,QM,e3];show (#[c]:Array Nat).size+zs.length=_;simp;omega
variable {zs ns ins os as ps:List Str} {T I G L:List Nat}
theorem mU (h:∀z∈zs,∃c∈T,z=⟨#[c]⟩):(Txt.join Str.empty zs).cps.size=zs.length/\∀c∈(Txt.join Str.empty zs).cps.toList,c∈T:=by
 obtain⟨e1,e2,_⟩:=c9 zs h;rw[<-Qz,ip];exact⟨e1,e2⟩
theorem qK {t:Str} {r:Int} (h0:0<=r) (h1:r<t.cps.size):∃c,atI t.cps.toList r=some c/\c∈t.cps.toList:=by
 have hr:r.toNat<t.cps.toList.length:=by rw[Qz];omega
 refine⟨t.cps.toList[r.toNat],?_,xh hr⟩;have e:r=((r.toNat:Nat):Int):=by omega
 have q:=a_ (xs:=t.cps.toList) (j:=r.toNat) (v:=t.cps.toList[r.toNat]) (Qd hr);rw[<-e]at q;exact q
def Lt:Str := "abcdefghijklmnopqrstuvwxyz"
def Xn (t:Nat):Str:=Txt.mul ⟨#[Lt.cps.getD t 0]⟩ 8
theorem tm:∀i,i<26->∀j,j<26->Xn i=Xn j->i=j:=by decide +kernel
theorem tj:∀t,t<26->(Xn t).length=8:=by decide +kernel
theorem uw (c:Nat):MulOk ⟨#[c]⟩ 8:=by
 refine⟨by decide,λ_ _=>?_,λ_ _=>?_⟩
 ·show ¬((1:Int)>(2 ^ 63-1) / 8)
  decide
 rfl
theorem og:∀(xs ys:List Str),xs.Nodup->(∀x∈xs,x∈ys)->xs.length<=ys.length
 | [],ys,_,_=>QZ _
 | x::xs,ys,nd,h=>by
  rw[xk]at nd;have hx:=h x (by simp);have:=og xs (ys.erase x) nd.2 λy hy=>(List.mem_erase_of_ne (λz:y=x=>nd.1 (by rw[<-z];exact hy))).mpr (h y (Qp _ hy));rw[List.length_erase_of_mem hx]at this;have:0<ys.length:=List.length_pos_of_mem hx;rw[QM];omega
theorem j5:∀t,t<=26->((List.range t).map Xn).Nodup
 | 0,_=>by simp
 | t+1,h=>by
  rw[List.range_succ,QJ,List.nodup_append];refine⟨j5 t (by omega),by simp,λa ha b hb e=>?_⟩;obtain⟨i,hi,rfl⟩:=QL.mp ha;rw[List.mem_range]at hi;have:b=Xn t:=by simpa using hb
  subst this;have:=tm i (by omega) t (by omega) e;omega
theorem uM {t:Nat} (ht:t<=26) (h:∀j,j<t->Xn j∈ns):t<=ns.length:=by
 have:=og ((List.range t).map Xn) ns (j5 t ht) λx hx=>by
  obtain⟨j,hj,rfl⟩:=QL.mp hx;exact h j (List.mem_range.mp hj)
 simpa using this
structure NmOk (b:Nat) (z:Str):Prop where
 pos:1<=z.length
 lt:z.length<b
def Bd (k:Nat):Nat:=9*2 ^ k
theorem mj (k:Nat):Bd (k+1)=2*Bd k:=by unfold Bd;rw[Nat.pow_succ];omega
theorem rL:∀k,9<=Bd k
 | 0=>by decide
 | k+1=>by rw[mj];have:=rL k;omega
theorem rK:∀k,k<=11->Bd k<=20000:=by decide
theorem eR {nm:Str}:∀{ns:List Str},inV (.str nm) (ns.map V.str)=true↔nm∈ns
 | []=>by simp[inV]
 | n::ns=>by
  have ih:=eR (nm:=nm) (ns:=ns);unfold inV at ih ⊢;rw[Qs,List.any_cons,Bool.or_eq_true,ih,Q5];have:eqV (.str n) (.str nm)=(n==nm):=rfl;rw[this,beq_iff_eq];exact⟨λh=>h.imp Eq.symm id,λh=>h.imp Eq.symm id⟩
theorem ir (ns:List Str):(ns.map V.str).all cC=true:=by
 rw[xg];intro x hx;obtain⟨n,_,rfl⟩:=QL.mp hx;rfl
theorem qJ (h:ns≠[]):∃n∈ns,atI (ns.map V.str) (-1)=some (.str n):=by
 have hl:0<ns.length:=List.length_pos_iff.mpr h;refine⟨ns[ns.length-1],xh _,?_⟩
 have e:ixN (ns.map V.str).length (-1)=some (ns.length-1):=by
  unfold ixN;rw[Qb,QB (by decide),QH (by omega)];congr 1;omega
 unfold atI;rw[e];show (ns.map V.str)[ns.length-1]?=_;rw[Ql,Qd (by omega)];rfl
theorem mh {ws:List Str} {r:Int} (h0:0<=r) (h1:r<ws.length):∃n∈ws,atI (ws.map V.str) r=some (.str n):=by
 have hr:r.toNat<ws.length:=by omega
 refine⟨ws[r.toNat],xh hr,?_⟩;have e:r=((r.toNat:Nat):Int):=by omega
 have q:=a_ (xs:=ws.map V.str) (j:=r.toNat) (v:=.str ws[r.toNat]) (by rw[Ql,Qd hr];rfl);rw[<-e]at q;exact q
theorem gX {X:Cx} {K:PySem.W.Frag} (h:X.K=K):cD X (.builtin "len") (λxs H Q=>∃p ys,xs=[.ref p]/\(SqL K H p ys\/SqT K H p ys)/\Q (.int ys.length) H):=by subst h;exact aA
theorem kB {X:Cx} {K:PySem.W.Frag} (h:X.K=K):OpR X (compareOp .In) (rIn K false):=by subst h;exact ig
theorem nW {X:Cx} {K:PySem.W.Frag} (h:X.K=K):SlR X (sk K):=by subst h;exact bH
theorem gv {xs:Array Nat}:∀(j a:Nat),a+j<=xs.size->((List.range j).map λk=>a+k).filterMap (xs[·]?)=(xs.toList.drop a).take j
 | 0,a,_=>by simp
 | j+1,a,h=>by
  rw[List.range_succ,QJ,List.filterMap_append,gv j a (by omega),List.take_succ];have e:(xs.toList.drop a)[j]?=xs[a+j]?:=by rw[List.getElem?_drop];simp
  rw[e];have q:xs[a+j]?=some (xs[a+j]'(by omega)):=by rw[Array.getElem?_eq_getElem]
  simp[q]
variable {z y x c:Str}
theorem fV {a b:Nat} {lo hi:Option Int} (hl:PySem.Builtin.Str.strSliceIndices lo hi 1 z.length=(List.range (b-a)).map λk=>a+k) (hb:b<=z.cps.size) (hab:a<=b):(Txt.slice z lo hi).cps.toList=(z.cps.toList.drop a).take (b-a):=by
 unfold Txt.slice;rw[hl]
 split
 ·rename_i h
  have h:b-a=z.length:=by simpa using h
  have h':z.length=z.cps.size:=rfl;have a0:a=0:=by omega
  subst a0;rw[List.drop_zero,Q6 (by rw[Qz];omega)]
 exact gv (b-a) a (by omega)
theorem fU {z:Str} {j:Nat} (h:j<=z.cps.size):(Txt.slice z none (some (j:Int))).cps.toList=z.cps.toList.take j:=by
 have h':z.length=z.cps.size:=rfl;refine(fV (a:=0) (b:=j) ?_ h (QZ _)).trans (by simp);unfold PySem.Builtin.Str.strSliceIndices sliceRange
 have e:max 0 (min (if (j:Int)<0 then (j:Int)+z.length else (j:Int)) (z.length:Int))=(j:Int):=by
  rw[QB (by omega)];omega
 simp only[show (1:Int)>0 from by decide,if_true,e];have c:(if (0:Int)<(j:Int) then ((j:Int)-0+1-1) / 1 else 0).toNat=j-0:=by split <;> omega
 rw[c];refine List.map_congr_left λk _=>?_;omega
theorem fW {z:Str} {a:Nat} (h:a<=z.cps.size):(Txt.slice z (some (a:Int)) none).cps.toList=z.cps.toList.drop a:=by
 have h':z.length=z.cps.size:=rfl;refine(fV (a:=a) (b:=z.cps.size) ?_ (Qh _) h).trans (by rw[Q6 (by rw[QU,Qz];omega)]);unfold PySem.Builtin.Str.strSliceIndices sliceRange
 have e:max 0 (min (if (a:Int)<0 then (a:Int)+z.length else (a:Int)) (z.length:Int))=(a:Int):=by
  rw[QB (by omega)];omega
 simp only[show (1:Int)>0 from by decide,if_true,e];have c:(if (a:Int)<(z.length:Int) then ((z.length:Int)-(a:Int)+1-1) / 1 else 0).toNat=z.cps.size-a:=by split <;> omega
 rw[c];refine List.map_congr_left λk _=>?_;omega
theorem mt {z:Str} {j:Int} (hz:1<=z.length) (hj:1<=j) (hn:j<=z.length):1<=(Txt.slice z none (some j)).length:=by
 have h':z.length=z.cps.size:=rfl;have e:j=((j.toNat:Nat):Int):=by omega
 have q:=congrArg List.length (fU (z:=z) (j:=j.toNat) (by omega));rw[<-e,Qz,Qu,Qz]at q;show 1<=(Txt.slice z none (some j)).cps.size;omega
def jy:Sp:=λvs H Q _=>∃(d:Addr) (ns:List Int) (spot:Int),vs=[.ref d,.int spot]/\H d=some (.lst (ns.map V.int))/\DOk ns/\0<=spot/\spot<=1000 /\
 ∀l (nm:List Str) H',aj H H'->H l=none->nm.length=11->nm.Nodup->H' l=some (.lst (nm.map V.str))->(∀n∈nm,n.length<=20000)->Q (.ref l) H'
theorem gG {ns:List Int} (h:DOk ns) (i:Int):∃n,0<=n/\n<10007/\atI (ns.map V.int) (i % ((ns.map V.int).length:Int))=some (.int n):=by
 have lo:=h.lo;rw[Qb];have h1:0<=i % (ns.length:Int):=Q8 _ (by omega);have h2:i % (ns.length:Int)<ns.length:=QX _ (by omega);have h3:(i % (ns.length:Int)).toNat<ns.length:=by omega
 have e:i % (ns.length:Int)=(((i % (ns.length:Int)).toNat:Nat):Int):=by omega
 obtain⟨e1,e2⟩:=h.each _ (xh h3);refine⟨ns[(i % (ns.length:Int)).toNat],e1,e2,?_⟩;have q:=a_ (xs:=ns.map V.int) (j:=(i % (ns.length:Int)).toNat) (v:=.int ns[(i % (ns.length:Int)).toNat]) (by rw[Ql,Qd h3];rfl);rw[<-e]at q;exact q
theorem cu {ns:List Int} (h:DOk ns) {i:Int} (h0:0<=i) (h1:i<200):∃n,0<=n/\n<10007/\atI (ns.map V.int) i=some (.int n):=by
 have lo:=h.lo;have h3:i.toNat<ns.length:=by omega
 obtain⟨e1,e2⟩:=h.each _ (xh h3);refine⟨ns[i.toNat],e1,e2,?_⟩;have e:i=((i.toNat:Nat):Int):=by omega
 have q:=a_ (xs:=ns.map V.int) (j:=i.toNat) (v:=.int ns[i.toNat]) (by rw[Ql,Qd h3];rfl);rw[<-e]at q;exact q
theorem gd:∀(zs:List Str),(∀z∈zs,z.length=2)->((zs.map (·.cps.toList)).flatten).length=2*zs.length/\(zs.map (·.length)).sum=2*zs.length
 | [],_=>⟨rfl,rfl⟩
 | z::zs,h=>by
  have h0:z.cps.size=2:=h z (by simp);have h0':z.length=2:=h0;obtain⟨e1,e3⟩:=gd zs λz hz=>h z (Qp _ hz);refine⟨?_,?_⟩
  ·simp only[Qs,Q0,Qi,e1,QM,Qz,h0];omega
  simp only[Qs,List.sum_cons,QM,e3,h0'];omega
theorem lap (a b:Str):(a++b).length=a.length+b.length:=by show (a.cps++b.cps).size=_;rw[Array.size_append];rfl
theorem iC (i:Int):∃c,atI Lt.cps.toList (i % 26)=some c:=by
 have z26:((Lt.cps.size:Nat):Int)=26:=by decide +kernel
 obtain⟨c,e,_⟩:=qK (t:=Lt) (r:=i % 26) (Q8 _ (by decide)) (by rw[z26];exact QX _ (by decide));exact⟨c,e⟩
def NJd (d l so:Addr) (spot:Int) (H:Hp) (wd:Str) (i:Nat) (ns:List Str):St->Hp->Prop:=λσ H'=>∃(way x:Int) (nm:Str) (x10 x11:Option V),σ=[some (.ref d),some (.int spot),some (.str Lt),some (.ref l),some (.int (0+i)),some (.ref so),some (.str wd),some (.int way),some (.int x),some (.str nm),x10,x11]/\0<=x/\NmOk (Bd (i+1)) nm/\H' l=some (.lst (ns.map V.str))/\aj H H'
section
theorem iQ:FnScope ["d", "spot", "letters", "found", "k", "some", "word", "way", "x", "name", "at", "turn"] ["d", "spot"] (ap (top 31)):=by fin2
theorem mG {f:Addr} {fd:FuncData} (Fu:Fun K "_law_names" "_law_names" (top 31) f fd) (T:Txt K mg TT):FnOk P w K mg base CX0 1 f fd ["d", "spot"] jy:=by
 have S:=iQ;refine Fu.ok S (by room) (λcdv A outer s H vs Q E hr h=>?_);obtain⟨d,ds,spot,rfl,hd,dok,sp0,sp1,k⟩:=h;refine'⟨?_,?bb,?_⟩
 case bb =>
  walk_at "b";exact ar 2 S.nd az;exact ar 3 S.nd (aL ad);walk_at "f";exact(bn (by rfl) T.n_range (aa ac ad aq));exact(bC 4 S.nd);walk_at "p";exact(nZ (j:=5) S.nd rfl (by z_go) (tgs:=["j"]) (cap:=[("d", 0),("spot", 1),("k", 4)]) rfl ⟨rfl,rfl,rfl,rfl,rfl,rfl⟩ (bn (by rfl) T.n_range (aa ac ad aq)) (λ_ _ _ _=>(bW (i:=0) (show List.Nodup [("j" : Str),("d" : Str),("spot" : Str),("k" : Str)] by decide +kernel) rfl (by z_go))) (λ_ _ _ _=>dB) (λ_ _ _ _=>(al (eQ (K:=K) rfl) (pv 1) (ag aH (ag aD (ag aD (ag aD ac (pv 2)) (ag ck ac (pv 3))) (pv 0)) (au (gX (K:=K) rfl) (by rfl) T.n_len Qo (aa (pv 1) ad ae))))));exact ar 6 S.nd (cA PySem.F.plainAttrs_str PySem.F.slot_str_join PySem.F.type_str_join lQ az (aa (gb "one" [("letters", 2)] (cY (aK bH (pv 5) aX (aS ac))) (λ_ _ _ _=>(ag aQ (al cB (pv 1) (ag aH (pv 0) ac)) (al cB (pv 1) (ag aH (ag bo (pv 0) ac) ac))))) ad));exact ar 7 S.nd (ag aH (al ao (pv 5) ac) ac);exact ar 8 S.nd (ag bo (al ao (pv 5) ac) ac);exact ar 9 S.nd (aK cj (pv 6) aX (aS (ag aD ac (ag aH (pv 8) ac))));exact(aC bD (pv 7) ac (aI _));exact ar 9 S.nd (ag aQ (aK cj (al ao (ag bF (pv 3) (aL (aa (pv 6) ad ae))) ac) aX (aS (ag aH (pv 8) ac))) (al cB (pv 6) ac));exact(PW.pt (d7 (aC bD (pv 7) ac (aI _)) (dM (aC (oo hr.units) (pv 3) (aL ad) (aI _)))));exact ar 10 S.nd (ag aH (pv 8) (au cr (by rfl) T.n_len Qo (aa (al ao (pv 3) (fq dy ac)) ad)));exact ar 9 S.nd (ag aQ (ag aQ (aK cj (al ao (pv 3) (fq dy ac)) aX (aS (pv 10))) (al cB (pv 6) ac)) (aK cj (al ao (pv 3) (fq dy ac)) (aS (ag aD (pv 10) ac)) aX));exact(aC bD (pv 7) ac (aI _));exact ar 9 S.nd (al ao (aL (aa az (aa az (aa az (aa az (aa az (aa az (aa az (aa az (aa az (aa az ad aq) aq) aq) aq) aq) aq) aq) aq) aq) aq)) (ag aH (pv 8) ac));exact ar 11 S.nd ac;refine' jM PassesOwn.never ?_ ?_;rotate_left 2;exact(aC ig (pv 9) (pv 3) rfl);walk_at "p";exact ar 9 S.nd (ag d_ (al cB (pv 2) (pv 11)) ac);exact ar 11 S.nd (ag aD (pv 11) ac);exact(bi (cA QC QF QG bg (pv 3) (aa (pv 9) ad ae)));exact(aF (pv 3))
 x_go;lk;refine⟨by decide,λl hl=>?_⟩;generalize hE:upd _ l _=H1;have S1:aj H H1:=by rw[<-hE];exact ah hl
 have q1:H1 l=some (.lst (([]:List Str).map V.str)):=by rw[<-hE];exact af
 clear hE;lk;refine⟨by decide,by decide,?_⟩;let I6:IvF:=λi σ H'=>∃x4 x5 x6 x7 x8 x9 x10 x11,∃ns:List Str,σ=[some (.ref d),some (.int spot),some (.str Lt),some (.ref l),x4,x5,x6,x7,x8,x9,x10,x11]/\i<=11/\ns.length=i/\ns.Nodup/\(∀n∈ns,NmOk (Bd i) n)/\H' l=some (.lst (ns.map V.str))/\aj H H'
 refine bQ (n:=11) I6
  ⟨_,_,_,_,_,_,_,_,[],rfl,QZ _,rfl,List.nodup_nil,(λn h=>nomatch h),q1,S1⟩ (λi σ H' hi pv=>?_) (λσ H' pv=>?_)
 ·obtain⟨x4,x5,x6,x7,x8,x9,x10,x11,ns,rfl,_,hn,nd,good,hl',SS⟩:=pv;have bge:=rL i;have ble:=rK i (by omega);have bsu:=mj i;refine aB ?_;lk;refine i_comp ?_;lk;refine⟨by decide,by decide,λso hso=>?_⟩;have hdH:=SS _ _ hd;let I7:IvC:=λn H2 ys=>aj H' H2/\H2 so=some (.lst ys)/\∃zs:List Int,ys=zs.map V.int/\zs.length=n/\∀z∈zs,0<=z/\z<10007;refine de I7 ⟨ah hso,af,[],rfl,rfl,λz h=>nomatch h⟩ (λn H2 ys p=>p.2.1) (λn H2 ys hn5 p=>?_) (λH2 ys p=>?_)
  ·obtain⟨S2,h2,zs,rfl,hz,hc⟩:=p;refine aB ⟨⟨rfl,rfl,rfl,trivial⟩,i_yes (cc ?_)⟩;show tOp _ _ _ [some (.int (0+n)),some (.ref d),some (.int spot),some (.int (0+i))] _ _;have hd2:=S2 _ _ hdH;have lo:=dok.lo;lk;refine i_rI (by rw[Qb];omega) ?_;obtain⟨m,m0,m1,em⟩:=gG dok (140+spot+5*(0+(i:Int))+(0+(n:Int)));refine aO (SqL.of hd2) em ?_;refine bN.mk h2 hn5 (by rw[Qb];omega) ⟨aW S2 hso,af,zs++[m],by simp,by simp[hz],λz hz'=>?_⟩;rcases QR.mp hz' with h|h
   ·exact hc z h
   rw[Q2]at h;rw[h];exact⟨m0,m1⟩
  obtain⟨S2,h2,zs,rfl,hz,hc⟩:=p
  obtain⟨z0,z1,z2,z3,z4,rfl⟩:∃z0 z1 z2 z3 z4,zs=[z0,z1,z2,z3,z4]:=by
   match zs,hz with
   | [z0,z1,z2,z3,z4],_=>exact⟨z0,z1,z2,z3,z4,rfl⟩
  have SS2:=SS.trans S2;have hl2:=S2 _ _ hl';have c4:=hc z4 (by simp);lk;refine⟨rfl,?_⟩;lk;refine i_comp ?_;lk;refine cJ (SqL.of h2) λsl hsl=>?_;rw[show cP (([z0,z1,z2,z3,z4]:List Int).map V.int) none (some 4)=([z0,z1,z2,z3]:List Int).map V.int from rfl];generalize hE:upd _ sl _=H3;have S3:aj H2 H3:=by rw[<-hE];exact ah hsl
  have q3:H3 sl=some (.lst (([z0,z1,z2,z3]:List Int).map V.int)):=by rw[<-hE];exact af
  clear hE;refine⟨sl,rfl,⟨_,SqL.of q3⟩,λwl hwl=>?_⟩;let I8:IvC:=λn H4 ys=>aj H3 H4/\H4 wl=some (.lst ys)/\∃ws:List Str,ys=ws.map V.str/\ws.length=n/\∀w∈ws,w.length=2;refine dR (xs:=([z0,z1,z2,z3]:List Int).map V.int) I8 ⟨ah hwl,af,[],rfl,rfl,λz h=>nomatch h⟩ (λn H4 ys p=>⟨p.2.1,SqL.of (p.1 _ _ q3)⟩) (λn y H4 ys e p=>?_) (λH4 ys p=>?_)
  ·obtain⟨S4,h4,ws,rfl,hw,hc4⟩:=p;have hn4:n<4:=(Qf.mp e).1;rw[Ql]at e
   cases ez:([z0,z1,z2,z3]:List Int)[n]? with
   | none=>rw[ez]at e;cases e
   | some o =>
   rw[ez]at e;cases e;refine aB ⟨⟨rfl,trivial⟩,i_yes (cc ?_)⟩;show tOp _ _ _ [some (.int o),some (.str Lt)] _ _;obtain⟨c1,e1⟩:=iC o;obtain⟨c2,e2⟩:=iC (o / 26);lk;refine dF (by decide +kernel) e1 ?_;lk;refine dF (by decide +kernel) e2 ?_;refine⟨_,_,rfl,rfl,(by show 1+1<=sizeLine;decide),?_⟩;refine bN.mk h4 hn4 (by rw[Qb];omega) ⟨aW S4 hwl,af,ws++[⟨#[c1]⟩++⟨#[c2]⟩],by simp,by simp[hw],λz hz'=>?_⟩;rcases QR.mp hz' with h|h
   ·exact hc4 z h
   rw[Q2]at h;rw[h];rfl
  obtain⟨S4,h4,ws,rfl,hw,hc4⟩:=p;have hw:ws.length=4:=hw;obtain⟨f1,f2⟩:=gd ws hc4;have e0:("" : Str)=Str.empty:=by decide +kernel
  have e00:("" : Str).length=0:=by decide +kernel
  have SS4:=SS2.trans (S3.trans S4);have hl4:=(S3.trans S4) _ _ hl2;have h24:=(S3.trans S4) _ _ h2;refine aZ ⟨"", wl,ws,rfl,rfl,SqL.of h4,by rw[f2,e00];omega,?_⟩;rw[e0]
  have wdl:(Txt.join Str.empty ws).length=8:=by
   show (Txt.join Str.empty ws).cps.size=8;rw[<-Qz,ip,f1,hw]
  generalize Txt.join Str.empty ws=wd at *;have wd':wd.cps.size=8:=wdl;clear S2 S3 S4 h2 q3 h4 f1 f2 hw hc4 hso hsl hwl hl2 SS2;lk;have x0:0<=z4 / 4:=by omega
  generalize z4 / 4=xx at *;generalize z4 % 4=way at *;have sp:=mt (z:=wd) (j:=1+xx % 8) (by omega) (by omega) (by omega);have sle:=Txt.slice_le wd none (some (1+xx % 8));refine dq (by omega) ?_;have hnm:NmOk (Bd (i+1)) (Txt.slice wd none (some (1+xx % 8))):=⟨sp,by omega⟩;generalize Txt.slice wd none (some (1+xx % 8))=nm at *;refine aB ?_;have aw:atI wd.cps.toList 0=some (wd.cps.getD 0 0):=a_ (j:=0) (by simp[Array.getD,wd']);have l1:∀c,(⟨#[c]⟩:Str).length=1:=λ_=>rfl;with_reducible refine bU (NJd d l so spot H wd i ns) (λR hR=>?_) (λσ6 H6 j6=>?_)
  ·lk;refine ce (λ_=>?_) (λ_=>hR _ _ ⟨way,xx,nm,x10,x11,rfl,x0,hnm,hl4,SS4⟩);lk;refine⟨by show 1<=sizeLine;decide,λp hp=>?_⟩;generalize hE:upd _ p _=H5;have S5:aj H4 H5:=by rw[<-hE];exact ah hp
   have q5:H5 p=some (.lst [.str wd]):=by rw[<-hE];exact af
   clear hE;have hl5:=S5 _ _ hl4;refine bZ hl5 q5 (by rw[Qb];simp;omega) λp2 hp2=>?_;rw[show ns.map V.str++[V.str wd]=(ns++[wd]).map V.str from by simp];generalize hE:upd _ p2 _=H6;have S6:aj H5 H6:=by rw[<-hE];exact ah hp2
   have q6:H6 p2=some (.lst ((ns++[wd]).map V.str)):=by rw[<-hE];exact af
   clear hE
   obtain⟨a0,ha0,ea0,la0⟩:∃a0,a0∈ns++[wd]/\atI ((ns++[wd]).map V.str) 0=some (.str a0)/\a0.length<Bd i:=by
    cases ens:ns with
    | nil=>exact⟨wd,by simp,rfl,by omega⟩
    | cons a r=>exact⟨a,by simp,a_ (j:=0) (by simp),(good a (by rw[ens];simp)).lt⟩
   lk;refine aO (SqL.of q6) ea0 ?_;lk;refine dq (by omega) ?_;lk;refine dF (by omega) aw ?_;have sl:=Txt.slice_le a0 none (some (xx % 8));refine⟨_,_,rfl,rfl,by rw[l1];omega,?_⟩;refine aB (hR _ _ ⟨way,xx,_,x10,x11,rfl,x0,?_,(S5.trans S6) _ _ hl4,SS4.trans (S5.trans S6)⟩);exact⟨by rw[lap,l1];omega,by rw[lap,l1];omega⟩
  clear hnm SS4 hl4 h24 x0;with_reducible refine bU (NJd d l so spot H wd i ns) (λR hR=>?_) (λσ7 H7 j7=>?_)
  ·obtain⟨way,xx,nm,x10,x11,rfl,x0,hnm,hl6,SS6⟩:=j6;have out:∀H',aj H6 H'->R [some (.ref d),some (.int spot),some (.str Lt),some (.ref l),some (.int (0+i)),some (.ref so),some (.str wd),some (.int way),some (.int xx),some (.str nm),x10,x11] H':=λH' kq=>hR _ _ ⟨way,xx,nm,x10,x11,rfl,x0,hnm,kq _ _ hl6,SS6.trans kq⟩;lk;refine ce (λ_=>?_) (λ_=>?_)
   ·lk;refine⟨by decide,λp hp=>?_⟩;have S7:=ah (o:=.lst []) hp;have hl7:=S7 _ _ hl6;refine⟨l,p,_,[],λ_=>true,rfl,rfl,SqL.of hl7,SqL.of af,(λj x y _ h=>by simp at h),⟨_,rfl,?_⟩⟩;refine ce (λhne=>?_) (λ_=>out _ S7);have nne:ns≠[]:=λz=>by subst z;simp at hne
    obtain⟨la,hla,ela⟩:=qJ nne;have gla:=good la hla;have gp:=gla.pos;have gl:=gla.lt;have SS8:=SS6.trans S7;generalize upd H6 p (.lst [])=H8 at *;lk;refine aO (SqL.of hl7) ela ?_;lk;refine⟨_,rfl,by omega,?_⟩;refine i_rI (by omega) ?_;lk;refine aO (SqL.of hl7) ela ?_;lk;refine dq (by omega) ?_;lk;refine dF (by omega) aw ?_;generalize xx % (la.length:Int)=at1 at *;have sl1:=Txt.slice_le la none (some at1);have sl2:=Txt.slice_le la (some (at1+1)) none;refine⟨_,_,rfl,rfl,by rw[l1];omega,?_⟩;lk;refine aO (SqL.of hl7) ela ?_;lk;refine dq (by omega) ?_;refine⟨_,_,rfl,rfl,by rw[lap,l1];omega,?_⟩;refine aB (hR _ _ ⟨way,xx,_,_,x11,rfl,x0,?_,hl7,SS8⟩);exact⟨by rw[lap,lap,l1];omega,by rw[lap,lap,l1];omega⟩
   first|exact out _ (aj.refl _)|exact iteF (out _ (aj.refl _))
  with_reducible refine bU (NJd d l so spot H wd i ns) (λR hR=>?_) (λσ8 H8 j8=>?_)
  ·obtain⟨way,xx,nm,x10,x11,rfl,x0,hnm,hl6,SS6⟩:=j7;lk;refine ce (λ_=>?_) (λ_=>hR _ _ ⟨way,xx,nm,x10,x11,rfl,x0,hnm,hl6,SS6⟩);lk;refine⟨by decide +kernel,λp hp=>?_⟩;have S7:=ah (o:=.lst ((["a", "wire", "not", "and", "or", "zzzzzzzz", "in", "start", "none", "end"]:List Str).map V.str)) hp;have hl7:=S7 _ _ hl6;have hp7:upd H7 p (.lst ((["a", "wire", "not", "and", "or", "zzzzzzzz", "in", "start", "none", "end"]:List Str).map V.str)) p=some (.lst ((["a", "wire", "not", "and", "or", "zzzzzzzz", "in", "start", "none", "end"]:List Str).map V.str)):=af;show tOp _ _ _ _ (upd H7 p (.lst ((["a", "wire", "not", "and", "or", "zzzzzzzz", "in", "start", "none", "end"]:List Str).map V.str))) _;have SS8:=SS6.trans S7;generalize upd H7 p (.lst ((["a", "wire", "not", "and", "or", "zzzzzzzz", "in", "start", "none", "end"]:List Str).map V.str))=H8 at *;obtain⟨pw,hw,ew⟩:=mh (ws:=["a", "wire", "not", "and", "or", "zzzzzzzz", "in", "start", "none", "end"]) (r:=xx % 10) (by omega) (by show xx % 10<10;omega);lk;refine aO (SqL.of hp7) ew ?_;refine aB (hR _ _ ⟨way,xx,pw,x10,x11,rfl,x0,?_,hl7,SS8⟩);have hh:∀wd∈(["a", "wire", "not", "and", "or", "zzzzzzzz", "in", "start", "none", "end"]:List Str),1<=wd.length/\wd.length<=8:=by decide +kernel
   obtain⟨q1,q2⟩:=hh pw hw;exact⟨q1,by omega⟩
  obtain⟨way,xx,nm,x10,x11,e,x0,hnm,hl6,SS6⟩:=j8;subst e;with_reducible refine s_seq (s_asg (i_c (aB ?_)))
  let I9:IvJ:=λσ H'=>∃(t:Int) (nm:Str),σ=[some (.ref d),some (.int spot),some (.str Lt),some (.ref l),some (.int (0+i)),some (.ref so),some (.str wd),some (.int way),some (.int xx),some (.str nm),x10,some (.int t)]/\NmOk (Bd (i+1)) nm/\nm∉ns/\H'=H8;with_reducible refine bU I9 (λR hR=>?_) (λσ9 H9 j9=>?_)
  ·let I10:IvF:=λn σ H'=>∃(t:Nat) (nm:Str),n=26-t/\t<=11/\σ=[some (.ref d),some (.int spot),some (.str Lt),some (.ref l),some (.int (0+i)),some (.ref so),some (.str wd),some (.int way),some (.int xx),some (.str nm),x10,some (.int t)]/\NmOk (Bd (i+1)) nm/\H'=H8/\(∀j,j+1<t->Xn j∈ns)/\(1<=t->nm=Xn (t-1));refine⟨I10,⟨26,0,nm,rfl,by omega,rfl,hnm,rfl,(λj h=>by omega),(λh=>by omega)⟩,?_⟩;rintro n σ H' ⟨t,nm,rfl,t11,rfl,hnm,rfl,q1,q2⟩;have z26:((Lt.cps.size:Nat):Int)=26:=by decide +kernel
   lk;refine uG (SqL.of hl6) rfl (ir ns) ?_;refine⟨_,rfl,?_⟩;refine ce (λhin=>?_) (λhin=>?_)
   ·have hmem:=eR.mp hin
    have hall:∀j,j<t->Xn j∈ns:=λj hj=>by
     by_cases z:j+1<t
     ·exact q1 j z
     have:j=t-1:=by omega
     rw[this,<-q2 (by omega)];exact hmem
    have ht:=uM (by omega) hall;refine⟨_,λσ' H' w=>⟨26-(t+1),by omega,w⟩,?_⟩;lk
    have et:atI Lt.cps.toList ((t:Nat):Int)=some (Lt.cps.getD t 0):=by
     refine a_ ?_;have:t<Lt.cps.size:=by omega
     simp[Array.getD,this]
    refine dF (by decide +kernel) et ?_;lk;refine⟨_,_,rfl,rfl,uw _,?_⟩;lk;refine⟨t+1,Xn t,rfl,by omega,rfl,?_,rfl,(λj hj=>hall j (by omega)),(λ_=>rfl)⟩;have:=tj t (by omega);exact⟨by omega,by omega⟩
   exact hR _ _ ⟨t,nm,rfl,hnm,λz=>hin (eR.mpr z),rfl⟩
  obtain⟨t,nm,e,hnm,hnot,e9⟩:=j9;subst e e9;lk;refine dY hl6 (by rw[Qb];omega) ?_;refine⟨_,_,_,_,_,_,_,_,ns++[nm],rfl,by omega,by simp[hn],?_,λn hn'=>?_,by rw[af];simp,aW SS6 hl⟩
  ·rw[List.nodup_append]
   exact⟨nd,by simp,λa ha b hb e=>hnot (by
    have hb':b=nm:=by simpa using hb
    rw[<-hb',<-e];exact ha)⟩
  rcases QR.mp hn' with h|h
  ·have g:=good n h;have g1:=g.pos;have g2:=g.lt;exact⟨g1,by omega⟩
  have:n=nm:=by simpa using h
  rw[this];exact hnm
 obtain⟨x4,x5,x6,x7,x8,x9,x10,x11,ns,rfl,_,hn,nd,good,hl',SS⟩:=pv;refine s_ret (te:=bA 3) (D:={ nx:=λx H'=>Q V.non H',rt:=Q }) (aE rfl ?_);exact k l ns H' SS hl hn nd hl' λn h=>QQ (Nat.le_of_lt (good n h).lt) (rK 11 (by decide))
end
structure KpP (q:Addr) (H H':Hp):Prop where
 old:∀b o,H b=some o->b≠q->H' b=some o
 at':∃n:Int,H' q=some (.lst [.int n])
theorem KpP.trans (a:KpP q H H1) (b:KpP q H1 H2):KpP q H H2:=⟨λc o e n=>b.old c o (a.old c o e n) n,b.at'⟩
theorem KpP.of (h:∃n:Int,H q=some (.lst [.int n])) (S:aj H H'):KpP q H H':=⟨λb o e _=>S b o e,let ⟨n,e⟩:=h;⟨n,S _ _ e⟩⟩
theorem KpP.new {o:HO} (k:KpP q H H') (hp:H' p=none):KpP q H (upd H' p o):=k.trans (KpP.of k.at' (ah hp))
theorem KpP.tups (h:∃n:Int,H q=some (.lst [.int n])) (k:KpP q H H'):cM H H':=λb xs e=>k.old b _ e λz=>by obtain⟨n,h⟩:=h;rw[z,h]at e;cases e
theorem KpP.strs (h:∃n:Int,H q=some (.lst [.int n])) (k:KpP q H H') (e:H l=some (.lst (ns.map V.str))):H' l=some (.lst (ns.map V.str)):=k.old l _ e λz=>by
 obtain⟨n,h⟩:=h;rw[z,h]at e;have e:=QO e;injection e with e
 cases ns with
 | nil=>cases e
 | cons a r=>simp at e
theorem KpP.ints {ns:List Int} (h:∃n:Int,H q=some (.lst [.int n])) (k:KpP q H H') (ok:DOk ns) (e:H l=some (.lst (ns.map V.int))):H' l=some (.lst (ns.map V.int)):=k.old l _ e λz=>by
 obtain⟨n,h⟩:=h;rw[z,h]at e;have e:=QO e;injection e with e;have lo:=ok.lo;have:=congrArg List.length e;simp at this;omega
def fH (d:Nat):Sp:=λvs H Q _=>∃(da qa l:Addr) (ds:List Int) (ns:List Str) (m:Nat),vs=[.ref da,.ref qa,.ref l,.int m]/\H da=some (.lst (ds.map V.int))/\DOk ds/\(∃n:Int,H qa=some (.lst [.int n]))/\H l=some (.lst (ns.map V.str))/\ns≠[]/\ns.length<=1000/\1<=m/\m<=d /\
 ∀v r H',RAt H' v r->r.ok ns->r.dep<=m->KpP qa H H'->Q v H'
def ki:Sp:=λvs H Q _=>∃v1 v2 v3 r1 r2 r3,vs=[v1,v2,v3]/\RAt H v1 r1/\RAt H v2 r2/\RAt H v3 r3/\∀v H',aj H H'->RAt H' v (.orr (.an r1 r2) (.an r3 (.orr r1 r2)))->Q v H'
theorem mi (ne:ns≠[]) (i:Int):∃n∈ns,atI (ns.map V.str) (i % ((ns.map V.str).length:Int))=some (.str n):=by
 have hl:0<ns.length:=List.length_pos_iff.mpr ne;rw[Qb];have h1:0<=i % (ns.length:Int):=Q8 _ (by omega);have h2:i % (ns.length:Int)<ns.length:=QX _ (by omega);exact mh h1 h2
section
theorem jF:FnScope ["d", "pos", "names", "deep", "x", "way", "one"] ["d", "pos", "names", "deep"] (ap (top 32)):=by fin2
theorem jP {f:Addr} {fd:FuncData} (Fu:Fun K "_law_rule" "_law_rule" (top 32) f fd) (T:Txt K mg TT) (hm:mg "_law_rule" = some (.ref f)) (hk:PySem.W.keepIn K (.ref f)=true) (hb:b9 K fd ["d", "pos", "names", "deep"] []):∀d,FnOk P w K mg base CX0 (d+1) f fd ["d", "pos", "names", "deep"] (fH d)
 | 0=>ek λvs H Q E ⟨_,_,_,_,_,m,_,_,_,_,_,_,_,h1,h2,_⟩=>by omega
 | d+1=>by
  have S:=jF;have f_law_rule:Fn P w K mg base "_law_rule" ["d", "pos", "names", "deep"] (d+1) (fH d):=⟨f,fd,jP Fu T hm hk hb d,hm,hk,hb⟩;refine Fu.ok S (λvs H Q E h=>?_) (λcdv A outer s H vs Q E hr h=>?_)
  ·obtain⟨da,qa,l,ds,ns,m,rfl,_⟩:=h;rfl
  obtain⟨da,qa,l,ds,ns,m,rfl,hd,dok,⟨n0,hq⟩,hl,ne,few,m1,m2,k⟩:=h;refine'⟨?_,?bb,?_⟩
  case bb =>
   walk_at "b";exact ar 4 S.nd (al ao (pv 0) (ag aH (al ao (pv 1) ac) (au aA (by rfl) T.n_len Qo (aa (pv 0) ad ae))));exact(f8 (ag aD (al ao (pv 1) ac) ac) (oj (pv 1) ac jC));exact ar 5 S.nd (ag aH (pv 4) ac);exact(PW.pt (ia (aC lO (pv 3) ac (aI _)) (fi (aC lO (pv 5) ac (aI _)))));exact(aF (bh (aa az (aa (al ao (pv 2) (ag aH (ag bo (pv 4) ac) (au aA (by rfl) T.n_len Qo (aa (pv 2) ad ae)))) ad) aq)));exact(aC lO (pv 5) ac (aI _));exact(aF (bh (aa az (aa (aN f_law_rule hr (aa (pv 0) (aa (pv 1) (aa (pv 2) (aa (ag c7 (pv 3) ac) ad) ae) ae) ae)) ad se_call) aq)));exact ar 6 S.nd (aN f_law_rule hr (aa (pv 0) (aa (pv 1) (aa (pv 2) (aa (ag c7 (pv 3) ac) ad) ae) ae) ae));refine' aF ?e
   case e =>
    walk_at "q";exact(al ao (aL (aa az (aa az ad aq) aq)) (ag aH (ag bo (pv 4) ac) ac));exact(pv 6);exact(aN f_law_rule hr (aa (pv 0) (aa (pv 1) (aa (pv 2) (aa (ag c7 (pv 3) ac) ad se_bin) ae) ae) ae))
  x_go;have lo:=dok.lo;have nl:1<=ns.length:=List.length_pos_iff.mpr ne;lk;refine i_rI (by rw[Qb];omega) ?_;obtain⟨x,x0,x1,ex⟩:=gG dok n0;refine aO (SqL.of hd) ex ?_;lk;generalize hE:upd H qa _=H1;have kp1:KpP qa H H1:=⟨λb o e nb=>by rw[<-hE,am nb];exact e,n0+1,by rw[<-hE];exact af⟩;clear hE;have hq0:∃n:Int,H qa=some (.lst [.int n]):=⟨n0,hq⟩;have hl1:=kp1.strs hq0 hl;have hd1:=kp1.ints hq0 dok hd
  have leaf:js (be (tC (V.str "wire")) (be (tOp (kA K) (bA 2) (tOp (rI (λx j=>0<j) λi j=>V.int (i % j)) (tOp (rI uZ λi j=>V.int (i / j)) (bA 4) (tC (V.int 7))) (tCB (λxs H Q=>∃p ys,xs=[V.ref p]/\(SqL K H p ys\/SqT K H p ys)/\Q (V.int ↑ys.length) H) (be (bA 2) d4)))) d4))
    [some (.ref da),some (.ref qa),some (.ref l),some (.int m),some (.int x),some (.int (x % 7)),none] H1 Q:=by
   lk;refine i_rI (by rw[Qb];omega) ?_;obtain⟨nm,hnm,enm⟩:=mi ne (x / 7);refine aO (SqL.of hl1) enm ?_;lk;refine⟨by simp[sizeLine],λp hp=>?_⟩;exact k _ (.w nm) _ (.w af) hnm (by simp[Rl.dep];omega) (kp1.new hp)
  refine ce (λh1=>?_) (λh1=>?_)
  ·exact cc leaf
  have m3:2<=m:=by
   by_cases z:m=1
   ·exact absurd (by rw[z];decide) h1
   omega
  lk;refine ce (λh2=>?_) (λh2=>?_)
  ·exact leaf
  have em:(m:Int)-1=((m-1:Nat):Int):=by omega
  lk;refine ce (λh3=>?_) (λh3=>?_)
  ·lk;refine⟨da,qa,l,ds,ns,m-1,by rw[<-em],hd1,dok,kp1.at',hl1,ne,few,by omega,by omega,λv r H2 hv rok rd kp2=>?_⟩;lk;refine⟨by simp[sizeLine],λp hp=>?_⟩;exact k _ (.no r) _ (.no af (hv.mono (aj.tups (ah hp)))) rok (by simp only[Rl.dep];omega) ((kp1.trans kp2).new hp)
  lk;refine⟨da,qa,l,ds,ns,m-1,by rw[<-em],hd1,dok,kp1.at',hl1,ne,few,by omega,by omega,λv r H2 hv rok rd kp2=>?_⟩;have hl2:=kp2.strs kp1.at' hl1;have hd2:=kp2.ints kp1.at' dok hd1;have kp12:=kp1.trans kp2;lk;refine⟨by simp[sizeLine],λp hp=>?_⟩;have hpp:upd H2 p (HO.lst [V.str "and", V.str "or"]) p=some (.lst ((["and", "or"]:List Str).map V.str)):=af;have S3:=ah (o:=HO.lst [V.str "and", V.str "or"]) hp;have kp3:=KpP.of kp2.at' S3;generalize upd H2 p (HO.lst [V.str "and", V.str "or"])=H3 at *;have hv3:=hv.mono (aj.tups S3);have hl3:=S3 _ _ hl2;have hd3:=S3 _ _ hd2;lk
  have last:∀(wd:Str) (mk:Rl->Rl->Rl),(∀{H:Hp} {a:Addr} {v u:V} {r s:Rl},H a=some (.tup [.str wd,v,u])->RAt H v r->RAt H u s->RAt H (.ref a) (mk r s))->(∀r s,(mk r s).dep=max r.dep s.dep+1)->(∀r s,r.ok ns->s.ok ns->(mk r s).ok ns) ->
    be (bA 6) (be (eG (fH d) [] E0 (be (bA 0) (be (bA 1) (be (bA 2) (be (tOp (rI0 λi j=>V.int (i-j)) (bA 3) (tC (V.int 1))) d4))))) d4) [some (.ref da),some (.ref qa),some (.ref l),some (.int m),some (.int x),some (.int (x % 7)),some v] H3
     λxs H5=>(V.str wd::xs).length<=sizeLine/\∀p,H5 p=none->Q (.ref p) (upd H5 p (.tup (V.str wd::xs))):=by
   intro wd mk c1 c2 c3;lk;refine⟨da,qa,l,ds,ns,m-1,by rw[<-em],hd3,dok,kp3.at',hl3,ne,few,by omega,by omega,λv2 s2 H5 hv2 rok2 rd2 kp5=>?_⟩;lk;refine⟨by simp[sizeLine],λp hp=>?_⟩;have S6:=ah (o:=HO.tup [V.str wd,v,v2]) hp;exact k _ (mk r s2) _ (c1 af ((hv3.mono (kp5.tups kp3.at')).mono (aj.tups S6)) (hv2.mono (aj.tups S6))) (c3 _ _ rok rok2) (by rw[c2];omega) ((kp12.trans (kp3.trans kp5)).new hp)
  have hr2:x / 7 % 2=0\/x / 7 % 2=1:=by omega
  rcases hr2 with z|z
  ·rw[z];refine aO (SqL.of hpp) (v:=.str "and") rfl ?_;exact last "and" .an (λa b c=>.an a b c) (λ_ _=>rfl) (λ_ _ a b=>⟨a,b⟩)
  rw[z];refine aO (SqL.of hpp) (v:=.str "or") rfl ?_;exact last "or" .orr (λa b c=>.orr a b c) (λ_ _=>rfl) (λ_ _ a b=>⟨a,b⟩)
theorem jG:FnScope ["one", "other", "own"] ["one", "other", "own"] (ap (top 33)):=by fin2
theorem qi {f:Addr} {fd:FuncData} (Fu:Fun K "_law_held" "_law_held" (top 33) f fd) (T:Txt K mg TT):FnOk P w K mg base CX0 1 f fd ["one", "other", "own"] ki:=by
 have S:=jG;refine Fu.ok S (by room) (λcdv A outer s H vs Q E hr h=>?_);obtain⟨v1,v2,v3,r1,r2,r3,rfl,h1,h2,h3,k⟩:=h;refine⟨_,(aG (aF (bh (aa az (aa (bh (aa az (aa (pv 0) (aa (pv 1) ad ae) ae) aq)) (aa (bh (aa az (aa (pv 2) (aa (bh (aa az (aa (pv 0) (aa (pv 1) ad ae) ae) aq)) ad se_tup) ae) aq)) ad se_tup) se_tup) aq)))),?_⟩;x_go;lk;refine⟨by simp[sizeLine],λp1 hp1=>?_⟩;have S1:=ah (o:=.tup [.str "and", v1,v2]) hp1;have q1:upd H p1 (.tup [.str "and", v1,v2]) p1=some (.tup [.str "and", v1,v2]):=af;generalize upd H p1 (.tup [.str "and", v1,v2])=H1 at *;lk;refine⟨by simp[sizeLine],λp2 hp2=>?_⟩;have S2:=ah (o:=.tup [.str "or", v1,v2]) hp2;have q2:upd H1 p2 (.tup [.str "or", v1,v2]) p2=some (.tup [.str "or", v1,v2]):=af;generalize upd H1 p2 (.tup [.str "or", v1,v2])=H2 at *;lk;refine⟨by simp[sizeLine],λp3 hp3=>?_⟩;have S3:=ah (o:=.tup [.str "and", v3,.ref p2]) hp3;have q3:upd H2 p3 (.tup [.str "and", v3,.ref p2]) p3=some (.tup [.str "and", v3,.ref p2]):=af;generalize upd H2 p3 (.tup [.str "and", v3,.ref p2])=H3 at *;lk;refine⟨by simp[sizeLine],λp4 hp4=>?_⟩;have S4:=ah (o:=.tup [.str "or", .ref p1,.ref p3]) hp4;have S14:=S1.trans (S2.trans (S3.trans S4));have m1:=h1.mono (aj.tups S14);have m2:=h2.mono (aj.tups S14);have m3:=h3.mono (aj.tups S14);exact k _ _ S14 (.orr af (.an ((S2.trans (S3.trans S4)) _ _ q1) m1 m2) (.an (S4 _ _ q3) m3 (.orr ((S3.trans S4) _ _ q2) m1 m2)))
end
def fS:Sp:=λvs H Q _=>∃(da qa l:Addr) (ds:List Int) (ns:List Str) (v:V) (r:Rl),vs=[.ref da,.ref qa,.ref l,v]/\H da=some (.lst (ds.map V.int))/\DOk ds/\(∃n:Int,H qa=some (.lst [.int n]))/\H l=some (.lst (ns.map V.str))/\ns≠[]/\ns.length<=1000/\RAt H v r/\r.ok ns/\r.dep<=6 /\
 ∀v' r' H',RAt H' v' r'->r'.ok ns->r'.dep<=10->KpP qa H H'->Q v' H'
section
theorem gN:FnScope ["d", "pos", "names", "rule", "many", "k", "x", "one"] ["d", "pos", "names", "rule"] (ap (top 35)):=by fin2
theorem mK {f:Addr} {fd:FuncData} (Fu:Fun K "_law_deeper" "_law_deeper" (top 35) f fd) (T:Txt K mg TT):FnOk P w K mg base CX0 1 f fd ["d", "pos", "names", "rule"] fS:=by
 have S:=gN;refine Fu.ok S (by room) (λcdv A outer s H vs Q E hr h=>?_);obtain⟨da,qa,l,ds,ns,v,r,rfl,hd,dok,⟨n0,hq⟩,hl,ne,few,hv,rok,rd,k⟩:=h;refine'⟨?_,?bb,?_⟩
 case bb =>
  walk_at "b";exact ar 4 S.nd (ag aH (al ao (pv 0) (ag aH (al ao (pv 1) ac) (au aA (by rfl) T.n_len Qo (aa (pv 0) ad ae)))) ac);walk_at "f";exact(bn (by rfl) T.n_range (aa (pv 4) ad ae));exact(bC 5 S.nd);walk_at "p";exact(f8 (ag aD (al ao (pv 1) ac) ac) (oj (pv 1) ac jC));exact ar 6 S.nd (al ao (pv 0) (ag aH (al ao (pv 1) ac) (au aA (by rfl) T.n_len Qo (aa (pv 0) ad ae))));exact ar 7 S.nd (bh (aa az (aa (al ao (pv 2) (ag aH (pv 6) (au aA (by rfl) T.n_len Qo (aa (pv 2) ad ae)))) ad) aq));exact ar 3 S.nd (al ao (aL (aa (bh (aa az (aa (pv 3) ad ae) aq)) (aa (bh (aa az (aa (pv 7) (aa (pv 3) ad ae) ae) aq)) (aa (bh (aa az (aa (pv 3) (aa (pv 7) ad ae) ae) aq)) (aa (bh (aa az (aa (pv 7) (aa (pv 3) ad ae) ae) aq)) ad se_tup) se_tup) se_tup) se_tup)) (ag aH (ag bo (pv 6) ac) ac));exact(aF (pv 3))
 x_go;have lo:=dok.lo;have nl:1<=ns.length:=List.length_pos_iff.mpr ne;lk;refine i_rI (by rw[Qb];omega) ?_;obtain⟨x,x0,x1,ex⟩:=gG dok n0;refine aO (SqL.of hd) ex ?_;lk;refine⟨by omega,by omega,?_⟩;have h4:(x % 5).toNat<=4:=by omega
 have hq0:∃n:Int,H qa=some (.lst [.int n]):=⟨n0,hq⟩;let I11:IvF:=λi σ H'=>∃v' r' x4 x5 x6 x7,σ=[some (.ref da),some (.ref qa),some (.ref l),some v',x4,x5,x6,x7]/\RAt H' v' r'/\r'.ok ns/\r'.dep<=6+i/\KpP qa H H';refine bQ I11 ⟨v,r,_,_,_,_,rfl,hv,rok,rd,KpP.of hq0 (aj.refl _)⟩ (λi σ H' hi pv=>?_) (λσ H' pv=>?_)
 ·obtain⟨v',r',x4,x5,x6,x7,rfl,hv',rok',rd',kp⟩:=pv;obtain⟨n1,hq1⟩:=kp.at';have hd1:=kp.ints hq0 dok hd;have hl1:=kp.strs hq0 hl;refine aB ?_;lk;generalize hE:upd H' qa _=H1;have kp1:KpP qa H' H1:=⟨λb o e nb=>by rw[<-hE,am nb];exact e,n1+1,by rw[<-hE];exact af⟩;have hq2:H1 qa=some (.lst [.int (n1+1)]):=by rw[<-hE];exact af
  clear hE;have hqe:∃n:Int,H' qa=some (.lst [.int n]):=⟨n1,hq1⟩;have hd2:=kp1.ints hqe dok hd1;have hl2:=kp1.strs hqe hl1;have hv2:=hv'.mono (kp1.tups hqe);lk;refine i_rI (by rw[Qb];omega) ?_;obtain⟨y,y0,y1,ey⟩:=gG dok (n1+1);refine aO (SqL.of hd2) ey ?_;lk;refine i_rI (by rw[Qb];omega) ?_;obtain⟨nm,hnm,enm⟩:=mi ne y;refine aO (SqL.of hl2) enm ?_;lk;refine⟨by simp[sizeLine],λp0 hp0=>?_⟩;generalize hE:upd H1 p0 _=H2;have S2:aj H1 H2:=by rw[<-hE];exact ah hp0
  have o2:RAt H2 (.ref p0) (.w nm):=by rw[<-hE];exact .w af
  clear hE;have hv3:=hv2.mono (aj.tups S2);lk;refine⟨by simp[sizeLine],λp1 hp1=>?_⟩;generalize hE:upd H2 p1 _=H3;have S3:aj H2 H3:=by rw[<-hE];exact ah hp1
  have a1:RAt H3 (.ref p1) (.no r'):=by rw[<-hE];exact .no af (hv3.mono (aj.tups (ah hp1)))
  clear hE;have hv4:=hv3.mono (aj.tups S3);have o3:=o2.mono (aj.tups S3);lk;refine⟨by simp[sizeLine],λp2 hp2=>?_⟩;generalize hE:upd H3 p2 _=H4;have S4:aj H3 H4:=by rw[<-hE];exact ah hp2
  have a2:RAt H4 (.ref p2) (.an (.w nm) r'):=by rw[<-hE];exact .an af (o3.mono (aj.tups (ah hp2))) (hv4.mono (aj.tups (ah hp2)))
  clear hE;have hv5:=hv4.mono (aj.tups S4);have o4:=o3.mono (aj.tups S4);lk;refine⟨by simp[sizeLine],λp3 hp3=>?_⟩;generalize hE:upd H4 p3 _=H5;have S5:aj H4 H5:=by rw[<-hE];exact ah hp3
  have a3:RAt H5 (.ref p3) (.orr r' (.w nm)):=by rw[<-hE];exact .orr af (hv5.mono (aj.tups (ah hp3))) (o4.mono (aj.tups (ah hp3)))
  clear hE;have hv6:=hv5.mono (aj.tups S5);have o5:=o4.mono (aj.tups S5);lk;refine⟨by simp[sizeLine],λp4 hp4=>?_⟩;generalize hE:upd H5 p4 _=H6;have S6:aj H5 H6:=by rw[<-hE];exact ah hp4
  have a4:RAt H6 (.ref p4) (.orr (.w nm) r'):=by rw[<-hE];exact .orr af (o5.mono (aj.tups (ah hp4))) (hv6.mono (aj.tups (ah hp4)))
  clear hE;lk;refine⟨by simp[sizeLine],λp5 hp5=>?_⟩;generalize hE:upd H6 p5 _=H7;have S7:aj H6 H7:=by rw[<-hE];exact ah hp5
  have q7:H7 p5=some (.lst [.ref p1,.ref p2,.ref p3,.ref p4]):=by rw[<-hE];exact af
  clear hE;lk;have kp7:KpP qa H H7:=kp.trans (kp1.trans (KpP.of kp1.at' (S2.trans (S3.trans (S4.trans (S5.trans (S6.trans S7)))))));have hr2:y / 11 % 4=0\/y / 11 % 4=1\/y / 11 % 4=2\/y / 11 % 4=3:=by omega
  rcases hr2 with z|z|z|z
  ·rw[z];refine aO (SqL.of q7) (v:=.ref p1) rfl ?_;exact aB ⟨_,_,_,_,_,_,rfl,a1.mono (aj.tups (S4.trans (S5.trans (S6.trans S7)))),rok',by simp only[Rl.dep];omega,kp7⟩
  ·rw[z];refine aO (SqL.of q7) (v:=.ref p2) rfl ?_;exact aB ⟨_,_,_,_,_,_,rfl,a2.mono (aj.tups (S5.trans (S6.trans S7))),⟨hnm,rok'⟩,by simp only[Rl.dep];omega,kp7⟩
  ·rw[z];refine aO (SqL.of q7) (v:=.ref p3) rfl ?_;exact aB ⟨_,_,_,_,_,_,rfl,a3.mono (aj.tups (S6.trans S7)),⟨rok',hnm⟩,by simp only[Rl.dep];omega,kp7⟩
  rw[z];refine aO (SqL.of q7) (v:=.ref p4) rfl ?_;exact aB ⟨_,_,_,_,_,_,rfl,a4.mono (aj.tups S7),⟨hnm,rok'⟩,by simp only[Rl.dep];omega,kp7⟩
 obtain⟨v',r',x4,x5,x6,x7,rfl,hv',rok',rd',kp⟩:=pv;refine s_ret (te:=bA 3) (D:={ nx:=λx H'=>Q V.non H',rt:=Q }) (aE rfl ?_);exact k v' r' H' hv' rok' (by omega) kp
end
def nth (ns:List Str) (k:Nat):Str:=ns.getD k Str.empty
theorem sM (hl:ns.length=11) {j:Int} {k:Nat} (e:j=(k:Int)) (hk:k<11):atI (ns.map V.str) j=some (.str (nth ns k)):=by
 subst e;refine a_ ?_;unfold nth;rw[Ql,QE,Qd (by omega)];rfl
variable {a m j i n:Nat}
theorem qp (nd:ns.Nodup) (hl:ns.length=11) {b:Nat} (ha:a<11) (hb:b<11) (e:nth ns a=nth ns b):a=b:=by
 unfold nth at e;rw[QE,QE,Qd (by omega),Qd (by omega)]at e;have e1:=List.Nodup.idxOf_getElem nd a (by omega);have e2:=List.Nodup.idxOf_getElem nd b (by omega);simp only[Option.getD_some]at e;rw[e,e2]at e1;exact e1.symm
theorem oN {ns:List Str} (nd:ns.Nodup) (hl:ns.length=11):∀{L:List Nat},L.Nodup->(∀k∈L,k<11)->(L.map (nth ns)).Nodup
 | [],_,_=>List.nodup_nil
 | a::L,h,hb=>by
  rw[xk]at h;rw[Qs,xk];refine⟨λz=>?_,oN nd hl h.2 λk hk=>hb k (Qp _ hk)⟩;obtain⟨b,hb',e⟩:=QL.mp z;have:=qp nd hl (hb b (Qp _ hb')) (hb a (by simp)) e;exact h.1 (this▸hb')
theorem gi (nd:ns.Nodup) (hl:ns.length=11) {R:Nat->Rl} (hn:(I++G).Nodup) (hb:∀k∈I++G,k<11) (i4:I.length<=4) (g1:1<=G.length) (g7:G.length<=7)
  (hr:∀g∈G,(R g).ok ((I++G).map (nth ns))/\(R g).dep<=10):NetOk (I.map (nth ns)) (G.map λg=>(nth ns g,R g)):=by
 have ew:ai (I.map (nth ns)) (G.map λg=>(nth ns g,R g))=(I++G).map (nth ns):=by
  unfold ai;rw[QJ,List.map_map];rfl
 refine⟨by rw[ew];exact oN nd hl hn hb,by rw[Qb];exact i4,by rw[Qb];exact g1,by rw[Qb];exact g7,λg hg=>?_⟩;obtain⟨k,hk,rfl⟩:=QL.mp hg;rw[ew];exact hr k hk
def wN (ns:List Str) (k:Nat):Rl:=.w (nth ns k)
def R5 (ns:List Str) (k:Nat):Rl:=.orr (.an (wN ns (k-1)) (.no (wN ns (k+1)))) (.an (wN ns k) (.orr (wN ns (k-1)) (.no (wN ns (k+1)))))
def R6 (ns:List Str) (m k:Nat):Rl:=.no (wN ns ((k+1) % m))
def R7 (ns:List Str) (k:Nat):Rl:=if k=2 then .no (.orr (wN ns 0) (wN ns 3)) else if k=3 then .no (.orr (wN ns 1) (wN ns 2)) else .an (wN ns (k-2)) (wN ns (k-1))
def jz:Sp:=λvs H Q _=>∃(way:Int) (m:Nat) (l:Addr) (ns:List Str),vs=[.int way,.int m,.ref l]/\1<=m/\m<=7/\H l=some (.lst (ns.map V.str))/\ns.length=11/\ns.Nodup /\
 ∀a li lg ins gvs gs H',aj H H'->NAt H' a li lg ins gvs gs->NetOk ins gs->(∀n∈ai ins gs,n∈ns)->Q (.ref a) H'
theorem fA {k:Nat} (h:k∈L):(wN ns k).ok (L.map (nth ns)):=List.mem_map_of_mem h
theorem vg (nd:ns.Nodup) (hl:ns.length=11) (m1:1<=m) (m7:m<=7):NetOk ([0,m+1].map (nth ns)) (((List.range m).map (·+1)).map λg=>(nth ns g,R5 ns g)):=by
 have h1:∀m,m<=7->1<=m->([0,m+1]++(List.range m).map (·+1)).Nodup/\(∀k∈[0,m+1]++(List.range m).map (·+1),k<11)/\∀g∈(List.range m).map (·+1),g-1∈[0,m+1]++(List.range m).map (·+1)/\g∈[0,m+1]++(List.range m).map (·+1)/\g+1∈[0,m+1]++(List.range m).map (·+1):=by decide
 obtain⟨a,b,c⟩:=h1 m m7 m1;refine gi nd hl a b (by show 2<=4;decide) (by simp;omega) (by simp;omega) λg hg=>?_;obtain⟨c1,c2,c3⟩:=c g hg;exact⟨⟨⟨fA c1,fA c3⟩,⟨fA c2,⟨fA c1,fA c3⟩⟩⟩,by simp[R5,wN,Rl.dep]⟩
theorem vf (nd:ns.Nodup) (hl:ns.length=11) (m1:1<=m) (m7:m<=7):NetOk (([]:List Nat).map (nth ns)) ((List.range m).map λg=>(nth ns g,R6 ns m g)):=by
 refine gi nd hl (by simpa using List.nodup_range) (λk hk=>by simp at hk;omega) (by decide) (by simp;omega) (by simp;omega) λg hg=>?_;refine⟨fA ?_,by simp[R6,wN,Rl.dep]⟩;simp;exact Nat.mod_lt _ (by omega)
theorem ve (nd:ns.Nodup) (hl:ns.length=11) (j3:j<=3):NetOk ([0,1].map (nth ns)) (([2,3]++(List.range j).map (4+·)).map λg=>(nth ns g,R7 ns g)):=by
 have h1:∀j,j<=3->([0,1]++([2,3]++(List.range j).map (4+·))).Nodup/\(∀k∈[0,1]++([2,3]++(List.range j).map (4+·)),k<11)/\∀g∈[2,3]++(List.range j).map (4+·),g-1∈[0,1]++([2,3]++(List.range j).map (4+·))/\g-2∈[0,1]++([2,3]++(List.range j).map (4+·)):=by decide
 obtain⟨a,b,c⟩:=h1 j j3;refine gi nd hl a b (by decide) (by simp) (by simp;omega) λg hg=>?_;obtain⟨c1,c2⟩:=c g hg;unfold R7
 split
 ·exact⟨⟨fA (by simp),fA (by simp)⟩,by simp[wN,Rl.dep]⟩
 split
 ·exact⟨⟨fA (by simp),fA (by simp)⟩,by simp[wN,Rl.dep]⟩
 exact⟨⟨fA c2,fA c1⟩,by simp[wN,Rl.dep]⟩
theorem cx {o:HO} (h:H p=none) (e:upd H p o=H'):aj H H'/\H' p=some o:=by
 subst e;exact⟨ah h,af⟩
theorem e8 (hl:ns.length=11) {R:Nat->Rl} (hb:∀k∈I++G,k<11):∀n∈ai (I.map (nth ns)) (G.map λg=>(nth ns g,R g)),n∈ns:=λn hn=>by
 have ew:ai (I.map (nth ns)) (G.map λg=>(nth ns g,R g))=(I++G).map (nth ns):=by
  unfold ai;rw[QJ,List.map_map];rfl
 rw[ew]at hn;obtain⟨k,hk,rfl⟩:=QL.mp hn;have:=hb k hk;unfold nth;rw[QE,Qd (by omega)];exact xh _
variable {v:V}
theorem qC {n:Str} {r:Rl} (h:H b=some (.tup [.str n,v])) (hr:RAt H v r):GAt H (.ref b) (n,r):=⟨b,v,rfl,h,hr⟩
def Mkx (H0:Hp) (σ:St) (te:TE) (R:Hp->V->Prop):Prop:=∀(H:Hp) (Q:VK),aj H0 H->(∀v H',aj H H'->R H' v->Q v H')->te σ H Q
section
variable {K:PySem.W.Frag} {H0:Hp} {σ:St} {t t1 t2 t3:TE} {r r1 r2 r3:Rl} {x:Str}
theorem dW {i k:Nat} {l:Addr} {ns:List Str} {ti:TE} {j:Int} (hσ:σ[i]?=some (some (.ref l))) (hl:H0 l=some (.lst (ns.map V.str))) (ln:ns.length=11) (hk:k<11) (hi:∀(H:Hp) (Q:VK),Q (.int j) H->ti σ H Q) (ej:j=(k:Int)) :
  Mkx H0 σ (tOp (kA K) (bA i) ti) λ_ v=>v=.str (nth ns k):=λH Q S q=>i_op (aE hσ (hi H _ (aO (SqL.of (S _ _ hl)) (sM ln ej hk) (q _ _ (aj.refl _) rfl))))
variable {R1 R R':Hp->V->Prop}
theorem jd {R2:Hp->V->Prop} (k1:∀{H H':Hp} {v},aj H H'->R1 H v->R1 H' v) (k2:∀{H H':Hp} {v},aj H H'->R2 H v->R2 H' v) (h1:Mkx H0 σ t1 R1) (h2:Mkx H0 σ t2 R2) :
  Mkx H0 σ (js (be t1 (be t2 d4))) λH v=>∃b u w,v=.ref b/\H b=some (.tup [u,w])/\R1 H u/\R2 H w:=λH Q S q=>i_tup (aJ (h1 H _ S λu H1 S1 a1=>aJ (h2 H1 _ (S.trans S1) λw H2 S2 a2=>aZ ⟨by simp[sizeLine],λp hp=>by
 have S3:=ah (o:=.tup [u,w]) hp
 exact q _ _ (S1.trans (S2.trans S3)) ⟨p,u,w,rfl,af,k1 (S2.trans S3) a1,k2 S3 a2⟩⟩)))
theorem oO {c:V}:Mkx H0 σ (tC c) λ_ v=>v=c:=λH Q S q=>i_c (q _ _ (aj.refl _) rfl)
theorem kL (h:Mkx H0 σ t R) (f:∀{H v},R H v->R' H v):Mkx H0 σ t R':=λH Q S q=>h H Q S λv H' S' a=>q v H' S' (f a)
theorem gP (h:Mkx H0 σ t λ_ v=>v=.str x):Mkx H0 σ (js (be (tC (.str "wire")) (be t d4))) λH v=>RAt H v (.w x) :=
 kL (jd (λ_ e=>e) (λ_ e=>e) oO h) λ⟨b,u,w,e,hb,e1,e2⟩=>by subst e e1 e2;exact .w hb
theorem lP (h:Mkx H0 σ t λH v=>RAt H v r):Mkx H0 σ (js (be (tC (.str "not")) (be t d4))) λH v=>RAt H v (.no r) :=
 kL (jd (λ_ e=>e) (λS e=>e.mono (aj.tups S)) oO h) λ⟨b,u,w,e,hb,e1,e2⟩=>by subst e e1;exact .no hb e2
theorem jU (h1:Mkx H0 σ t1 λ_ v=>v=.str x) (h:Mkx H0 σ t λH v=>RAt H v r):Mkx H0 σ (js (be t1 (be t d4))) λH v=>GAt H v (x,r) :=
 kL (jd (λ_ e=>e) (λS e=>e.mono (aj.tups S)) h1 h) λ⟨b,u,w,e,hb,e1,e2⟩=>by subst e e1;exact qC hb e2
theorem kK {c:Str} (h1:Mkx H0 σ t1 λH v=>RAt H v r1) (h2:Mkx H0 σ t2 λH v=>RAt H v r2) (f:∀{H:Hp} {b:Addr} {u w:V},H b=some (.tup [.str c,u,w])->RAt H u r1->RAt H w r2->RAt H (.ref b) r) :
  Mkx H0 σ (js (be (tC (.str c)) (be t1 (be t2 d4)))) λH v=>RAt H v r:=λH Q S q=>i_tup (aJ (i_c (aJ (h1 H _ S λu H1 S1 a1=>aJ (h2 H1 _ (S.trans S1) λw H2 S2 a2=>aZ ⟨by simp[sizeLine],λp hp=>by
 have S3:=ah (o:=.tup [.str c,u,w]) hp
 exact q _ _ (S1.trans (S2.trans S3)) (f af (a1.mono (aj.tups (S2.trans S3))) (a2.mono (aj.tups S3)))⟩)))))
theorem qv (h1:Mkx H0 σ t1 λH v=>RAt H v r1) (h2:Mkx H0 σ t2 λH v=>RAt H v r2) (h3:Mkx H0 σ t3 λH v=>RAt H v r3):Mkx H0 σ (eG ki [] E0 (be t1 (be t2 (be t3 d4)))) λH v=>RAt H v (.orr (.an r1 r2) (.an r3 (.orr r1 r2))):=λH Q S q =>
 i_call (aJ (h1 H _ S λu H1 S1 a1=>aJ (h2 H1 _ (S.trans S1) λw H2 S2 a2=>aJ (h3 H2 _ (S.trans (S1.trans S2)) λy H3 S3 a3=>aZ ⟨_,_,_,_,_,_,rfl,a1.mono (aj.tups (S2.trans S3)),a2.mono (aj.tups S3),a3,λv H4 S4 a4=>q _ _ (S1.trans (S2.trans (S3.trans S4))) a4⟩))))
theorem sN {i:Nat} {v:V} (hσ:σ[i]?=some (some v)) (h:∀{H},aj H0 H->R H v):Mkx H0 σ (bA i) R:=λH Q S q=>aE hσ (q _ _ (aj.refl _) (h S))
end
variable {gs:List (Str × Rl)} {gvs xs:List V}
theorem jg {x:Str × Rl} (hg:H g=some (.lst gvs)) (hp:Paired (GAt H) gvs gs) (hv:GAt H v x):Paired (GAt (upd H g (.lst (gvs++[v])))) (gvs++[v]) (gs++[x]):=by
 have kt:cM H (upd H g (.lst (gvs++[v]))):=λb xs e=>by rw[am λz=>by rw[z,hg]at e;cases e];exact e
 exact bX (bc kt hp) (hv.mono kt)
local macro_rules|`(tactic|ctx_has $a $b $c $d $e $f $g)=>`(tactic|(generalize hE:upd $a $b _=$c;obtain⟨$d,$e⟩:=$f $g hE;clear hE))
section
theorem iR:FnScope ["way", "many", "names", "gates", "k", "after", "one", "other", "more"] ["way", "many", "names"] (ap (top 34)):=by fin2
theorem mI {f:Addr} {fd:FuncData} (Fu:Fun K "_law_known" "_law_known" (top 34) f fd) (T:Txt K mg TT) (f_law_held:Fn P w K mg base "_law_held" ["one", "other", "own"] 1 ki):FnOk P w K mg base CX0 2 f fd ["way", "many", "names"] jz:=by
 have S:=iR;refine Fu.ok S (by room) (λcdv A outer s H vs Q E hr h=>?_);obtain⟨way,m,l,ns,rfl,m1,m7,hl,ln,nd,k⟩:=h;refine'⟨?_,?bb,?_⟩
 case bb =>
  walk_at "b";exact(aC bD (pv 0) ac (aI _));exact ar 3 S.nd (aL ad);walk_at "f";exact(my (by rfl) T.n_range (aa ac (aa (ag aD (pv 1) ac) ad) aq));exact(bC 4 S.nd);walk_at "p";refine' ar 5 S.nd ?e
  case e =>
   walk_at "q";exact(al ao (pv 2) (ag aD (pv 4) ac))
  refine' bi (cA QC QF QG bg (pv 3) ?a)
  case a =>
   walk_at "q";exact(al ao (pv 2) (pv 4));exact(aN f_law_held hr (aa (bh (aa az (aa (al ao (pv 2) (ag c7 (pv 4) ac)) ad se_sub) aq)) (aa (pv 5) (aa (bh (aa az (aa (al ao (pv 2) (pv 4)) ad se_sub) aq)) ad se_tup) ae) se_tup))
  refine' aF ?e
  case e =>
   walk_at "q";exact(al ao (pv 2) ac);exact(al ao (pv 2) (ag aD (pv 1) ac));exact(pv 3)
  exact(aC bD (pv 0) ac (aI _));refine' aF ?e
  case e =>
   walk_at "q";exact(gb "k" [("names", 2),("many", 1)] (bn (by rfl) T.n_range (aa (pv 1) ad ae)) (λ_ _ _ _=>(bh (aa (al (eQ (K:=K) rfl) (pv 1) (pv 0)) (aa (bh (aa az (aa (bh (aa az (aa (al (eQ (K:=K) rfl) (pv 1) (ag aH (ag aD (pv 0) ac) (pv 2))) ad) aq)) ad se_tup) aq)) ad se_tup)))))
  refine' ar 6 S.nd ?e
  case e =>
   walk_at "q";exact(al ao (pv 2) ac);exact(al ao (pv 2) ac);exact(al ao (pv 2) ac)
  refine' ar 7 S.nd ?e
  case e =>
   walk_at "q";exact(al ao (pv 2) ac);exact(al ao (pv 2) ac);exact(al ao (pv 2) ac)
  exact ar 8 S.nd (aL ad);walk_at "f";exact(bn (by rfl) T.n_range (aa (au (ix rfl) (by rfl) T.n_min PyProof.Rows.boot_min (aa (ag c7 (pv 1) ac) (aa ac ad aq))) ad se_call));exact(bC 4 S.nd);walk_at "p";refine' bi (cA QC QF QG bg (pv 8) ?a)
  case a =>
   walk_at "q";exact(al ao (pv 2) (ag aD ac (pv 4)));exact(al ao (pv 2) (ag aD ac (pv 4)));exact(al ao (pv 2) (ag aD ac (pv 4)))
  refine' aF ?e
  case e =>
   walk_at "q";exact(aK bH (pv 2) aX (aS ac));exact(ag bF (aL (aa (pv 6) (aa (pv 7) ad ae) ae)) (pv 8))
 x_go;have ic:∀{σ:St} {c:Int} (H:Hp) (Q:VK),Q (.int c) H->tC (.int c) σ H Q:=λ_ _ q=>i_c q;lk;refine ce (λ_=>?_) (λ_=>?_)
 ·kt_k;refine s_asg (i_lst (aZ ⟨by decide,λg hg=>aB ?_⟩));ctx_has H g H1 S1 q1 cx hg;kt_k;refine s_for (aJ (i_c (aJ (i_op (aE rfl (i_c (i_rI0 (aZ ⟨1,(m:Int)+1,rfl,⟨by omega,by omega,by omega,by omega⟩,?_⟩))))))));rw[show ((m:Int)+1-1).toNat=m from by omega];let I12:IvF:=λi σ H'=>(∃x4 x5 gvs,σ=[some (.int way),some (.int m),some (.ref l),some (.ref g),x4,x5,none,none,none]/\H' g=some (.lst gvs)/\Paired (GAt H') gvs (((List.range i).map (·+1)).map λk=>(nth ns k,R5 ns k)))/\aj H H';refine bQ (n:=m) I12 ⟨⟨_,_,[],rfl,q1,.nil⟩,S1⟩ (λi σ H' hi pv=>?_) (λσ H' pv=>?_)
  ·obtain⟨⟨x4,x5,gvs,rfl,hg',hp'⟩,SS⟩:=pv;have hl':=SS _ _ hl;have gl:=aV hp';rw[Qb,Qb,List.length_range]at gl;have iv:∀{σ:St} (H:Hp) (Q:VK),σ[4]?=some (some (.int (1+(i:Int))))->Q (.int (1+(i:Int))) H->bA 4 σ H Q:=λ_ _ e q=>aE e q;refine aB ?_;kt_k;refine s_asg (lP (gP (dW (k:=i+2) rfl hl' ln (by omega) (λH Q q=>i_op (aE rfl (i_c (i_rI0 q)))) (by omega))) H' _ (aj.refl _) λav H2 S2 a2=>aB ?_);have hl2:=S2 _ _ hl';have hg2:=S2 _ _ hg';refine s_drop (i_bm (aE rfl ⟨i_tyL hg2,aJ (jU (dW (k:=i+1) rfl hl2 ln (by omega) (λH Q q=>aE rfl q) (by omega)) (qv (gP (dW (k:=i) rfl hl2 ln (by omega) (λH Q q=>i_op (aE rfl (i_c (i_rI0 q)))) (by omega))) (sN rfl λS=>a2.mono (aj.tups S)) (gP (dW (k:=i+1) rfl hl2 ln (by omega) (λH Q q=>aE rfl q) (by omega)))) H2 _ (aj.refl _) λv H3 S3 ga=>aZ (dY (S3 _ _ hg2) (by omega) ?_))⟩));refine⟨⟨_,_,gvs++[v],rfl,af,?_⟩,aW (SS.trans (S2.trans S3)) hg⟩;rw[List.range_succ,QJ,QJ];exact jg (S3 _ _ hg2) (bc (aj.tups (S2.trans S3)) hp') ga
  obtain⟨⟨x4,x5,gvs,rfl,hg',hp'⟩,SS⟩:=pv;have hl':=SS _ _ hl;refine s_ret (i_tup (aJ (i_lst (aJ (dW (k:=0) rfl hl' ln (by omega) ic rfl H' _ (aj.refl _) λv H2 S2 e2=>aJ (dW (k:=m+1) rfl (S2 _ _ hl') ln (by omega) (λH Q q=>i_op (aE rfl (i_c (i_rI0 q)))) (by omega) H2 _ (aj.refl _) λv3 H3 S3 e3=>aZ ⟨by simp[sizeLine],λp1 hp1=>?_⟩))))));subst e2 e3;ctx_has H3 p1 H4 S4 q4 cx hp1;refine aJ (aE rfl (aZ ⟨by simp[sizeLine],λp2 hp2=>?_⟩));have S5:=ah (o:=.tup [.ref p1,.ref g]) hp2;have S25:=S2.trans (S3.trans (S4.trans S5));exact k p2 p1 g ([0,m+1].map (nth ns)) gvs _ _ (SS.trans S25) ⟨af,S5 _ _ q4,S25 _ _ hg',bc (aj.tups S25) hp'⟩ (vg nd ln m1 m7) (e8 ln λq hq=>by simp at hq;omega)
 lk;refine ce (λ_=>?_) (λ_=>?_)
 ·refine s_ret (i_tup (aJ (i_lst (aZ ⟨by decide,λp0 hp0=>aJ (i_comp (s_rng1 (aJ (aE rfl (aZ ⟨_,rfl,by omega,by omega,λD hD=>?_⟩)))))⟩))));rw[xa];generalize hE:upd H p0 _=H1 at *;obtain⟨S1,q1⟩:=cx hp0 hE;clear hE;have hl1:=S1 _ _ hl;let I13:IvC:=λn H2 ys=>aj H1 H2/\H2 D=some (.lst ys)/\Paired (GAt H2) ys ((List.range n).map λk=>(nth ns k,R6 ns m k));refine de (n:=m) I13 ⟨ah hD,af,.nil⟩ (λn H2 ys p=>p.2.1) (λn H2 ys hn p=>?_) (λH2 ys p=>?_)
  ·obtain⟨S2,h2,hp2⟩:=p;have gl:=aV hp2;rw[Qb,List.length_range]at gl;have hmod:(n+1) % m<m:=Nat.mod_lt _ (by omega);refine aB ⟨⟨rfl,rfl,trivial⟩,i_yes (cc ?_)⟩;have hl2:=S2 _ _ hl1;refine jU (dW (k:=n) rfl hl2 ln (by omega) (λH Q q=>aE rfl q) (by omega)) (lP (gP (dW (k:=(n+1) % m) rfl hl2 ln (by omega) (λH Q q=>i_op (i_op (aE rfl (i_c (i_rI0 (aE rfl (i_rI (by show (0:Int)<(m:Int);omega) q))))))) (by rw[show (0:Int)+(n:Int)+1=((n+1:Nat):Int) from by omega];exact(Int.natCast_emod _ _).symm)))) H2 _ (aj.refl _) λv H3 S3 ga=>?_;refine bN.mk (S3 _ _ h2) hn (by omega) ⟨aW (S2.trans S3) hD,af,?_⟩;rw[List.range_succ,QJ];exact jg (S3 _ _ h2) (bc (aj.tups S3) hp2) ga
  obtain⟨S2,h2,hp2⟩:=p;refine aZ ⟨by simp[sizeLine],λp3 hp3=>?_⟩;have S3:=ah (o:=.tup [.ref p0,.ref D]) hp3;exact k p3 p0 D (([]:List Nat).map (nth ns)) _ _ _ (S1.trans (S2.trans S3)) ⟨af,(S2.trans S3) _ _ q1,S3 _ _ h2,bc (aj.tups S3) hp2⟩ (vf nd ln m1 m7) (e8 ln λq hq=>by simp at hq;omega)
 have nmK:∀{σ:St} {H1:Hp} (k:Nat),σ[2]?=some (some (.ref l))->aj H H1->k<11->Mkx H1 σ (tOp (kA K) (bA 2) (tC (.int (k:Int)))) λ_ v=>v=.str (nth ns k):=λk e S hk=>dW e (S _ _ hl) ln hk ic rfl;kt_k;kt_k;refine s_asg (jU (nmK 2 rfl (aj.refl _) (by decide)) (lP (kK (r:=.orr (wN ns 0) (wN ns 3)) (gP (nmK 0 rfl (aj.refl _) (by decide))) (gP (nmK 3 rfl (aj.refl _) (by decide))) .orr)) H _ (aj.refl _) λv1 J1 U1 g1=>aB ?_);kt_k;refine s_asg (jU (nmK 3 rfl U1 (by decide)) (lP (kK (r:=.orr (wN ns 1) (wN ns 2)) (gP (nmK 1 rfl U1 (by decide))) (gP (nmK 2 rfl U1 (by decide))) .orr)) J1 _ (aj.refl _) λv2 J2 U2 g2=>aB ?_);kt_k;refine s_asg (i_lst (aZ ⟨by simp[sizeLine],λb10 hb10=>aB ?_⟩));have V2:=U1.trans U2;have mH:H b10=none:=aj.free V2 hb10;ctx_has J2 b10 J3 U3 u3 cx hb10;have V3:=V2.trans U3
 obtain⟨j,ej,j3⟩:∃j:Nat,(if (3:Int)<(m:Int)-1 then (3:Int) else (m:Int)-1)=(j:Int)/\j<=3:=by
  by_cases h:(3:Int)<(m:Int)-1
  ·rw[QH h];exact⟨3,rfl,by omega⟩
  rw[QB h];exact⟨m-1,by omega,by omega⟩
 kt_k;refine s_for (s_rng1 (aJ (i_cb (aJ (i_op (aE rfl (i_c (i_rI0 (aJ (i_c (aZ ⟨_,_,rfl,aZ ⟨j,by rw[<-ej],by omega,by omega,?_⟩⟩)))))))))));rw[xa];have kt3:cM J3 J3:=λb xs e=>e;let I14:IvF:=λi σ H'=>(∃x4 gvs,σ=[some (.int way),some (.int m),some (.ref l),none,x4,none,some v1,some v2,some (.ref b10)]/\H' b10=some (.lst gvs)/\Paired (GAt H') gvs (((List.range i).map (4+·)).map λk=>(nth ns k,R7 ns k)))/\aj H H'/\cM J3 H';refine bQ (n:=j) I14 ⟨⟨_,[],rfl,u3,.nil⟩,V3,kt3⟩ (λi σ H' hi pv=>?_) (λσ H' pv=>?_)
 ·obtain⟨⟨x4,gvs,rfl,hg',hp'⟩,SS,kt0⟩:=pv;have hl':=SS _ _ hl;have gl:=aV hp';rw[Qb,Qb,List.length_range]at gl;refine aB ?_;have nmI:∀{σ:St} (c:Nat),σ[2]?=some (some (.ref l))->σ[4]?=some (some (.int (0+(i:Int))))->c+i<11->Mkx H' σ (tOp (kA K) (bA 2) (tOp (rI0 λa b=>.int (a+b)) (tC (.int (c:Int))) (bA 4))) λ_ v=>v=.str (nth ns (c+i)):=λc e1 e2 hk=>dW e1 hl' ln hk (λH Q q=>i_op (i_c (aE e2 (i_rI0 q)))) (by omega)
  have e7:R7 ns (4+i)=.an (wN ns (2+i)) (wN ns (3+i)):=by
   unfold R7;rw[QB (by omega),QB (by omega),show 4+i-2=2+i from by omega,show 4+i-1=3+i from by omega]
  refine s_drop (i_bm (aE rfl ⟨i_tyL hg',aJ (jU (nmI 4 rfl rfl (by omega)) (kK (r:=.an (wN ns (2+i)) (wN ns (3+i))) (gP (nmI 2 rfl rfl (by omega))) (gP (nmI 3 rfl rfl (by omega))) .an) H' _ (aj.refl _) λv H3 S3 ga=>aZ (dY (S3 _ _ hg') (by omega) ?_))⟩));have hg3:=S3 _ _ hg';refine⟨⟨_,gvs++[v],rfl,af,?_⟩,aW (SS.trans S3) mH,λb xs e=>by rw[am λz=>by have:=S3 _ _ (kt0 b xs e);rw[z,hg3]at this;cases this];exact S3 _ _ (kt0 b xs e)⟩;rw[List.range_succ,QJ,QJ];refine jg hg3 (bc (aj.tups S3) hp') ?_;show GAt _ _ (nth ns (4+i),R7 ns (4+i));rw[e7];exact ga
 obtain⟨⟨x4,gvs,rfl,hg',hp'⟩,SS,kt0⟩:=pv;have hl':=SS _ _ hl;have gl:=aV hp';rw[Qb,Qb,List.length_range]at gl
 try dsimp only
 refine s_ret (i_tup (aJ (i_sl (aE rfl (i_nopart (i_part (i_c ⟨_,rfl,cJ (SqL.of hl') λp1 hp1=>?_⟩)))))))
 have ec:cP (ns.map V.str) none (some 2)=([0,1].map (nth ns)).map V.str:=by
  have l2:2<=(ns.map V.str).length:=by rw[Qb,ln];decide
  unfold cP;rw[show (some (2:Int))=some ((2:Nat):Int) from rfl,HT.cX,HT.f6,Nat.min_eq_left l2,List.drop_zero,Nat.sub_zero];clear l2
  cases ns with
  | nil=>cases ln
  | cons a r =>
  cases r with
  | nil=>cases ln
  | cons b r=>rfl
 rw[ec];ctx_has H' p1 H2 S2 q2 cx hp1;refine aJ (i_op (i_lst (aJ (aE rfl (aJ (aE rfl (aZ ⟨by simp[sizeLine],λp2 hp2=>?_⟩)))))));ctx_has H2 p2 H3 S3 q3 cx hp2;refine aE rfl (bZ q3 ((S2.trans S3) _ _ hg') (by simp;omega) λp3 hp3=>aZ ⟨by simp[sizeLine],λp4 hp4=>?_⟩);generalize hE:upd H3 p3 _=H4 at *;obtain⟨S4,q4⟩:=cx hp3 hE;clear hE;have S5:=ah (o:=.tup [.ref p1,.ref p3]) hp4;have S25:=S2.trans (S3.trans (S4.trans S5));have kt5:cM J2 (upd H4 p4 (.tup [.ref p1,.ref p3])):=λb xs e=>aj.tups S25 b xs (kt0 b xs (U3 _ _ e));refine k p4 p1 p3 ([0,1].map (nth ns)) _ _ _ (SS.trans S25) ⟨af,(S3.trans (S4.trans S5)) _ _ q2,S5 _ _ q4,?_⟩ (ve nd ln j3) (e8 ln λq hq=>by simp at hq;omega);exact .cons ((g1.mono (aj.tups U2)).mono kt5) (.cons (g2.mono kt5) (bc (aj.tups S25) hp'))
end
theorem dG (h:a<=xs.length):cP xs (some (a:Int)) none=xs.drop a:=by
 unfold cP;rw[HT.cX,HT.f6,Nat.min_eq_left h,Q6 (by rw[QU];omega)]
theorem gz (h:a<=xs.length):cP xs none (some (a:Int))=xs.take a:=by
 unfold cP;rw[HT.cX,HT.f6,Nat.min_eq_left h];simp
def nS:Sp:=λvs H Q _=>∃(d:Addr) (ds:List Int) (spot:Int),vs=[.ref d,.int spot]/\H d=some (.lst (ds.map V.int))/\DOk ds/\0<=spot/\spot<=100 /\
 ∀a li lg ins gvs gs H',aj H H'->NAt H' a li lg ins gvs gs->NetOk ins gs->(∀n∈ai ins gs,n.length<=20000)->Q (.ref a) H'
theorem tT {i:Int} (h0:0<=i) (h1:i<9):∃m:Nat,1<=m/\m<=7/\atI [V.int 1,V.int 2,V.int 2,V.int 3,V.int 3,V.int 4,V.int 5,V.int 6,V.int 7] i=some (.int (m:Int)):=by
 have:i=0\/i=1\/i=2\/i=3\/i=4\/i=5\/i=6\/i=7\/i=8:=by omega
 rcases this with e|e|e|e|e|e|e|e|e
 ·subst e;exact⟨1,by omega,by omega,rfl⟩
 ·subst e;exact⟨2,by omega,by omega,rfl⟩
 ·subst e;exact⟨2,by omega,by omega,rfl⟩
 ·subst e;exact⟨3,by omega,by omega,rfl⟩
 ·subst e;exact⟨3,by omega,by omega,rfl⟩
 ·subst e;exact⟨4,by omega,by omega,rfl⟩
 ·subst e;exact⟨5,by omega,by omega,rfl⟩
 ·subst e;exact⟨6,by omega,by omega,rfl⟩
 subst e;exact⟨7,by omega,by omega,rfl⟩
theorem tU {i:Int} (h0:0<=i) (h1:i<5):∃m:Nat,1<=m/\m<=6/\atI [V.int 2,V.int 3,V.int 3,V.int 3,V.int 6] i=some (.int (m:Int)):=by
 have:i=0\/i=1\/i=2\/i=3\/i=4:=by omega
 rcases this with e|e|e|e|e
 ·subst e;exact⟨2,by omega,by omega,rfl⟩
 ·subst e;exact⟨3,by omega,by omega,rfl⟩
 ·subst e;exact⟨3,by omega,by omega,rfl⟩
 ·subst e;exact⟨3,by omega,by omega,rfl⟩
 subst e;exact⟨6,by omega,by omega,rfl⟩
theorem ak {o:HO} (hp:H2 p=none) (e:upd H2 p o=H3):aj H2 H3/\H3 p=some o:=by subst e;exact⟨ah hp,af⟩
section
theorem ky:FnScope ["d", "spot", "names", "way", "many", "inputs", "deep", "pos", "some", "gates", "name", "rule"] ["d", "spot"] (ap (top 36)):=by fin2
theorem p_ {f:Addr} {fd:FuncData} (Fu:Fun K "_law_net" "_law_net" (top 36) f fd) (T:Txt K mg TT) (f_law_names:Fn P w K mg base "_law_names" ["d", "spot"] 1 jy) (f_law_known:Fn P w K mg base "_law_known" ["way", "many", "names"] 2 jz)
  (f_law_rule:Fn P w K mg base "_law_rule" ["d", "pos", "names", "deep"] 11 (fH 10)) (f_law_deeper:Fn P w K mg base "_law_deeper" ["d", "pos", "names", "rule"] 1 fS):FnOk P w K mg base CX0 12 f fd ["d", "spot"] nS:=by
 have S:=ky;refine Fu.ok S (by room) (λcdv A outer s H vs Q E hr h=>?_);obtain⟨d,ds,spot,rfl,hd,dok,sp0,sp1,k⟩:=h;refine'⟨?_,?bb,?_⟩
 case bb =>
  walk_at "b";exact ar 2 S.nd (aN f_law_names hr (aa (pv 0) (aa (pv 1) ad ae) ae));exact ar 3 S.nd (ag aH (al ao (pv 0) (ag aD (pv 1) ac)) ac);exact ar 4 S.nd (al ao (aL (aa ac (aa ac (aa ac (aa ac (aa ac (aa ac (aa ac (aa ac (aa ac ad aq) aq) aq) aq) aq) aq) aq) aq) aq)) (ag aH (al ao (pv 0) (ag aD (pv 1) ac)) ac));exact(aC rj (pv 3) ac (aI _));exact(aF (aN f_law_known hr (aa (pv 3) (aa (pv 4) (aa (pv 2) ad ae) ae) ae)));exact(aC bD (pv 3) ac (aI _));exact ar 4 S.nd (au (ix rfl) (by rfl) T.n_min PyProof.Rows.boot_min (aa (pv 4) (aa ac ad aq) ae));exact ar 5 S.nd (ag aH (al ao (pv 0) (ag aD (pv 1) ac)) ac);exact ar 6 S.nd (al ao (aL (aa ac (aa ac (aa ac (aa ac (aa ac ad aq) aq) aq) aq) aq)) (pv 3));exact ar 7 S.nd (aL (aa (ag aD (pv 1) ac) ad));exact ar 8 S.nd (aK bH (pv 2) aX (aS (ag aD (pv 5) (pv 4))));exact ar 9 S.nd (aL ad);walk_at "f";exact(cY (aK bH (pv 8) (aS (pv 5)) aX));exact(bC 10 S.nd);walk_at "p";exact ar 11 S.nd (aN f_law_rule hr (aa (pv 0) (aa (pv 7) (aa (pv 8) (aa (pv 6) ad ae) ae) ae) ae));exact(PW.pt (d7 (aC bD (pv 3) ac (aI _)) (dM (aC bD (au aA (by rfl) T.n_len Qo (aa (pv 9) ad ae)) (ag aH (ag bo (al ao (pv 0) (ag aD (pv 1) ac)) ac) (pv 4)) (aI _)))));exact ar 11 S.nd (aN f_law_rule hr (aa (pv 0) (aa (pv 7) (aa (pv 8) (aa ac ad aq) ae) ae) ae));exact(PW.pt (ia (aC bD (pv 3) ac (aI _)) (fi (PW.pt (d7 (aC bD (pv 3) ac (aI _)) (dM (aC bD (au aA (by rfl) T.n_len Qo (aa (pv 9) ad ae)) (ag aH (ag bo (al ao (pv 0) (ag aD (pv 1) ac)) ac) (pv 4)) (aI _))))))));exact ar 11 S.nd (aN f_law_deeper hr (aa (pv 0) (aa (pv 7) (aa (pv 8) (aa (pv 11) ad ae) ae) ae) ae));refine' bi (cA QC QF QG bg (pv 9) ?a)
  case a =>
   walk_at "q";exact(pv 10);exact(pv 11)
  exact(aF (bh (aa (aK bH (pv 2) aX (aS (pv 5))) (aa (pv 9) ad ae))))
 x_go;lk;refine⟨d,ds,spot,rfl,hd,dok,by omega,by omega,λl ns H1 S1 nl ln nd hl lens=>?_⟩;have hd1:=S1 _ _ hd;lk;obtain⟨w0,_,_,ew⟩:=cu dok (i:=spot+2) (by omega) (by omega);refine aO (SqL.of hd1) ew ?_;lk;refine⟨by simp[sizeLine],λp0 hp0=>?_⟩;ctx_has H1 p0 H2 S2 q2 ak hp0;have hd2:=S2 _ _ hd1;lk;obtain⟨y0,_,_,ey⟩:=cu dok (i:=spot+3) (by omega) (by omega);refine aO (SqL.of hd2) ey ?_;lk;obtain⟨m,m1,m7,em⟩:=tT (i:=y0 % 9) (by omega) (by omega);refine aO (SqL.of q2) em ?_;have hl2:=S2 _ _ hl;have wb0:0<=w0 % 8:=by omega
 have wb1:w0 % 8<8:=by omega
 generalize w0 % 8=way at *;lk;refine ce (λ_=>?_) (λhw4=>?_)
 ·lk;exact⟨way,m,l,ns,rfl,m1,m7,hl2,ln,nd,λa li lg ins gvs gs H' S' NA ok mem=>k a li lg ins gvs gs H' (S1.trans (S2.trans S')) NA ok λn h=>lens n (mem n h)⟩
 have hw5:way<=4:=by simpa using hw4
 kt_k;let I15:IvJ:=λσ H'=>∃m:Nat,1<=m/\m<=7/\σ=[some (.ref d),some (.int spot),some (.ref l),some (.int way),some (.int (m:Int)),none,none,none,none,none,none,none]/\H'=H2;with_reducible refine bU I15 (λR hR=>?_) (λσ6 H6 j6=>?_)
 ·lk;refine ce (λ_=>?_) (λ_=>hR _ _ ⟨m,m1,m7,rfl,rfl⟩);lk;refine⟨_,_,rfl,?_⟩;by_cases h3:(3:Int)<(m:Int)
  ·rw[QH h3];exact aB (hR _ _ ⟨3,by omega,by omega,rfl,rfl⟩)
  rw[QB h3];exact aB (hR _ _ ⟨m,m1,m7,rfl,rfl⟩)
 clear em m1 m7 m;obtain⟨m,m1,m7,rfl,e6⟩:=j6;have e6':=e6.symm;subst e6';clear e6;lk;obtain⟨z0,zb0,_,ez⟩:=cu dok (i:=spot+4) (by omega) (by omega);refine aO (SqL.of hd2) ez ?_;lk;obtain⟨I,eI,I4⟩:∃I:Nat,z0 % 5=(I:Int)/\I<=4:=⟨(z0 % 5).toNat,by omega,by omega⟩;rw[eI];refine⟨by simp[sizeLine],λp1 hp1=>?_⟩;ctx_has H2 p1 H3 S3 q3 ak hp1;lk;obtain⟨dp,dp1,dp6,edp⟩:=tU (i:=way) (by omega) (by omega);refine aO (SqL.of q3) edp ?_;lk;refine⟨by show 1<=sizeLine;decide,λqa hqa=>?_⟩;ctx_has H3 qa H4 S4 q4 ak hqa;have S24:=S3.trans S4;have hl4:=S24 _ _ hl2;have hd4:=S24 _ _ hd2;lk;have lns:(ns.map V.str).length=11:=by rw[Qb];exact ln
 rw[show (I:Int)+(m:Int)=((I+m:Nat):Int) from by omega];refine cJ (SqL.of hl4) λso hso=>?_;rw[gz (by rw[lns];omega),<-List.map_take];ctx_has H4 so H5 S5 q5 ak hso;have lts:(ns.take (I+m)).length=I+m:=by rw[Qu];omega
 have nds:(ns.take (I+m)).Nodup:=nd.sublist (List.take_sublist _ _);generalize eTS:ns.take (I+m)=ts at *;have tne:ts≠[]:=λz=>by rw[z]at lts;simp at lts;omega
 lk;refine⟨by decide,λg hg=>?_⟩;ctx_has H5 g H6 S6 q6 ak hg;lk;have lts':(ts.map V.str).length=I+m:=by rw[Qb];exact lts
 refine cJ (SqL.of (S6 _ _ q5)) λq hq=>?_;rw[dG (by rw[lts'];omega),<-List.map_drop];ctx_has H6 q H7 S7 q7 ak hq;have S47:=S5.trans (S6.trans S7);have SS7:aj H H7:=S1.trans (S2.trans (S24.trans S47));have gH:H g=none:=aj.free (S1.trans (S2.trans (S24.trans S5))) hg;have qaH:H qa=none:=aj.free (S1.trans (S2.trans S3)) hqa;have nqg:g≠qa:=λz=>by rw[z]at hg;rw[(S5 _ _ q4)]at hg;cases hg
 refine⟨q,rfl,⟨_,SqL.of q7⟩,?_⟩;let I16:IvF:=λj σ H'=>∃x10 x11 gvs gs,σ=[some (.ref d),some (.int spot),some (.ref l),some (.int way),some (.int (m:Int)),some (.int (I:Int)),some (.int (dp:Int)),some (.ref qa),some (.ref so),some (.ref g),x10,x11]/\gs.map (·.1)=(ts.drop I).take j/\gs.length=j/\H' g=some (.lst gvs)/\Paired (GAt H') gvs gs/\(∀g∈gs,g.2.ok ts/\g.2.dep<=10)/\H' l=some (.lst (ns.map V.str))/\H' so=some (.lst (ts.map V.str))/\H' q=some (.lst ((ts.drop I).map V.str))/\H' d=some (.lst (ds.map V.int))/\(∃n:Int,H' qa=some (.lst [.int n]))/\aj H H'
 refine oX (K:=K) (xs:=(ts.drop I).map V.str) I16
  ⟨none,none,[],[],rfl,rfl,rfl,S7 _ _ q6,.nil,(λg h=>nomatch h),S47 _ _ hl4,(S6.trans S7) _ _ q5,q7,S47 _ _ hd4,⟨_,S47 _ _ q4⟩,SS7⟩ (λj σ H' _ pv=>?_) (λj x σ H' hx pv=>?_) (λσ H' pv=>?_)
 ·obtain⟨_,_,_,_,_,_,_,_,_,_,_,_,h,_⟩:=pv;exact SqL.of h
 ·obtain⟨x10,x11,gvs,gs,rfl,hgs,hj,hg',gts,gok,hl',hso',hq',hd',hqa',SS⟩:=pv;rw[Ql]at hx
  cases hnm:(ts.drop I)[j]? with
  | none=>rw[hnm]at hx;cases hx
  | some nm =>
  rw[hnm]at hx;cases hx;have hjl:j<(ts.drop I).length:=(Qf.mp hnm).1;rw[QU,lts]at hjl;have lgv:=aV gts;have len1:ts.length<=1000:=by omega
  refine aB ?_;lk;refine⟨d,qa,so,ds,ts,dp,rfl,hd',dok,hqa',hso',tne,len1,dp1,by omega,λv r G1 ra rok rd kp=>?_⟩;refine aB ?_;let I17:IvJ:=λσ G2=>∃v r,σ=[some (.ref d),some (.int spot),some (.ref l),some (.int way),some (.int (m:Int)),some (.int (I:Int)),some (.int (dp:Int)),some (.ref qa),some (.ref so),some (.ref g),some (.str nm),some v]/\RAt G2 v r/\r.ok ts/\r.dep<=6/\KpP qa H' G2;with_reducible refine bU I17 (λR hR=>?_) (λσ6 H6' j6=>?_)
  ·have out:=hR _ _ ⟨v,r,rfl,ra,rok,by omega,kp⟩;lk;refine ce (λ_=>?_) (λ_=>?_)
   ·lk;refine⟨_,_,rfl,.inl (SqL.of (kp.old _ _ hg' nqg)),?_⟩;lk;refine aO (SqL.of (kp.ints hqa' dok hd')) ez ?_;lk;refine i_rI (by show (0:Int)<(m:Int);omega) ?_;lk;refine ce (λ_=>?_) (λ_=>out);lk;refine⟨d,qa,so,ds,ts,6,rfl,kp.ints hqa' dok hd',dok,kp.at',kp.strs hqa' hso',tne,len1,by omega,by omega,λv2 r2 G2 ra2 rok2 rd2 kp2=>?_⟩;exact aB (hR _ _ ⟨v2,r2,rfl,ra2,rok2,rd2,kp.trans kp2⟩)
   first|exact out|exact iteF out
  clear ra rok rd kp v r;let I18:IvJ:=λσ G2=>∃v r,σ=[some (.ref d),some (.int spot),some (.ref l),some (.int way),some (.int (m:Int)),some (.int (I:Int)),some (.int (dp:Int)),some (.ref qa),some (.ref so),some (.ref g),some (.str nm),some v]/\RAt G2 v r/\r.ok ts/\r.dep<=10/\KpP qa H' G2;with_reducible refine bU I18 (λR hR=>?_) (λσ7 H7' j7=>?_)
  ·obtain⟨v,r,rfl,ra,rok,rd,kp⟩:=j6;have out:=hR _ _ ⟨v,r,rfl,ra,rok,by omega,kp⟩
   have deeper:∀D:Ends,(∀σ H,R σ H->D.nx σ H)->ms (eG fS [] E0 (be (bA 0) (be (bA 7) (be (bA 8) (be (bA 11) d4))))) (cK 11) D [some (.ref d),some (.int spot),some (.ref l),some (.int way),some (.int (m:Int)),some (.int (I:Int)),some (.int (dp:Int)),some (.ref qa),some (.ref so),some (.ref g),some (.str nm),some v] H6':=λD hD=>by
    lk;refine⟨d,qa,so,ds,ts,v,r,rfl,kp.ints hqa' dok hd',dok,kp.at',kp.strs hqa' hso',tne,len1,ra,rok,rd,λv2 r2 G2 ra2 rok2 rd2 kp2=>?_⟩;exact aB (hD _ _ (hR _ _ ⟨v2,r2,rfl,ra2,rok2,rd2,kp.trans kp2⟩))
   lk;refine ce (λ_=>cc (deeper _ λ_ _ h=>h)) (λ_=>?_);lk;refine ce (λ_=>?_) (λ_=>?_)
   ·lk;refine⟨_,_,rfl,.inl (SqL.of (kp.old _ _ hg' nqg)),?_⟩;lk;refine aO (SqL.of (kp.ints hqa' dok hd')) ez ?_;lk;refine i_rI (by show (0:Int)<(m:Int);omega) ?_;lk;refine ce (λ_=>?_) (λ_=>out);exact deeper _ λ_ _ h=>h
   first|exact out|exact iteF out
  obtain⟨v,r,rfl,ra,rok,rd,kp⟩:=j7;have hg7:=kp.old _ _ hg' nqg;lk;refine⟨by simp[sizeLine],λt ht=>?_⟩;ctx_has H7' t H8 S8 q8 ak ht;have hg8:=S8 _ _ hg7;lk;refine dY hg8 (by omega) ?_
  have kt:cM H8 (upd H8 g (.lst (gvs++[.ref t]))):=λb xs eb=>by
   have nb:b≠g:=λz=>by rw[z,hg8]at eb;cases eb
   rw[am nb];exact eb
  have kp8:KpP qa H' H8:=kp.trans (KpP.of kp.at' S8);have ngl:l≠g:=ax hl4 (aj.free S5 hg);have ngs:so≠g:=ax q5 hg;have ngq:q≠g:=λz=>by rw[z,q6]at hq;cases hq
  have ngd:d≠g:=ax hd4 (aj.free S5 hg);refine⟨_,_,gvs++[.ref t],gs++[(nm,r)],rfl,?_,by simp[hj],af,bX (bc kt (bc (kp8.tups hqa') gts)) ⟨t,v,rfl,kt _ _ q8,(ra.mono (aj.tups S8)).mono kt⟩,λx hx=>?_,by rw[am ngl];exact kp8.strs hqa' hl',by rw[am ngs];exact kp8.strs hqa' hso',by rw[am ngq];exact kp8.strs hqa' hq',by rw[am ngd];exact kp8.ints hqa' dok hd',?_,?_⟩
  ·rw[QJ,hgs,List.take_succ,hnm];rfl
  ·rcases QR.mp hx with h|h
   ·exact gok x h
   have:x=(nm,r):=by simpa using h
   rw[this];exact⟨rok,rd⟩
  ·obtain⟨n,hn⟩:=kp8.at';exact⟨n,by rw[am (QT nqg)];exact hn⟩
  intro b o e;have nb:b≠g:=λz=>by rw[z,gH]at e;cases e
  have nq:b≠qa:=λz=>by rw[z,qaH]at e;cases e
  rw[am nb];exact kp8.old _ _ (SS _ _ e) nq
 obtain⟨x10,x11,gvs,gs,rfl,hgs,hj,hg',gts,gok,hl',hso',hq',hd',hqa',SS⟩:=pv;lk;refine cJ (SqL.of hl') λp8 hp8=>?_;rw[gz (by rw[lns];omega),<-List.map_take];ctx_has H' p8 H8 S8 q8 ak hp8;lk;refine⟨by simp[sizeLine],λp9 hp9=>?_⟩;ctx_has H8 p9 H9 S9 q9 ak hp9;have S89:=S8.trans S9;rw[Qb,QU,lts]at hj
 have hw:ai (ns.take I) gs=ts:=by
  unfold ai;rw[hgs,show (ts.drop I).take ((ts.drop I).map V.str).length=ts.drop I from by rw[Qb];exact List.take_length];have:ns.take I=ts.take I:=by rw[<-eTS,List.take_take,Nat.min_eq_left (by omega)]
  rw[this,List.take_append_drop]
 refine k p9 p8 g (ns.take I) gvs gs H9 (SS.trans S89) ⟨q9,S9 _ _ q8,S89 _ _ hg',bc (aj.tups S89) gts⟩ ⟨by rw[hw];exact nds,by rw[Qu];omega,by omega,by omega,λx hx=>by rw[hw];exact gok x hx⟩ λn h=>lens n (by rw[hw,<-eTS]at h;exact List.mem_of_mem_take h)
end
def nU:Sp:=λvs H Q _=>∃a li lg ins gvs gs,vs=[.ref a]/\NAt H a li lg ins gvs gs/\∀a' li' lg' H',aj H H'->H a'=none->H li'=none->H lg'=none->NAt H' a' li' lg' ins gvs gs->Q (.ref a') H'
def jv:Sp:=λvs H Q _=>∃(x:Int) (a li lg:Addr) (ins:List Str) (gvs:List V) (gs:List (Str × Rl)),vs=[.int x,.ref a]/\NAt H a li lg ins gvs gs/\NetOk ins gs/\∀z H',StOk (ai ins gs).length z->aj H H'->Q (.str z) H'
theorem uS (y:Int):∃c,atI ("01" : Str).cps.toList (Builtin.bitAnd y 1)=some c/\(c=48\/c=49):=by
 rw[PyProof.Rows.bitAnd_m1];have:y % 2=0\/y % 2=1:=by omega
 rcases this with e|e
 ·rw[e];exact⟨48,rfl,.inl rfl⟩
 rw[e];exact⟨49,rfl,.inr rfl⟩
theorem kY (h:∀z∈zs,∃c∈[48,49],z=⟨#[c]⟩):StOk zs.length (Txt.join Str.empty zs):=by
 obtain⟨e1,e2⟩:=mU h;exact⟨e1,λc hc=>by simpa using e2 c hc⟩
section
theorem fD:FnScope ["x", "net"] ["x", "net"] (ap (top 37)):=by fin2
theorem mF {f:Addr} {fd:FuncData} (Fu:Fun K "_law_standing" "_law_standing" (top 37) f fd) (T:Txt K mg TT):FnOk P w K mg base CX0 1 f fd ["x", "net"] jv:=by
 have S:=fD;refine Fu.ok S (by room) (λcdv A outer s H vs Q E hr h=>?_);obtain⟨x,a,li,lg,ins,gvs,gs,rfl,NA,ok,k⟩:=h;obtain⟨ha,hi,hg,gts⟩:=id NA;have lg':=aV gts;have i4:=ok.i4;have g7:=ok.g7;have big:1000<sizeLine:=by decide
 refine'⟨?_,?bb,?_⟩
 case bb =>
  refine' aG ?_;rotate_left 1;walk_at "p";exact(aF (cA PySem.F.plainAttrs_str PySem.F.slot_str_join PySem.F.type_str_join lQ az (aa (gb "k" [("x", 0)] (bn (by rfl) T.n_range (aa (ag aD (au aA (by rfl) T.n_len Qo (aa (al aR (pv 1) ac) ad)) (au aA (by rfl) T.n_len Qo (aa (al aR (pv 1) ac) ad))) ad)) (λ_ _ _ _=>(al cB az (ag sG (ag sD (pv 1) (pv 0)) ac)))) ad)))
 x_go;lk;refine⟨rfl,?_⟩;lk;refine i_comp ?_;lk
 have en:((ins.map V.str).length:Int)+(gvs.length:Int)=(((ai ins gs).length:Nat):Int):=by
  unfold ai;rw[Qi,Qb,Qb,lg'];rfl
 have wl:(ai ins gs).length<1000:=by
  unfold ai;rw[Qi,Qb];omega
 rw[en];refine⟨by omega,by omega,λL hL=>?_⟩;rw[xa];let I19:IvC:=λn H2 ys=>aj H H2/\H2 L=some (.lst ys)/\∃zs:List Str,ys=zs.map V.str/\zs.length=n/\∀z∈zs,∃c∈[48,49],z=⟨#[c]⟩;refine de I19 ⟨ah hL,af,[],rfl,rfl,λz h=>nomatch h⟩ (λn H2 ys p=>p.2.1) (λn H2 ys hn p=>?_) (λH2 ys p=>?_)
 ·obtain⟨S2,h2,zs,rfl,hz,hc⟩:=p;refine aB ⟨⟨rfl,trivial⟩,i_yes (cc ?_)⟩;show tOp _ _ _ [some (.int (0+n)),some (.int x)] _ _;lk;refine i_rI (by show (0:Int)<=0+(n:Int);omega) ?_;lk;obtain⟨c,ec,hcc⟩:=uS (x / 2 ^ (0+(n:Int)).toNat);refine dF (by decide +kernel) ec ?_;refine bN.mk h2 hn (by rw[Qb];omega) ⟨aW S2 hL,af,zs++[⟨#[c]⟩],by simp,by simp[hz],λz hz'=>?_⟩;rcases QR.mp hz' with h|h
  ·exact hc z h
  rw[Q2]at h;exact⟨c,by simpa using hcc,h⟩
 obtain⟨S2,h2,zs,rfl,hz,hc⟩:=p;obtain⟨_,_,e3⟩:=c9 zs hc;have e0:("" : Str)=Str.empty:=by decide +kernel
 have e00:("" : Str).length=0:=by decide +kernel
 refine aZ ⟨"", L,zs,rfl,rfl,SqL.of h2,by rw[e3,e00];omega,?_⟩;rw[e0];exact k _ H2 (by rw[<-hz];exact kY hc) S2
theorem jH:FnScope ["net"] ["net"] (ap (top 41)):=by fin2
theorem qk {f:Addr} {fd:FuncData} (Fu:Fun K "_law_copy" "_law_copy" (top 41) f fd) (T:Txt K mg TT):FnOk P w K mg base CX0 1 f fd ["net"] nU:=by
 have S:=jH;refine Fu.ok S (by room) (λcdv A outer s H vs Q E hr h=>?_);obtain⟨a,li,lg,ins,gvs,gs,rfl,NA,k⟩:=h;obtain⟨ha,hi,hg,gts⟩:=id NA;refine⟨_,(aG (aF (bh (aa (bK bY (by rfl) T.n_list xi (aa (al aR (pv 0) ac) ad)) (aa (bK bY (by rfl) T.n_list xi (aa (al aR (pv 0) ac) ad)) ad se_call) se_call)))),?_⟩;x_go;lk;intro l hl;have S1:=ah (o:=.lst (ins.map V.str)) hl;have ha1:=S1 _ _ ha;have hg1:=S1 _ _ hg;have hl1:upd H l (HO.lst (ins.map V.str)) l=some (.lst (ins.map V.str)):=af;generalize upd H l (HO.lst (ins.map V.str))=H1 at *;lk;intro m hm;have S2:=ah (o:=.lst gvs) hm;have hl2:=S2 _ _ hl1;have hm2:upd H1 m (HO.lst gvs) m=some (.lst gvs):=af;generalize upd H1 m (HO.lst gvs)=H2 at *;lk;refine⟨by simp[sizeLine],λp hp=>?_⟩;have S3:=ah (o:=.tup [.ref l,.ref m]) hp;have S13:=S1.trans (S2.trans S3);exact k p l m _ S13 (aj.free (S1.trans S2) hp) hl (aj.free S1 hm) ⟨af,S3 _ _ hl2,S3 _ _ hm2,bc (aj.tups S13) gts⟩
theorem iU:FnScope ["rule", "signs", "one", "other"] ["rule", "signs"] (ap (top 38)):=by fin2
theorem ii {f:Addr} {fd:FuncData} (Fu:Fun K "_law_holds" "_law_holds" (top 38) f fd) (T:Txt K mg TT) (hm:mg "_law_holds" = some (.ref f)) (hk:PySem.W.keepIn K (.ref f)=true) (hb:b9 K fd ["rule", "signs"] []):∀d,FnOk P w K mg base CX0 d f fd ["rule", "signs"] (dL d)
 | 0=>ek λvs H Q E ⟨v,a,kvs,r,ns,g,_,_,h,_⟩=>by have:=l8 r;omega
 | d+1=>by
  have S:=iU;have f_law_holds:Fn P w K mg base "_law_holds" ["rule", "signs"] d (dL d):=⟨f,fd,ii Fu T hm hk hb d,hm,hk,hb⟩;refine Fu.ok S (λvs H Q E h=>?_) (λcdv A outer s H vs Q E hr h=>?_)
  ·obtain⟨v,a,kvs,r,ns,g,rfl,_⟩:=h;rfl
  obtain⟨v,a,kvs,r,ns,g,rfl,ra,hd,rok,ha,hf,q⟩:=h;have hu:=lX hr;refine'⟨?_,?bb,?_⟩
  case bb =>
   walk_at "b";exact(aC bD (al aR (pv 0) ac) az (aI _));exact(aF (cF bD (dN hu (pv 1) (al aR (pv 0) ac)) az (aI _)));exact(aC bD (al aR (pv 0) ac) az (aI _));exact(aF (om (aN f_law_holds hr (aa (al aR (pv 0) ac) (aa (pv 1) ad ae)))));exact ar 2 S.nd (aN f_law_holds hr (aa (al aR (pv 0) ac) (aa (pv 1) ad ae)));exact ar 3 S.nd (aN f_law_holds hr (aa (al aR (pv 0) ac) (aa (pv 1) ad ae)));exact(aC bD (al aR (pv 0) ac) az (aI _));exact(aF (ja (pv 2) (f_ (pv 3))));exact(aF (rh (pv 2) (f_ (pv 3))))
  x_go
  cases ra with
  | @w b n hb =>
   lk;refine ifT (by decide +kernel) ?_;lk;have hv:bE kvs (Sum.inr n:Key)=some (sg (g n)):=hf n rok;refine⟨a,sg (g n),rfl,by rw[<-hv];exact du.k (k:=Sum.inr n) ha,?_⟩;lk;refine i_eq (by cases g n <;> rfl) ?_;rw[kn];exact q
  | @no b u r hb hr1 =>
   lk;refine ifF (by decide +kernel) ?_;lk;refine ifT (by decide +kernel) ?_;lk;exact⟨u,a,kvs,r,ns,g,rfl,hr1,by simp only[Rl.dep]at hd;omega,rok,ha,hf,⟨_,rfl,q⟩⟩
  | @an b u x r1 r2 hb hr1 hr2 =>
   lk;refine ifF (by decide +kernel) ?_;lk;refine ifF (by decide +kernel) ?_;lk;simp only[Rl.dep]at hd;refine⟨u,a,kvs,r1,ns,g,rfl,hr1,by omega,rok.1,ha,hf,?_⟩;lk;refine⟨x,a,kvs,r2,ns,g,rfl,hr2,by omega,rok.2,ha,hf,?_⟩;lk;refine ifT (by decide +kernel) ?_;have e:Rl.val g (Rl.an r1 r2)=(r1.val g&&r2.val g):=rfl;rw[e]at q;lk
   cases hv:r1.val g with
   | false=>rw[hv]at q;exact iteF q
   | true =>
   rw[hv]at q;refine cc ?_;lk;exact q
  | @orr b u x r1 r2 hb hr1 hr2 =>
  lk;refine ifF (by decide +kernel) ?_;lk;refine ifF (by decide +kernel) ?_;lk;simp only[Rl.dep]at hd;refine⟨u,a,kvs,r1,ns,g,rfl,hr1,by omega,rok.1,ha,hf,?_⟩;lk;refine⟨x,a,kvs,r2,ns,g,rfl,hr2,by omega,rok.2,ha,hf,?_⟩;lk;refine ifF (by decide +kernel) ?_;have e:Rl.val g (Rl.orr r1 r2)=(r1.val g || r2.val g):=rfl;rw[e]at q;lk
  cases hv:r1.val g with
  | true=>rw[hv]at q;exact cc q
  | false =>
  rw[hv]at q;refine iteF ?_;lk;exact q
end
theorem gA {K:PySem.W.Frag} {σ:St} {Q:VK} {a:Addr} (hσ:σ[i]?=some (some (.ref a))) (NA:NAt H a li lg ins gvs gs) (ok:NetOk ins gs)
  (q:∀D H',H D=none->aj H H'->H' D=some (.lst ((gs.map (·.1)).map V.str))->Q (.ref D) H') :
  fP (jX K (tOp (jL K) (bA i) (tC (V.int 1)))) (sX K 2 (oV (cK 0) (oV (cK 1) uL))) fB (bA 0) (bw [Str.ofString "name", Str.ofString "rule"] []) σ H Q:=by
 have l:=aV NA.gates;have g7:=ok.g7;have big:1000<sizeLine:=by decide
 refine i_comp (s_list (i_op (aE hσ (i_c (i_ixT NA.ha rfl ⟨lg,rfl,⟨_,SqL.of NA.hg⟩,λD hD=>?_⟩)))));refine dR (xs:=gvs) (λn H' ys=>aj H H'/\H' D=some (.lst ys)/\ys=((gs.map (·.1)).map V.str).take n) ⟨ah hD,af,by simp⟩ (λn H' ys p=>⟨p.2.1,SqL.of (p.1 _ _ NA.hg)⟩) (λn x H' ys e p=>?_) (λH' ys p=>?_)
 ·obtain⟨S,hd,rfl⟩:=p;obtain⟨g,hgi,b,rv,rfl,hb,hrv⟩:=b_ NA.gates n x e;have hn:n<gvs.length:=(Qf.mp e).1;refine⟨b,_,rfl,SqT.of (S _ _ hb),rfl,?_⟩;refine⟨_,_,rfl,aB ⟨_,_,rfl,aB ⟨rfl,⟨trivial,i_yes (cc ?_)⟩⟩⟩⟩;refine aE rfl (bN.mk hd hn (by rw[Qu];omega) ⟨aW S hD,af,?_⟩);rw[List.take_succ,Ql,Ql,hgi];rfl
 obtain⟨S,hd,rfl⟩:=p;exact q D H' hD S (by rw[hd,Q6 (by simp[l])])
section
theorem iW:FnScope ["net", "standing", "names", "signs", "found", "k", "name", "rule", "at", "sign"] ["net", "standing"] (ap (top 39)):=by fin2
theorem kG {f:Addr} {fd:FuncData} (Fu:Fun K "_law_asked" "_law_asked" (top 39) f fd) (T:Txt K mg TT) (f_law_holds:Fn P w K mg base "_law_holds" ["rule", "signs"] 10 (dL 10)):FnOk P w K mg base CX0 11 f fd ["net", "standing"] dJ:=by
 have S:=iW;refine Fu.ok S (by room) (λcdv A outer s H vs Q E hr h=>?_);obtain⟨a,li,lg,ins,gvs,gs,z,rfl,NA,ok,st,k⟩:=h;have hu:=lX hr;refine'⟨?_,?bb,?_⟩
 case bb =>
  walk_at "b";exact ar 2 S.nd (ag bF (al aR (pv 0) ac) (lL (tgs:=["name", "rule"]) (cap:=[]) rfl ⟨rfl,rfl,rfl,rfl,rfl,rfl⟩ (cY (al aR (pv 0) ac)) (λ_ _ _ _=>(i8 (K:=K) (n:=2) rfl rfl (aP (bW (i:=0) (show List.Nodup [("name" : Str),("rule" : Str)] by decide +kernel) rfl (by z_go)) (aP (bW (i:=1) (show List.Nodup [("name" : Str),("rule" : Str)] by decide +kernel) rfl (by z_go)) bV)))) (λ_ _ _ _=>dB) (λ_ _ _ _=>(pv 0))));exact ar 3 S.nd (lM rfl (by rfl) T.n_dict (by rfl) T.n_zip (aa (pv 2) (aa (pv 1) ad ae) ae));exact ar 4 S.nd (aL ad);walk_at "f";exact(i7 (by rfl) T.n_enumerate (aa (al aR (pv 0) ac) ad));exact(cZ rfl (aP (bC 5 S.nd) (aP (cZ rfl (aP (bC 6 S.nd) (aP (bC 7 S.nd) bV))) bV)));walk_at "p";exact(aC dm (aN f_law_holds hr (aa (pv 7) (aa (pv 3) ad ae) ae)) (cF bD (dN hu (pv 3) (pv 6)) az (aI _)) (aI _));exact ar 8 S.nd (ag aD (au aA (by rfl) T.n_len Qo (aa (al aR (pv 0) ac) ad)) (pv 5));exact ar 9 S.nd (al cB az (bK gY (by rfl) T.n_int PyProof.Rows.boot_int (aa (al cB (pv 1) (pv 8)) ad)));refine' bi (cA QC QF QG bg (pv 4) ?a)
  case a =>
   walk_at "q";exact(pv 6);exact(ag aQ (ag aQ (aK cj (pv 1) aX (aS (pv 8))) (pv 9)) (aK cj (pv 1) (aS (ag aD (pv 8) ac)) aX))
  exact(aF (pv 4))
 x_go;have i4:=ok.i4;have g7:=ok.g7;have lgn:=aV NA.gates;have wl:(ai ins gs).length=ins.length+gs.length:=by unfold ai;rw[Qi,Qb]
 have big:1000<sizeLine:=by decide
 obtain⟨ha,hi,hg,gts⟩:=id NA;lk;refine gA rfl NA ok λD H1 hD S1 h1=>?_;show pP _ _ _ _;refine bZ (S1 _ _ hi) h1 (hG ok) λl0 hl0=>?_;rw[g_];ctx_has H1 l0 H2 S2 q2 ak hl0;lk;show be _ _ _ _ _;lk;refine⟨l0,ai ins gs,z,rfl,SqL.of q2,by rw[st.len];omega,by omega,λd hd0=>?_⟩;ctx_has H2 d H3 S3 q3 ak hd0;have df:DFn (bj [] (bT (ai ins gs) z)) (ai ins gs) (sgn (ai ins gs) z):=l6 ok.nd st;generalize bj [] (bT (ai ins gs) z)=kvs at *;lk;refine⟨by decide,λl hl=>?_⟩;ctx_has H3 l H4 S4 q4 ak hl;have S03:=S1.trans (S2.trans S3);have S04:=S03.trans S4;have hlH:H l=none:=aj.free S03 hl;have NA4:=NA.same S04;have hd4:=S4 _ _ q3;have dl:d≠l:=ax q3 hl;obtain⟨ha4,hi4,hg4,gts4⟩:=id NA4;lk;show be _ _ _ _ _;lk;refine⟨lg,rfl,⟨_,SqL.of hg4⟩,?_⟩;let I20:IvF:=λi σ H'=>(∃x5 x6 x7 x8 x9 vs',σ=[some (.ref a),some (.str z),some (.ref l0),some (.ref d),some (.ref l),x5,x6,x7,x8,x9]/\H' l=some (.lst vs')/\vs'.length<=i/\Paired (jm H') vs' (((gs.zipIdx ins.length).take i).filterMap (bq (sgn (ai ins gs) z) z)))/\aj H H'/\H' d=some (.dK kvs)
 refine gu (xs:=gvs) I20
  ⟨⟨_,_,_,_,_,[],rfl,q4,by simp,by simp;exact .nil⟩,S04,hd4⟩ (λi σ H' _ pv=>SqL.of (pv.2.1 _ _ NA.hg)) (λi x σ H' t hx pv ht=>?_) (λσ H' pv=>?_)
 ·obtain⟨⟨x5,x6,x7,x8,x9,vs',rfl,hl',hlen,hp⟩,SS,hd'⟩:=pv;have hig:i<gvs.length:=(Qf.mp hx).1;obtain⟨g,hgi,b,rv,rfl,hb,hrv⟩:=b_ NA.gates i x hx;have S5:=ah (o:=.tup [.int (i:Nat),.ref b]) ht;have hb5:=(SS.trans S5) _ _ hb;refine⟨t,_,rfl,SqT.of af,rfl,?_⟩;refine⟨_,_,rfl,aB ⟨_,_,rfl,⟨b,_,rfl,SqT.of hb5,rfl,⟨_,_,rfl,aB ⟨_,_,rfl,aB ⟨rfl,⟨rfl,?_⟩⟩⟩⟩⟩⟩⟩;have hl5:=S5 _ _ hl';have hd5:=S5 _ _ hd';have SS5:=SS.trans S5;have hp5:=bO (aj.tups S5) hp;generalize upd H' t (.tup [.int (i:Nat),.ref b])=H5 at *;have hr5:=hrv.mono (aj.tups SS5);have gm:g∈gs:=QP hgi;obtain⟨rok,rdep⟩:=ok.rules g gm;have hpl:ins.length+i<(ai ins gs).length:=by omega
  have hzi:(gs.zipIdx ins.length)[i]?=some (g,ins.length+i):=by rw[List.getElem?_zipIdx,hgi];rfl
  have gw:g.1∈ai ins gs:=by
   unfold ai;exact Qw _ (List.mem_map_of_mem gm)
  have hv1:bE kvs (Sum.inr g.1:Key)=some (sg (sgn (ai ins gs) z g.1)):=df g.1 gw
  have sgi:sgn (ai ins gs) z g.1=(z.cps.getD (ins.length+i) 0==49):=by
   have hw:(ai ins gs)[ins.length+i]?=some g.1:=by
    unfold ai;rw[Q4 (by omega),Ql,show ins.length+i-ins.length=i from by omega,hgi];rfl
   have e2:(ai ins gs)[ins.length+i]=g.1:=(Qf.mp hw).2
   have hi':(ai ins gs).idxOf g.1=ins.length+i:=by
    rw[<-e2];exact List.Nodup.idxOf_getElem ok.nd _ hpl
   unfold sgn;rw[hi']
  rw[sgi]at hv1;lk;refine⟨rv,d,kvs,g.2,_,_,rfl,hr5,rdep,rok,hd5,df,?_⟩;generalize hv:g.2.val (sgn (ai ins gs) z)=bv;lk;refine⟨d,_,rfl,by rw[<-hv1];exact du.k (k:=Sum.inr g.1) hd5,?_⟩;have zl:z.length=(ai ins gs).length:=st.len;have e:=fJ st hpl;unfold dj at e
  have so:bq (sgn (ai ins gs) z) z (g,ins.length+i)=if (bv==(z.cps.getD (ins.length+i) 0==49))=true then none else some (g.1,eF z (ins.length+i)):=by
   unfold bq;rw[hv]
  have fT:cL z (ins.length+i)=if (z.cps.getD (ins.length+i) 0==49)=true then ("0" : Str) else ("1" : Str):=rfl
  have tk:((gs.zipIdx ins.length).take (i+1)).filterMap (bq (sgn (ai ins gs) z) z)=((gs.zipIdx ins.length).take i).filterMap (bq (sgn (ai ins gs) z) z)++(bq (sgn (ai ins gs) z) z (g,ins.length+i)).toList:=by
   rw[List.take_succ,hzi,List.filterMap_append];cases h:bq (sgn (ai ins gs) z) z (g,ins.length+i) <;> simp[h]
  lk;refine i_eq (by cases (z.cps.getD (ins.length+i) 0==49) <;> rfl) ?_;rw[kn];generalize hbz:(z.cps.getD (ins.length+i) 0==49)=bz at *;lk
  cases hc:(bv==bz) with
  | true =>
   have:bv=bz:=by simpa using hc
   refine ifF (by rw[this];simp) ?_;rw[hc]at so;refine⟨⟨_,_,_,_,_,vs',rfl,hl5,by omega,?_⟩,SS5,hd5⟩;rw[tk,so];simpa using hp5
  | false =>
  have hne:bv≠bz:=by simpa using hc
  refine ifT (by simp[hne]) ?_;rw[hc]at so;have NA5:=NA.same SS5;obtain⟨ha5,hi5,hg5,gts5⟩:=id NA5;lk;have ep:((ins.map V.str).length:Int)+((i:Nat):Int)=((ins.length+i:Nat):Int):=by rw[Qb];omega
  rw[ep];lk;refine dF (by omega) (ji st hpl) ?_;rw[e];have sgt:sg bz=.str (if bz=true then ("1" : Str) else ("0" : Str)):=by cases bz <;> rfl
  rw[sgt];lk;refine⟨_,if bz=true then 1 else 0,rfl,by cases bz <;> decide +kernel,by cases bz <;> decide +kernel,?_⟩;have l1:(cL z (ins.length+i)).length=1:=by rw[fT];cases bz <;> decide +kernel
  refine dF (c:=if bz=true then 48 else 49) (by decide +kernel) (by cases bz <;> rfl) ?_;have cz:(⟨#[if bz=true then 48 else 49]⟩:Str)=cL z (ins.length+i):=by rw[fT];cases bz <;> decide +kernel
  rw[cz];have s1:=Txt.slice_le z none (some ((ins.length+i:Nat):Int));have s2:=Txt.slice_le z (some (((ins.length+i:Nat):Int)+1)) none;lk;refine dq (by omega) ?_;lk;refine⟨_,_,rfl,rfl,by omega,?_⟩;lk;refine dq (by omega) ?_;refine⟨_,_,rfl,rfl,by rw[lap];omega,?_⟩;show d4 _ _ _;lk;refine⟨by simp[sizeLine],λq hq=>?_⟩;generalize hE:upd H5 q _=H6;have S6:aj H5 H6:=by rw[<-hE];exact ah hq
  have q6:H6 q=some (.tup [.str g.1,.str (eF z (ins.length+i))]):=by rw[<-hE];exact af
  clear hE;have hl6:=S6 _ _ hl5;have hd6:=S6 _ _ hd5;lk;refine dY hl6 (by omega) ?_
  have kt:cM H6 (upd H6 l (.lst (vs'++[.ref q]))):=λb xs e=>by
   have:b≠l:=λx=>by rw[x,hl6]at e;cases e
   rw[am this];exact e
  refine⟨⟨_,_,_,_,_,vs'++[.ref q],rfl,af,by simp;omega,?_⟩,aW (SS5.trans S6) hlH,by rw[am dl];exact hd6⟩;rw[tk,so];exact bX (bO kt (bO (aj.tups S6) hp5)) ⟨q,rfl,kt _ _ q6⟩
 obtain⟨⟨x5,x6,x7,x8,x9,vs',rfl,hl',hlen,hp⟩,SS,hd'⟩:=pv;refine s_ret (te:=bA 4) (D:={ nx:=λx H'=>Q V.non H',rt:=Q }) (aE rfl ?_);refine k l vs' H' SS hlH hl' ?_;have e:(gs.zipIdx ins.length).length=gvs.length:=by rw[List.length_zipIdx,lgn]
 rw[<-e,List.take_length]at hp;exact hp
end
inductive Run (ins:List Str) (gs:List (Str × Rl)):Str->List Str->Str->Prop where
 | nil {z:Str}:Run ins gs z [] z
 | cons {z y w:Str} {n:Str} {os:List Str}:(n,y)∈bf ins gs z->StOk (ai ins gs).length y->Run ins gs y os w->Run ins gs z (n::os) w
theorem e_ {f:Str->Bool} {z:Str}:∀(gs:List (Str × Rl)) (n:Nat),List.Sublist (((gs.zipIdx n).filterMap (bq f z)).map (·.1)) (gs.map (·.1))
 | [],_=>by simp
 | g::gs,n=>by
  rw[List.zipIdx_cons,List.filterMap_cons,Qs];have ih:=e_ (f:=f) (z:=z) gs (n+1)
  cases e:bq f z (g,n) with
  | none=>exact ih.cons _
  | some p =>
  have:p.1=g.1:=by
   unfold bq at e
   split at e
   ·cases e
   cases e;rfl
  rw[Qs,this];exact ih.cons₂ _
theorem nN (ok:NetOk ins gs) (z:Str):((bf ins gs z).map (·.1)).Nodup:=by
 have nd:=ok.nd;unfold ai at nd;exact((List.nodup_append.mp nd).2.1).sublist (e_ gs ins.length)
def stV (ps:List (Str × Str)):List (Str × V):=ps.map λp=>(p.1,V.str p.2)
theorem pM (ok:NetOk ins gs) {n:Str} (h:(n,y)∈bf ins gs z):bE (bj [] (cm (stV (bf ins gs z)))) (Sum.inr n:Key)=some (.str y):=by
 refine cw ?_ ?_
 ·have:(cm (stV (bf ins gs z))).map (·.1)=((bf ins gs z).map (·.1)).map Sum.inr:=by unfold cm stV;simp
  rw[this];exact ij (nN ok z)
 unfold cm stV;rw[List.map_map];exact QL.mpr ⟨(n,y),h,rfl⟩
theorem lK {H:Hp}:∀{vs:List V} {ps:List (Str × Str)},Paired (jm H) vs ps->Paired (pB H) vs (stV ps)
 | _,_,.nil=>.nil
 | _,_,.cons h t=>.cons h (lK t)
section
theorem eL:FnScope ["net", "standing", "order", "known", "here", "at", "name"] ["net", "standing", "order"] (ap (top 21)):=by fin2
end
theorem pH (st:StOk n z) (hi:i<n):StOk n (eF z i):=by
 have hl:=st.len;have a:=fU (z:=z) (j:=i) (by omega);have b:=fW (z:=z) (a:=i+1) (by omega);rw[show ((i+1:Nat):Int)=(i:Int)+1 from by omega]at b
 have f:(cL z i).cps.toList=[48]\/(cL z i).cps.toList=[49]:=by
  unfold cL
  split
  ·exact .inl (by decide +kernel)
  exact .inr (by decide +kernel)
 have e:(eF z i).cps.toList=(z.cps.toList.take i++(cL z i).cps.toList)++z.cps.toList.drop (i+1):=by
  unfold eF;show ((_++_)++_:Array Nat).toList=_;rw[Array.toList_append,Array.toList_append,a,b]
 refine⟨?_,λc hc=>?_⟩
 ·rw[<-Qz,e,Qi,Qi,Qu,QU,Qz];have:(cL z i).cps.toList.length=1:=by rcases f with f|f <;> rw[f] <;> rfl
  omega
 rw[e]at hc;rcases QR.mp hc with h|h
 ·rcases QR.mp h with h|h
  ·exact st.signs c (List.mem_of_mem_take h)
  rcases f with f|f
  ·rw[f]at h;exact .inl (by simpa using h)
  rw[f]at h;exact .inr (by simpa using h)
 exact st.signs c (List.mem_of_mem_drop h)
theorem nM {n:Str} (st:StOk (ai ins gs).length z) (h:(n,y)∈bf ins gs z):StOk (ai ins gs).length y:=by
 unfold bf at h;obtain⟨⟨g,p⟩,hm,e⟩:=List.mem_filterMap.mp h;have hp:=List.mem_zipIdx hm;have wl:(ai ins gs).length=ins.length+gs.length:=by unfold ai;rw[Qi,Qb]
 unfold bq at e
 split at e
 ·cases e
 cases e;exact pH st (by omega)
structure Wlk (ins:List Str) (gs:List (Str × Rl)) (z:Str) (os as:List Str):Prop where
 len:as.length=os.length+1
 hd:as[0]?=some z
 st:∀x∈as,StOk (ai ins gs).length x
 step:∀(k:Nat) x n y,as[k]?=some x->os[k]?=some n->as[k+1]?=some y->(n,y)∈bf ins gs x
theorem Wlk.run (W:Wlk ins gs z os as):∀(m i:Nat) x y,i+m<=os.length->as[i]?=some x->as[i+m]?=some y->Run ins gs x ((os.drop i).take m) y
 | 0,i,x,y,_,hx,hy=>by
  rw[Nat.add_zero,hx]at hy;cases hy;exact .nil
 | m+1,i,x,y,hl,hx,hy=>by
  have hi:i<os.length:=by omega
  have len:=W.len;obtain⟨u,hu⟩:∃u,as[i+1]?=some u:=⟨as[i+1]'(by omega),Qd _⟩;rw[List.drop_eq_getElem_cons hi,List.take_succ_cons];refine .cons (W.step i x _ u hx (Qd hi) hu) (W.st u (QP hu)) (W.run m (i+1) u y (by omega) hu ?_);rw[show i+1+m=i+(m+1) from by omega];exact hy
theorem pA (h:ns[j]?=some x) (hl:ns.length=j+1):atI (ns.map V.str) (-1)=some (.str x):=by
 have e:ixN (ns.map V.str).length (-1)=some j:=by
  unfold ixN;rw[Qb,QB (by decide),QH (by omega)];congr 1;omega
 unfold atI;rw[e];show (ns.map V.str)[j]?=_;rw[Ql,h];rfl
def lB:Sp:=λvs H Q _=>∃(a li lg:Addr) (ins:List Str) (gvs:List V) (gs:List (Str × Rl)) (z:Str) (d:Addr) (ds:List Int) (spot:Int) (m:Nat),vs=[.ref a,.str z,.ref d,.int spot,.int m]/\NAt H a li lg ins gvs gs/\NetOk ins gs/\StOk (ai ins gs).length z/\H d=some (.lst (ds.map V.int))/\DOk ds/\m<=40 /\
 ∀t oa la os as H',aj H H'->H' t=some (.tup [.ref oa,.ref la])->H' oa=some (.lst (os.map V.str))->H' la=some (.lst (as.map V.str))->os.length<=40->Wlk ins gs z os as->Q (.ref t) H'
section
theorem iP:FnScope ["net", "standing", "d", "spot", "most", "order", "along", "k", "some", "name", "there"] ["net", "standing", "d", "spot", "most"] (ap (top 40)):=by fin2
theorem oB {f:Addr} {fd:FuncData} (Fu:Fun K "_law_order" "_law_order" (top 40) f fd) (T:Txt K mg TT) (f_law_asked:Fn P w K mg base "_law_asked" ["net", "standing"] 11 dJ):FnOk P w K mg base CX0 12 f fd ["net", "standing", "d", "spot", "most"] lB:=by
 have S:=iP;refine Fu.ok S (by room) (λcdv A outer s H vs Q E hr h=>?_);obtain⟨a,li,lg,ins,gvs,gs,z,d,ds,spot,m,rfl,NA,ok,st,hd,dok,m40,k⟩:=h;refine'⟨?_,?bb,?_⟩
 case bb =>
  walk_at "b";exact ar 5 S.nd (aL ad);exact ar 6 S.nd (aL (aa (pv 1) ad ae));walk_at "f";exact(bn (by rfl) T.n_range (aa (pv 4) ad ae));exact(bC 7 S.nd);walk_at "p";exact ar 8 S.nd (aN f_law_asked hr (aa (pv 0) (aa (al ao (pv 6) (fq dy ac)) ad) ae));exact(aC (oo hr.units) (pv 8) (aL ad) (aI _));exact(f8 (al ao (pv 8) (ag aH (al ao (pv 2) (ag aH (ag aD (pv 3) (pv 7)) (au aA (by rfl) T.n_len Qo (aa (pv 2) ad ae)))) (au aA (by rfl) T.n_len Qo (aa (pv 8) ad ae)))) (cZ rfl (aP (bC 9 S.nd) (aP (bC 10 S.nd) bV))));exact(bi (cA QC QF QG bg (pv 5) (aa (pv 9) ad ae)));exact(bi (cA QC QF QG bg (pv 6) (aa (pv 10) ad ae)));exact(aF (bh (aa (pv 5) (aa (pv 6) ad ae) ae)))
 x_go;have g7:=ok.g7;lk;refine⟨by decide,λoa hoa=>?_⟩;ctx_has H oa H1 S1 q1 ak hoa;lk;refine⟨by show 1<=sizeLine;decide,λla hla=>?_⟩;ctx_has H1 la H2 S2 q2 ak hla;have laH:H la=none:=aj.free S1 hla;have nol:oa≠la:=ax q1 hla;lk;refine⟨by omega,by omega,?_⟩;rw[xa];let I21:IvF:=λi σ H'=>(∃x7 x8 x9 x10 os as,σ=[some (.ref a),some (.str z),some (.ref d),some (.int spot),some (.int m),some (.ref oa),some (.ref la),x7,x8,x9,x10]/\H' oa=some (.lst (os.map V.str))/\H' la=some (.lst (as.map V.str))/\os.length<=i/\Wlk ins gs z os as)/\aj H H'
 refine bQ (n:=m) I21
  ⟨⟨_,_,_,_,[],[z],rfl,S2 _ _ q1,q2,Qh _,⟨rfl,rfl,λx hx=>by rw[Q2]at hx;rw[hx];exact st,λk x n y _ h=>by simp at h⟩⟩,S1.trans S2⟩ (λi σ H' hi pv=>?_) (λσ H' pv=>?_)
 ·obtain⟨⟨x7,x8,x9,x10,os,as,rfl,ho,hl,lo,W⟩,SS⟩:=pv;have len:=W.len;obtain⟨x,hx⟩:∃x,as[os.length]?=some x:=⟨as[os.length]'(by omega),Qd _⟩;have stx:=W.st x (QP hx);refine aB ?_;lk;refine aO (SqL.of hl) (pA hx len) ?_;lk;refine⟨a,li,lg,ins,gvs,gs,x,rfl,NA.same SS,ok,stx,λl vs' H3 S3 nl hl3 pr=>?_⟩;have SS3:=SS.trans S3;have ho3:=S3 _ _ ho;have hla3:=S3 _ _ hl;have lv:=aV pr;lk;refine⟨by decide,λp hp=>?_⟩;ctx_has H3 p H4 S4 q4 ak hp;have SS4:=SS3.trans S4;have hl4:=S4 _ _ hl3;refine⟨l,p,vs',[],λ_=>true,rfl,rfl,SqL.of hl4,SqL.of q4,(λj x y _ h=>by simp at h),⟨_,rfl,?_⟩⟩;refine ce (λhne=>?_) (λ_=>⟨⟨_,_,_,_,os,as,rfl,(S3.trans S4) _ _ ho,(S3.trans S4) _ _ hl,by omega,W⟩,SS4⟩)
  have vne:0<vs'.length:=by
   cases vs' with
   | nil=>simp at hne
   | cons b r=>simp
  have lo2:=dok.lo;have hd4:=SS4 _ _ hd;lk;refine i_rI (by rw[Qb];omega) ?_;obtain⟨dv,dv0,dv1,edv⟩:=gG dok (spot+(0+(i:Int)));refine aO (SqL.of (SS4 _ _ hd)) edv ?_;lk;refine i_rI (by show (0:Int)<(vs'.length:Int);omega) ?_;have m0:0<=dv % (vs'.length:Int):=Q8 _ (by omega);have m1:dv % (vs'.length:Int)<vs'.length:=QX _ (by omega);obtain⟨jj,ejj⟩:∃jj:Nat,dv % (vs'.length:Int)=(jj:Int):=⟨(dv % (vs'.length:Int)).toNat,by omega⟩;rw[ejj]at m0 m1 ⊢;obtain⟨sv,hsv⟩:∃sv,vs'[jj]?=some sv:=⟨vs'[jj]'(by omega),Qd _⟩;obtain⟨pp,hpp,b,eb,hb⟩:=b_ pr jj sv hsv;subst eb;refine aO (SqL.of hl4) (a_ hsv) ?_;have hmem:(pp.1,pp.2)∈bf ins gs x:=QP hpp;refine⟨b,_,rfl,SqT.of (S4 _ _ hb),rfl,?_⟩;refine⟨_,_,rfl,aB ⟨_,_,rfl,aB ⟨rfl,?_⟩⟩⟩;have ho4:=(S3.trans S4) _ _ ho;have hla4:=(S3.trans S4) _ _ hl;lk;refine dY ho4 (by rw[Qb];omega) ?_;have hla5:upd H4 oa (.lst (os.map V.str++[.str pp.1])) la=some (.lst (as.map V.str)):=by rw[am nol.symm];exact hla4
  have ho5:upd H4 oa (.lst (os.map V.str++[.str pp.1])) oa=some (.lst (os.map V.str++[.str pp.1])):=af;have SS5:=aW (D:=oa) (o:=.lst (os.map V.str++[.str pp.1])) SS4 hoa;generalize upd H4 oa (.lst (os.map V.str++[.str pp.1]))=H5 at *;lk;refine dY hla5 (by rw[Qb];omega) ?_;refine⟨⟨_,_,_,_,os++[pp.1],as++[pp.2],rfl,by rw[am nol,ho5];simp,by rw[af];simp,by simp;omega,?_⟩,aW SS5 laH⟩;refine⟨by simp[len],by rw[xj (by omega)];exact W.hd,λu hu=>?_,λq u n y h1 h2 h3=>?_⟩
  ·rcases QR.mp hu with h|h
   ·exact W.st u h
   rw[Q2]at h;rw[h];exact nM stx hmem
  by_cases hq:q<os.length
  ·rw[xj (by omega)]at h1 h2 h3;exact W.step q u n y h1 h2 h3
  have:q=os.length:=by
   have:=(Qf.mp h2).1;simp at this;omega
  subst this;rw[xj (by omega),hx]at h1;rw[Q4 (by omega)]at h2;rw[Q4 (by omega)]at h3;simp at h2;have e3:os.length+1-as.length=0:=by omega
  rw[e3]at h3;simp at h3;cases h1;rw[<-h2,<-h3];exact hmem
 obtain⟨⟨x7,x8,x9,x10,os,as,rfl,ho,hl,lo,W⟩,SS⟩:=pv;lk;refine⟨by simp[sizeLine],λt ht=>?_⟩;ctx_has H' t H3 S3 q3 ak ht;exact k t oa la os as H3 (SS.trans S3) q3 (S3 _ _ ho) (S3 _ _ hl) (by omega) W
end
theorem Run.app {w:Str} (h:Run ins gs x os y) (g:Run ins gs y ps w):Run ins gs x (os++ps) w:=by
 induction h with
 | nil=>exact g
 | cons a b _ ih=>exact .cons a b (ih g)
theorem Run.rep (h:Run ins gs x os x):∀n,Run ins gs x (List.replicate n os).flatten x
 | 0=>.nil
 | n+1=>by rw[QS,Q0];exact h.app (Run.rep h n)
theorem cut_mid {b:Nat} (ha:a<=b) (hb:b<=xs.length):cP xs (some (a:Int)) (some (b:Int))=(xs.drop a).take (b-a):=by
 unfold cP;rw[HT.cX,HT.cX,Nat.min_eq_left hb,Nat.min_eq_left (QQ ha hb)]
theorem comp_rangeF {D:Addr} {σ0:St} {g:TG} {te:TE} {tt:L2.TT} {QD:Hp->Prop} {lo:Int} {n:Nat} (Pv:Nat->Hp->List V->Prop) (h0:Pv 0 (upd H1 D (.lst [])) []) (hD:∀i H ys,Pv i H ys->H D=some (.lst ys))
  (hs:∀i H ys,i<n->Pv i H ys->g (.int (lo+i)) σ0 H λσ2 H2=>wk σ0 σ2/\tt σ2 H2 λb H3=>if b=true then te σ2 H3 (bN Pv n D i ys) else ∃m',m'<n-i/\(m'=n-(i+1)/\i+1<=n/\Pv (i+1) H3 ys)) (hd:∀H ys,Pv n H ys->QD H) :
  ∃W:Nat->Nat->Hp->List V->Prop,(∃m,W 0 m (upd H1 D (.lst [])) [])/\∀i m H ys,W i m H ys->H D=some (.lst ys)/\(((Itr lo n).stop i H/\QD H)\/((Itr lo n).go i H/\∀x H',(Itr lo n).yld i H x H'->g x σ0 H' λσ2 H2=>wk σ0 σ2/\tt σ2 H2 λb H3 =>
   if b=true then te σ2 H3 λv H4=>H4 D=some (.lst ys)/\ys.length<sizeLine/\∃m',m'<m/\W (i+1) m' (upd H4 D (.lst (ys++[v]))) (ys++[v]) else ∃m',m'<m/\W (i+1) m' H3 ys)):=by
 refine⟨λi m H ys=>m=n-i/\i<=n/\Pv i H ys,⟨n,by simp,QZ _,h0⟩,?_⟩;rintro i m H ys ⟨rfl,hi,p⟩;refine⟨hD i H ys p,?_⟩;by_cases hlt:i<n
 ·refine .inr ⟨hlt,λx H' y=>?_⟩;obtain⟨e,y⟩:=y;subst e y;exact hs i _ ys hlt p
 have e:i=n:=by omega
 subst e;exact .inl ⟨Qh _,hd H ys p⟩
section
end
theorem hW {K:PySem.W.Frag} {t:Value} (h:TyOf K H v t) (S:aj H H'):TyOf K H' v t:=by
 cases h with
 | non=>exact .non
 | bl x=>exact .bl x
 | int i=>exact .int i
 | str x=>exact .str x
 | flt x=>exact .flt x
 | lst e=>exact .lst (S _ _ e)
 | frz e=>exact .frz (S _ _ e)
 | tup e=>exact .tup (S _ _ e)
 | dK e=>exact .dK (S _ _ e)
 | dT e=>exact .dT (S _ _ e)
 | ins e cl ha hn htk hm=>exact .ins (S _ _ e) cl ha hn htk hm
def iD (K:PySem.W.Frag) (H:Hp) (v:V):Prop:=∃t,TyOf K H v t/\PySem.W.kitOne K t (.type "str")=some false
theorem iD.same {K:PySem.W.Frag} (h:iD K H v) (S:aj H H'):iD K H' v:=let ⟨t,a,b⟩:=h;⟨t,hW a S,b⟩
def dI (K:PySem.W.Frag) (H:Hp) (n:Nat) (v:V):Prop:=iD K H v\/∃z:Str,v=.str z/\z.length<=1000/\(z.length≠n\/∃j,j<z.length/\z.cps.getD j 0≠48/\z.cps.getD j 0≠49)
theorem dI.same {K:PySem.W.Frag} (h:dI K H n v) (S:aj H H'):dI K H' n v:=h.imp (·.same S) id
def nO (K:PySem.W.Frag):Sp:=λvs H Q _=>∃(v:V) (m:Nat),vs=[v,.int (m:Int)]/\m<=11/\dI K H m v/\∀H',aj H H'->Q (.bl false) H'
def inT (z:Str) (j:Nat):Bool:=PyProof.Rows.KTD.inKeys (⟨#[z.cps.getD j 0]⟩:Str) [(("0" : Str),PyProof.Rows.KTD.Dat.flat (PyData.str "1")),("1", .flat (.str "0"))]
theorem sU (h0:z.cps.getD j 0≠48) (h1:z.cps.getD j 0≠49):inT z j=false:=by
 unfold inT;generalize z.cps.getD j 0=c at *
 have n0:¬(⟨#[c]⟩:Str)=("0" : Str):=λq=>h0 (by
  have e:(⟨#[c]⟩:Str)=⟨#[48]⟩:=q.trans (by decide +kernel);injection e with e;have:=congrArg (λa=>a.getD 0 0) e
  simpa using this)
 have n1:¬(⟨#[c]⟩:Str)=("1" : Str):=λq=>h1 (by
  have e:(⟨#[c]⟩:Str)=⟨#[49]⟩:=q.trans (by decide +kernel);injection e with e;have:=congrArg (λa=>a.getD 0 0) e
  simpa using this)
 unfold PyProof.Rows.KTD.inKeys
 first
 | (rw[QB n0];unfold PyProof.Rows.KTD.inKeys;rw[QB n1];rfl)
 | (simp only[PyProof.Rows.KTD.inKeys,xf n0,xf n1];rfl)
 | (simp[PyProof.Rows.KTD.inKeys,n0,n1];done)
section
variable {fd:FuncData} {f C0 NE:Addr}
theorem pW (Fu:Fun K "is_row" "is_row" (top 10) f fd) (T:Txt K mg TT):FnOk P w K mg base CX0 1 f fd ["thing", "many"] (nO K):=by
 have S:=h_;refine Fu.ok S (by room) (λcdv A outer s H vs Q E hr h=>?_);obtain⟨v,m,rfl,hm,bad,k⟩:=h
 refine⟨_,(ay (ps_if (PW.pt (ia (d8 (cy (au bS (by rfl) T.n_isinstance Qq (aa (pv 0) (aa (c6 (v:=.ty "str") (by rfl) T.n_str PyProof.Rows.boot_str rfl) ad))))) (fi (aC dm (au cr (by rfl) T.n_len Qo (aa (pv 0) ad)) (pv 1) (aI _))))) (aG (aF cG)) pss_nil)
  (aG (aF (au (j2 rfl) (by rfl) T.n_all PyProof.Rows.boot_all (aa (gb "sign" [] (oh (pv 0)) (λ_ _ _ _=>(cF (ie T.tab) (pv 0) (cq (v:=.ref TT) (by rfl) T.tURNED rfl) rfl))) ad))))),?_⟩
 x_go;lk;rcases bad with⟨t,ty,kt⟩|⟨z,rfl,zl,hb⟩
 ·refine⟨_,_,_,_,rfl,ty,kt,?_⟩;refine⟨_,rfl,cc ?_⟩;lk;exact k H (aj.refl _)
 refine⟨_,_,_,_,rfl,TyOf.str z,cV "str", ?_⟩;refine⟨_,rfl,iteF ?_⟩;have big:1000<sizeLine:=by decide
 lk;refine⟨_,rfl,(by omega),?_⟩;lk;refine ce (λh=>?_) (λh=>?_)
 ·lk;exact k H (aj.refl _)
 have hz:z.length=m:=by
  by_cases e:z.length=m
  ·exact e
  exfalso;have ne:¬(V.int ((z.length:Nat):Int))=V.int (m:Int):=λq=>by injection q with q;omega
  simp[ne]at h
 obtain⟨j,hj,h0,h1⟩:=hb.resolve_left λn=>n hz;lk;refine i_comp ?_;lk;intro D hD;refine j0 (λn H' ys=>aj H H'/\H' D=some (.lst ys)/\ys=((List.range n).map (inT z)).map V.bl) ⟨ah hD,af,rfl⟩ (λn H' ys p=>p.2.1) (λn H' ys hn p=>?_) (λH' ys p=>?_)
 ·obtain⟨Sm,hd,rfl⟩:=p;refine aB ⟨trivial,i_yes (cc ?_)⟩;refine i_op (aE rfl (i_c ⟨_,rfl,rfl,?_⟩));refine bN.mk hd hn (by rw[Qb,Qb,List.length_range];have:z.cps.size=z.length:=rfl;omega) ⟨aW Sm hD,af,?_⟩;rw[List.range_succ,QJ,QJ];rfl
 obtain⟨Sm,hd,rfl⟩:=p;refine aZ ⟨_,_,rfl,SqL.of hd,?_⟩
 have e:((List.range z.cps.size).map (inT z)).all id=false:=by
  rw[List.all_eq_false];exact⟨inT z j,QL.mpr ⟨j,List.mem_range.mpr hj,rfl⟩,by rw[sU h0 h1];simp⟩
 rw[e];exact k H' Sm
def iK (K:PySem.W.Frag):Sp:=λvs H Q _=>∃a li lg ins gvs gs v,vs=[.ref a,v]/\NAt H a li lg ins gvs gs/\NetOk ins gs/\dI K H (ai ins gs).length v/\∀H',aj H H'->Q (.bl false) H'
theorem oC (Fu:Fun K "is_standing" "is_standing" (top 13) f fd) (T:Txt K mg TT) (f_is_row:Fn P w K mg base "is_row" ["thing", "many"] 1 (nO K)):FnOk P w K mg base CX0 2 f fd ["net", "thing"] (iK K):=by
 have S:=dA;refine Fu.ok S (by room) (λcdv A outer s H vs Q E hr h=>?_);obtain⟨a,li,lg,ins,gvs,gs,v,rfl,NA,ok,st,k⟩:=h;obtain⟨ha,hi,hg,gts⟩:=id NA;refine⟨_,(aG (aF (aN f_is_row hr (aa (pv 1) (aa (ag aD (au aA (by rfl) T.n_len Qo (aa (al aR (pv 0) ac) ad)) (au aA (by rfl) T.n_len Qo (aa (al aR (pv 0) ac) ad))) ad))))),?_⟩;x_go
 have hz:(ai ins gs).length=ins.length+gs.length:=by
  unfold ai;rw[Qi,Qb]
 have lg:=aV NA.gates;have i4:=ok.i4;have g7:=ok.g7;lk;refine⟨v,(ai ins gs).length,?_,by omega,st,λH' Sm=>k H' Sm⟩;rw[Qb,lg,hz];rfl
def jB (K:PySem.W.Frag) (C:Addr):Sp:=λvs H Q E=>∃a li lg ins gvs gs v,vs=[.ref a,v]/\NAt H a li lg ins gvs gs/\NetOk ins gs/\dI K H (ai ins gs).length v/\∀H' e,cf C H H' e->E (.ref C) (some e) H'
theorem mL (Fu:Fun K "check_standing" "check_standing" (top 14) f fd) (T:Txt K mg TT) (N0:ExcB K mg "NoStanding" C0 NE) (f_is_standing:Fn P w K mg base "is_standing" ["net", "thing"] 2 (iK K)):FnOk P w K mg base (CX1 P w) 3 f fd ["net", "thing"] (jB K C0):=by
 have S:=cE;obtain⟨oc,od,kV,doc,pm,an,cdv,ct,osl,rfl,lk,hcd⟩:=Fu.ex;refine eU lk hcd S (λvs H Q E h=>?_) (λA outer s H vs Q E hr h=>?_)
 ·obtain⟨a,li,lg,ins,gvs,gs,z,rfl,_⟩:=h;rfl
 obtain⟨a,li,lg,ins,gvs,gs,v,rfl,NA,ok,st,k⟩:=h;refine⟨_,(aG (ps_if (d8 (cy (aN f_is_standing hr (aa (pv 0) (aa (pv 1) ad))))) (aG (f7 (R:=λe d H1=>E (.ref C0) (some e) (upd H1 e (XO e C0 d false))) N0.xm rfl (mz N0.xm N0.init (by rfl) N0.m (aa az ad)) (λ_ _ _ _ _ _ I eo r=>eZ I eo r))) pss_nil)),?_⟩;x_go;lk;refine⟨a,li,lg,ins,gvs,gs,v,rfl,NA,ok,st,λH' Sm=>⟨_,rfl,cc ?_⟩⟩;refine oS (aJ (i_c (aZ ⟨by simp[sizeLine],λx hx=>⟨x,none,rfl,af,k _ x ⟨λb o e=>?_,af⟩⟩⟩)));have nbx:b≠x:=λz=>by rw[z]at e;rw[Sm _ _ e]at hx;cases hx
 rw[am nbx,am nbx];exact Sm _ _ e
end
def gZ (K:PySem.W.Frag) (H:Hp) (ns:List Str) (v:V):Prop:=iD K H v\/∃s:Str,v=.str s/\s∉ns
theorem gZ.same {K:PySem.W.Frag} (h:gZ K H ns v) (S:aj H H'):gZ K H' ns v:=h.imp (·.same S) id
def pC (K:PySem.W.Frag) (H:Hp) (v:V):Prop:=∃t,TyOf K H v t/\PySem.W.kitOne K t (.type "list")=some false
def kj (K:PySem.W.Frag) (CS:Addr):Sp:=λvs H Q E=>∃a li lg ins gvs gs z,(∃oa os tl y,vs=[.ref a,.str z,.ref oa]/\NAt H a li lg ins gvs gs/\NetOk ins gs/\StOk (ai ins gs).length z/\H oa=some (.lst (os.map V.str++tl))/\(os.map V.str++tl).length<=5000/\Run ins gs z os y/\(tl=[]->∀H',aj H H'->Q (.str y) H') /\
 ∀v r,tl=v::r->gZ K H ((bf ins gs y).map (·.1)) v/\∀H' e,dS CS (.int (os.length:Int)) H H' e->E (.ref CS) (some e) H')\/∃o,vs=[.ref a,.str z,o]/\NAt H a li lg ins gvs gs/\NetOk ins gs/\StOk (ai ins gs).length z/\pC K H o/\∀H' e,dS CS (.int 0) H H' e->E (.ref CS) (some e) H'
theorem cQ {k:Key}:∀{qs kvs:List (Key × V)},k∉qs.map (·.1)->bE (bj kvs qs) k=bE kvs k
 | [],kvs,_=>rfl
 | q::qs,kvs,h=>by
  simp only[Qs,Q5,not_or]at h;show bE (bj (cS kvs q.1 q.2) qs) k=_;rw[cQ h.2,dw,QB h.1]
theorem sf {n:Str} (h:n∉(bf ins gs z).map (·.1)):bE (bj [] (cm (stV (bf ins gs z)))) (Sum.inr n:Key)=none:=by
 rw[cQ]
 ·rfl
 have:(cm (stV (bf ins gs z))).map (·.1)=((bf ins gs z).map (·.1)).map Sum.inr:=by unfold cm stV;simp
 rw[this];intro m;obtain⟨x,hx,e⟩:=QL.mp m;cases e;exact h hx
section
theorem qj {f:Addr} {fd:FuncData} (Fu:Fun K "order_end" "order_end" (top 21) f fd) (T:Txt K mg TT) {CS NE fI:Addr} {fdI:FuncData} (N:ExcS P w K mg base CS NE fI fdI) (f_check_standing:Fn P w K mg base "check_standing" ["net", "thing"] 3 (d6 .non)) (f_steps_from:Fn P w K mg base "steps_from" ["net", "standing"] 12 dJ):FnOk P w K mg base (CX1 P w) 13 f fd ["net", "standing", "order"] (kj K CS):=by
 have S:=eL;obtain⟨oc,od,kV,doc,pm,an,cdv,ct,osl,rfl,lk,hcd⟩:=Fu.ex;refine eU lk hcd S (λvs H Q E h=>?_) (λA outer s H vs Q E hr h=>?_)
 ·obtain⟨a,li,lg,ins,gvs,gs,z,⟨oa,os,tl,y,rfl,_⟩|⟨o,rfl,_⟩⟩:=h <;> rfl
 obtain⟨a,li,lg,ins,gvs,gs,z,h⟩:=h
 obtain⟨o,NA,ok,st,rfl⟩:∃o,NAt H a li lg ins gvs gs/\NetOk ins gs/\StOk (ai ins gs).length z/\vs=[.ref a,.str z,o]:=by
  rcases h with⟨oa,os,tl,y,e,NA,ok,st,_⟩|⟨o,e,NA,ok,st,_⟩
  ·exact⟨_,NA,ok,st,e⟩
  exact⟨_,NA,ok,st,e⟩
 have hu:=lX hr
 refine⟨_,(ay (bi (aN f_check_standing hr (aa (pv 0) (aa (pv 1) ad ae) ae)))
  (ay (ps_if (d8 (cy (au bS (by rfl) T.n_isinstance Qq (aa (pv 2) (aa (c6 (v:=.ty "list") (by rfl) T.n_list xi rfl) ad ae) ae)))) (aG (f7 (R:=λe d H1=>E (.ref CS) (some e) (upd H1 e (XO e CS d false))) N.xm rfl (jO N.xm N.init N.fn N.ok (hr.mono (by first|decide|omega)) (by rfl) N.mS N.bd (dvs:=[]) .nil (aa az (aa ac ad))) (λ_ _ _ _ _ _ I eo r=>eZ I eo r))) pss_nil)
  (ay (i6 (i:=3) S.nd rfl (by z_go) eM)
  (ay (ar 4 S.nd (pv 1))
  (ay (pT (E:=E) rfl rfl tD rfl (i7 (by rfl) T.n_enumerate (aa (pv 2) ad ae)) (cZ rfl (aP (bC 5 S.nd) (aP (bC 6 S.nd) bV)))
  (ay (ps_if (nY (ib hu (pv 4) (pv 3))) (aG (pU hu (pv 3) (pv 4) (mB rfl (by rfl) T.n_dict (aa (aN f_steps_from hr (aa (pv 0) (aa (pv 4) ad ae) ae)) ad se_call)) rfl)) pss_nil)
  (ay (ps_if (PW.pt (ia (d8 (cy (au bS (by rfl) T.n_isinstance Qq (aa (pv 6) (aa (c6 (v:=.ty "str") (by rfl) T.n_str PyProof.Rows.boot_str rfl) ad ae) ae)))) (fi (nY (ib hu (pv 6) (dN hu (pv 3) (pv 4))))))) (aG (f7 (R:=λe d H1=>E (.ref CS) (some e) (upd H1 e (XO e CS d false))) N.xm rfl (jO N.xm N.init N.fn N.ok (hr.mono (by first|decide|omega)) (by rfl) N.mS N.bd (dvs:=[]) .nil (aa az (aa (pv 5) ad))) (λ_ _ _ _ _ _ I eo r=>.inl ⟨_,_,_,_,_,_,rfl,I.unwish,eo,r⟩))) pss_nil)
  (aG (ar 4 S.nd (dN hu (dN hu (pv 3) (pv 4)) (pv 6)))))))
  (aG (aF (pv 4)))))))),?_⟩
 x_go;have g7:=ok.g7;lk;refine⟨a,li,lg,ins,gvs,gs,z,rfl,NA,ok,st,λH1 S1=>?_⟩;rcases h with⟨oa,os,tl,y,e,NA,ok,st,ho,lo,run,k,kx⟩|⟨o',e,NA,ok,st,⟨t,ty,kt⟩,kx⟩
 ·cases e;have ho1:=S1 _ _ ho;lk;refine⟨_,_,_,_,rfl,TyOf.lst ho1,cV "list", ?_⟩;refine⟨_,rfl,iteF ?_⟩;lk;intro kd hkd;ctx_has H1 kd H2 S2 q2 ak hkd;have kdH:H kd=none:=aj.free S1 hkd;have nko:oa≠kd:=ax ho1 hkd;lk;show be _ _ _ _ _;lk;refine⟨oa,rfl,⟨_,SqL.of (S2 _ _ ho1)⟩,?_⟩;let KD:=λ(H':Hp) (kvs:List (Key × V))=>∀x v,bE kvs (Sum.inr x:Key)=some v->∃b,v=.ref b/\b≠kd/\H' b=some (.dK (bj [] (cm (stV (bf ins gs x)))));let I22:IvF:=λi σ H'=>(∃x5 x6 hr kvs,i<=os.length/\σ=[some (.ref a),some (.str z),some (.ref oa),some (.ref kd),some (.str hr),x5,x6]/\StOk (ai ins gs).length hr/\Run ins gs hr (os.drop i) y/\H' kd=some (.dK kvs)/\kvs.length<=i/\KD H' kvs)/\aj H H'
  refine gu (xs:=os.map V.str++tl) I22
   ⟨⟨_,_,z,[],QZ _,rfl,st,run,q2,Qh _,λx v e=>by cases e⟩,S1.trans S2⟩ (λi σ H' _ pv=>SqL.of (pv.2 _ _ ho)) (λi x σ H' t hx pv ht=>?_) (λσ H' pv=>?_)
  ·obtain⟨⟨x5,x6,here,kvs,iol,rfl,sth,rn,hk,hkl,kd1⟩,SS⟩:=pv;have S3:=ah (o:=.tup [.int (i:Nat),x]) ht;refine⟨t,_,rfl,SqT.of af,rfl,?_⟩;refine⟨_,_,rfl,aB ⟨_,_,rfl,aB ⟨rfl,?_⟩⟩⟩;have hk3:=S3 _ _ hk;have SS3:=SS.trans S3;have kd3:KD (upd H' t (.tup [.int (i:Nat),x])) kvs:=λx v e=>let ⟨b,e1,e2,e3⟩:=kd1 x v e;⟨b,e1,e2,S3 _ _ e3⟩;generalize upd H' t (.tup [.int (i:Nat),x])=H3 at *;have lo2:os.length<=5000:=by rw[Qi,Qb]at lo;omega
   let I23:IvJ:=λσ G=>∃kvs b,σ=[some (.ref a),some (.str z),some (.ref oa),some (.ref kd),some (.str here),some (.int (i:Nat)),some x]/\G kd=some (.dK kvs)/\kvs.length<=i+1/\KD G kvs/\bE kvs (Sum.inr here:Key)=some (.ref b)/\G b=some (.dK (bj [] (cm (stV (bf ins gs here)))))/\aj H G;with_reducible refine bU I23 (λR hR=>?_) (λσ6 H6 j6=>?_)
   ·lk;show bA 4 _ _ _;refine aE rfl (aE rfl ⟨kd,_,rfl,du.k (k:=Sum.inr here) hk3,_,rfl,?_⟩)
    cases e:bE kvs (Sum.inr here:Key) with
    | some v =>
     obtain⟨b,e1,e2,e3⟩:=kd3 here v e;subst e1;refine ifF rfl ?_;exact hR _ _ ⟨kvs,b,rfl,hk3,by omega,kd3,e,e3,SS3⟩
    | none =>
    refine ifT rfl ?_;show iJ _ _ _ _ _;unfold iJ;lk;refine⟨a,li,lg,ins,gvs,gs,here,rfl,NA.same SS3,ok,sth,λl vs' H4 S4 nl hl pr=>?_⟩;have lv:=aV pr
    have ls:(bf ins gs here).length<=gs.length:=by
     have:=List.length_filterMap_le (bq (sgn (ai ins gs) here) here) (gs.zipIdx ins.length);rw[List.length_zipIdx]at this;exact this
    refine aZ ⟨l,vs',stV (bf ins gs here),rfl,SqL.of hl,by omega,lK pr,λd hd=>?_⟩;ctx_has H4 d H5 S5 q5 ak hd;have S35:=S4.trans S5;have hk5:=S35 _ _ hk3;have ndk:d≠kd:=λx=>by rw[x,S4 _ _ hk3]at hd;cases hd
    refine aE rfl (aE rfl ⟨kd,_,rfl,pE.k (k:=Sum.inr here) hk5 (by omega),?_⟩);refine hR _ _ ⟨_,d,rfl,af,QQ (cH _ _ _) (by omega),λx v ex=>?_,by rw[dw,QH rfl],by rw[am ndk];exact q5,aW (SS3.trans S35) kdH⟩;rw[dw]at ex;by_cases hx:(Sum.inr x:Key)=Sum.inr here
    ·rw[QH hx]at ex;cases ex;cases hx;exact⟨d,rfl,ndk,by rw[am ndk];exact q5⟩
    rw[QB hx]at ex;obtain⟨b,e1,e2,e3⟩:=kd3 x v ex;exact⟨b,e1,e2,by rw[am e2];exact S35 _ _ e3⟩
   obtain⟨kvs,b,rfl,hk6,hkl6,kd6,hb6,hbd6,SS6⟩:=j6;by_cases hi:i<os.length
   ·rw[xj (by rw[Qb];exact hi),Ql]at hx;obtain⟨n,hn,rfl⟩:=Option.map_eq_some_iff.mp hx
    have dn:os.drop i=n::os.drop (i+1):=by
     have:=List.drop_eq_getElem_cons hi;rw[this];congr 1;exact(Qf.mp hn).2
    rw[dn]at rn
    cases rn with
    | @cons _ y1 _ _ _ hmem sty rn1 =>
    have vn:=pM ok hmem;lk;refine⟨_,_,_,_,rfl,TyOf.str n,cV "str", ?_⟩;refine⟨_,rfl,iteF ?_⟩;lk;show bA 6 _ _ _;refine aE rfl ?_;show bA 3 _ _ _;refine aE rfl (aE rfl ⟨kd,_,rfl,by rw[<-hb6];exact du.k (k:=Sum.inr here) hk6,?_⟩);refine⟨b,some (.str y1),rfl,by rw[<-vn];exact du.k (k:=Sum.inr n) hbd6,_,rfl,ifF rfl ?_⟩;lk;refine⟨kd,_,rfl,by rw[<-hb6];exact du.k (k:=Sum.inr here) hk6,?_⟩;lk;refine⟨b,_,rfl,by rw[<-vn];exact du.k (k:=Sum.inr n) hbd6,?_⟩;exact aB ⟨⟨_,_,y1,kvs,hi,rfl,sty,rn1,hk6,hkl6,kd6⟩,SS6⟩
   have ei:i=os.length:=by omega
   subst ei;rw[List.drop_length]at rn;cases rn;rw[Q4 (by rw[Qb];omega),Qb,Nat.sub_self]at hx
   cases htl:tl with
   | nil=>rw[htl]at hx;cases hx
   | cons v r =>
   rw[htl]at hx;cases hx;obtain⟨odd,kr⟩:=kx _ r htl;lk;have odd:=odd.same SS6;rcases odd with⟨ty,t1,t2⟩|⟨sx,rfl,ns⟩
   ·refine⟨_,_,_,_,rfl,t1,t2,?_⟩;refine⟨_,rfl,cc ?_⟩;refine cc ?_;refine jf (aJ (i_c (aJ (aE rfl (aZ ⟨by simp[sizeLine],λx hx=>?_⟩)))));exact fg N.xm N.at_ SS6 kr x hx
   refine⟨_,_,_,_,rfl,TyOf.str sx,cV "str", ?_⟩;refine⟨_,rfl,iteF ?_⟩;lk;show bA 6 _ _ _;refine aE rfl ?_;show bA 3 _ _ _;refine aE rfl (aE rfl ⟨kd,_,rfl,by rw[<-hb6];exact du.k (k:=Sum.inr y) hk6,?_⟩);refine⟨b,none,rfl,by rw[<-sf ns];exact du.k (k:=Sum.inr sx) hbd6,_,rfl,ifT rfl ?_⟩;refine jf (aJ (i_c (aJ (aE rfl (aZ ⟨by simp[sizeLine],λx hx=>?_⟩)))));exact fg N.xm N.at_ SS6 kr x hx
  obtain⟨⟨x5,x6,here,kvs,iol,rfl,sth,rn,hk,hkl,kd1⟩,SS⟩:=pv
  have tl0:tl=[]:=by
   rw[Qi,Qb]at iol;exact List.eq_nil_of_length_eq_zero (by omega)
  subst tl0;rw[List.append_nil,Qb,List.drop_length]at rn;cases rn;refine s_ret (te:=bA 4) (D:={ nx:=λx H'=>Q V.non H',rt:=Q }) (aE rfl ?_);exact k rfl H' SS
 cases e;lk;refine⟨_,_,_,_,rfl,hW ty S1,kt,?_⟩;refine⟨_,rfl,cc ?_⟩;refine jf (aJ (i_c (aJ (i_c (aZ ⟨by simp[sizeLine],λx hx=>?_⟩)))));exact fg N.xm N.at_ S1 kx x hx
end
variable {fd fdI:FuncData}
theorem FnOk.either {P:Program} {w:World} {K:PySem.W.Frag} {mg:A2} {base:Heap} {CX:CXT} {k:Nat} {sp sp':Sp} (F:FnOk P w K mg base CX k f fd ps sp) (G:FnOk P w K mg base CX k f fd ps sp'):FnOk P w K mg base CX k f fd ps (λvs H Q E=>sp vs H Q E\/sp' vs H Q E) :=
 ⟨λvs H Q E q=>q.elim (F.len vs H Q E) (G.len vs H Q E),λA outer s H args us vs Q E hr e0 hb r q=>q.elim (F.run A outer s H args us vs Q E hr e0 hb r) (G.run A outer s H args us vs Q E hr e0 hb r)⟩
theorem FnOk.cx1 {P:Program} {w:World} {K:PySem.W.Frag} {mg:A2} {base:Heap} {k:Nat} {sp:Sp} (F:FnOk P w K mg base CX0 k f fd ps sp):FnOk P w K mg base (CX1 P w) k f fd ps (λvs H Q _=>sp vs H Q E0) :=
 ⟨fun vs H Q E q=>F.len vs H Q E0 q,fun A outer s H args us vs Q E hr e0 hb r q=>codeAny_mono (F.run A outer s H args us vs Q E0 hr e0 hb r q) fun rr s' z=>by
  cases rr with
  | ok fl=>cases fl <;> exact z
  | error e=>exact z.elim⟩
def h9 (K:PySem.W.Frag) (c0:Addr):Sp:=λvs H Q E=>d6 .non vs H Q E0\/jB K c0 vs H Q E
def iL (K:PySem.W.Frag) (C:Addr):Sp:=λvs H Q E=>∃a li lg ins gvs gs v,vs=[.ref a,v]/\NAt H a li lg ins gvs gs/\NetOk ins gs/\dI K H (ai ins gs).length v/\∀H' e,cf C H H' e->E (.ref C) (some e) H'
def km (K:PySem.W.Frag) (C:Addr):Sp:=λvs H Q E=>∃a li lg ins gvs gs v x,vs=[.ref a,v,x]/\NAt H a li lg ins gvs gs/\NetOk ins gs/\dI K H (ai ins gs).length v/\∀H' e,cf C H H' e->E (.ref C) (some e) H'
def lF (K:PySem.W.Frag) (C:Addr):Sp:=λvs H Q E=>∃a li lg ins gvs gs v x,vs=[.ref a,v,x]/\NAt H a li lg ins gvs gs/\NetOk ins gs/\(dI K H (ai ins gs).length v\/∃z,v=.str z/\StOk (ai ins gs).length z/\dI K H (ai ins gs).length x)/\∀H' e,cf C H H' e->E (.ref C) (some e) H'
section
variable {C0 f p q:Addr} {fd:FuncData}
theorem ql (Fu:Fun K "order_end" "order_end" (top 21) f fd) (T:Txt K mg TT) (fc:Fn1 P w K mg base "check_standing" ["net", "thing"] 3 (h9 K C0)):FnOk P w K mg base (CX1 P w) 13 f fd ["net", "standing", "order"] (km K C0):=by
 have S:=eL;obtain⟨oc,od,kV,doc,pm,an,cdv,ct,osl,rfl,lk,hcd⟩:=Fu.ex;refine eU lk hcd S (λvs H Q E h=>?_) (λA outer s H vs Q E hr h=>?_)
 ·obtain⟨a,li,lg,ins,gvs,gs,v,x,rfl,_⟩:=h;rfl
 obtain⟨a,li,lg,ins,gvs,gs,v,x,rfl,NA,ok,st,k⟩:=h;refine⟨_,(ay (bi (gc fc (hr.mono (by first|decide|omega)) (by rfl) dO (aa (pv 0) (aa (pv 1) ad)))) cT),?_⟩;walk_at "d";refine s_seq (i_call (aJ (aE rfl (aJ (aE rfl (aZ ?_))))));exact .inr ⟨a,li,lg,ins,gvs,gs,v,rfl,NA,ok,st,k⟩
theorem fe:FnScope ["net", "standing"] ["net", "standing"] (ap (top 25)):=by fin2
theorem mM (Fu:Fun K "all_standings" "all_standings" (top 25) f fd) (T:Txt K mg TT) (fc:Fn1 P w K mg base "check_standing" ["net", "thing"] 3 (h9 K C0)):FnOk P w K mg base (CX1 P w) 13 f fd ["net", "standing"] (iL K C0):=by
 have S:=fe;obtain⟨oc,od,kV,doc,pm,an,cdv,ct,osl,rfl,lk,hcd⟩:=Fu.ex;refine eU lk hcd S (λvs H Q E h=>?_) (λA outer s H vs Q E hr h=>?_)
 ·obtain⟨a,li,lg,ins,gvs,gs,v,rfl,_⟩:=h;rfl
 obtain⟨a,li,lg,ins,gvs,gs,v,rfl,NA,ok,st,k⟩:=h;refine⟨_,(ay (bi (gc fc (hr.mono (by first|decide|omega)) (by rfl) dO (aa (pv 0) (aa (pv 1) ad)))) cT),?_⟩;walk_at "d";refine s_seq (i_call (aJ (aE rfl (aJ (aE rfl (aZ ?_))))));exact .inr ⟨a,li,lg,ins,gvs,gs,v,rfl,NA,ok,st,k⟩
theorem iX:FnScope ["net", "standing"] ["net", "standing"] (ap (top 27)):=by fin2
theorem jS (Fu:Fun K "all_rests" "all_rests" (top 27) f fd) (T:Txt K mg TT) (fc:Fn1 P w K mg base "check_standing" ["net", "thing"] 3 (h9 K C0)):FnOk P w K mg base (CX1 P w) 13 f fd ["net", "standing"] (iL K C0):=by
 have S:=iX;obtain⟨oc,od,kV,doc,pm,an,cdv,ct,osl,rfl,lk,hcd⟩:=Fu.ex;refine eU lk hcd S (λvs H Q E h=>?_) (λA outer s H vs Q E hr h=>?_)
 ·obtain⟨a,li,lg,ins,gvs,gs,v,rfl,_⟩:=h;rfl
 obtain⟨a,li,lg,ins,gvs,gs,v,rfl,NA,ok,st,k⟩:=h;refine⟨_,(ay (bi (gc fc (hr.mono (by first|decide|omega)) (by rfl) dO (aa (pv 0) (aa (pv 1) ad)))) cT),?_⟩;walk_at "d";refine s_seq (i_call (aJ (aE rfl (aJ (aE rfl (aZ ?_))))));exact .inr ⟨a,li,lg,ins,gvs,gs,v,rfl,NA,ok,st,k⟩
theorem eK:FnScope ["net", "standing", "other", "found"] ["net", "standing", "other"] (ap (top 28)):=by fin2
theorem oG (Fu:Fun K "shortest_order" "shortest_order" (top 28) f fd) (T:Txt K mg TT) (fc:Fn1 P w K mg base "check_standing" ["net", "thing"] 3 (h9 K C0)):FnOk P w K mg base (CX1 P w) 13 f fd ["net", "standing", "other"] (lF K C0):=by
 have S:=eK;obtain⟨oc,od,kV,doc,pm,an,cdv,ct,osl,rfl,lk,hcd⟩:=Fu.ex;refine eU lk hcd S (λvs H Q E h=>?_) (λA outer s H vs Q E hr h=>?_)
 ·obtain⟨a,li,lg,ins,gvs,gs,v,x,rfl,_⟩:=h;rfl
 obtain⟨a,li,lg,ins,gvs,gs,v,x,rfl,NA,ok,st,k⟩:=h;refine⟨_,(ay (bi (gc fc (hr.mono (by first|decide|omega)) (by rfl) dO (aa (pv 0) (aa (pv 1) ad)))) (ay (bi (gc fc (hr.mono (by first|decide|omega)) (by rfl) dO (aa (pv 0) (aa (pv 2) ad)))) cT)),?_⟩;walk_at "d";refine s_seq (i_call (aJ (aE rfl (aJ (aE rfl (aZ ?_))))));rcases st with st|⟨z,rfl,st,bd⟩
 ·exact .inr ⟨a,li,lg,ins,gvs,gs,v,rfl,NA,ok,st,k⟩
 refine .inl ⟨a,li,lg,ins,gvs,gs,z,rfl,NA,ok,st,λH1 S1=>?_⟩;refine s_seq (i_call (aJ (aE rfl (aJ (aE rfl (aZ ?_))))));exact .inr ⟨a,li,lg,ins,gvs,gs,x,rfl,NA.same S1,ok,bd.same S1,λH' e r=>k H' e (r.pre S1)⟩
def jA (c0 CS:Addr):Sp:=λvs H Q _=>∃(e C:Addr) (i due:Nat),vs=[.ref e,.int (due:Int)]/\Held6 C H e/\((C=c0/\i=0)\/(C=CS/\i=1))/\due<=1/\∀H',aj H H'->Q (.bl (decide (i=due))) H'
theorem mZ {K:PySem.W.Frag} {H:Hp} {as bs:List Bool} {Q:VK} {b:Bool} (h1:H p=some (.lst (as.map V.bl))) (h2:H q=some (.lst (bs.map V.bl))) (hl:as.length=bs.length) (hb:((List.range as.length).all λj=>as.getD j false==bs.getD j false)=b) (k:Q (.bl b) H):sq K false (.ref p) (.ref q) H Q:=by
 refine⟨p,q,_,_,λj=>as.getD j false==bs.getD j false,rfl,rfl,SqL.of h1,SqL.of h2,λj x y e1 e2=>?_,?_⟩
 ·rw[Ql]at e1 e2;obtain⟨u,hu,rfl⟩:=Option.map_eq_some_iff.mp e1;obtain⟨v,hv,rfl⟩:=Option.map_eq_some_iff.mp e2;have h:=EqD.flat (K:=K) (H:=H) (n:=8) (x:=.bl u) (y:=.bl v) rfl rfl;have e:eqV (.bl u) (.bl v)=(u==v):=by cases u <;> cases v <;> rfl
  rw[e]at h;show EqD K H 8 _ _ (as.getD j false==bs.getD j false);rw[QE,QE,hu,hv];exact h
 rw[QB (by decide),Qb,Qb,hl,beq_self_eq_true,Bool.true_and,<-hl,hb];exact k
theorem iT:FnScope ["caught", "due", "kinds"] ["caught", "due"] (ap (top 42)):=by fin2
theorem mJ (Fu:Fun K "_law_kinds" "_law_kinds" (top 42) f fd) (T:Txt K mg TT) {CS NE c0 c2 c3 c4 c5:Addr} (N:NmE mg CS NE) (KD:KindsM mg c0 c2 c3 c4 c5) (dst:c0≠CS/\c0≠c2/\c0≠c3/\c0≠c4/\c0≠c5/\CS≠c2/\CS≠c3/\CS≠c4/\CS≠c5) (Z:KinB K c0 NE c0 CS c2 c3 c4 c5) (W:KinB K CS NE c0 CS c2 c3 c4 c5):FnOk P w K mg base CX0 1 f fd ["caught", "due"] (jA c0 CS):=by
 have S:=iT;refine Fu.ok S (by room) (λcdv A outer s H vs Q E hr h=>?_);obtain⟨e,C,i,due,rfl,hd,hC,d1,k⟩:=h;obtain⟨n1,n2,n3,n4,n5,n6,n7,n8,n9⟩:=dst
 obtain⟨Y,hbs⟩:KinB K C NE c0 CS c2 c3 c4 c5/\[decide (C=c0),decide (C=CS),decide (C=c2),decide (C=c3),decide (C=c4),decide (C=c5)]=(List.range 6).map λj=>decide (j=i):=by
  rcases hC with⟨rfl,rfl⟩|⟨rfl,rfl⟩
  ·refine⟨Z,?_⟩;simp[n1,n2,n3,n4,n5,List.range_succ]
  refine⟨W,?_⟩;simp[n1.symm,n6,n7,n8,n9,List.range_succ]
 have i1:i<=1:=by rcases hC with⟨_,rfl⟩|⟨_,rfl⟩ <;> decide
 refine⟨_,(ay (ar 2 S.nd (aL (aa (au br (by rfl) T.n_isinstance Qq (aa (pv 0) (aa (cq (v:=.ref c0) (by rfl) KD.m0 rfl) ad))) (aa (au br (by rfl) T.n_isinstance Qq (aa (pv 0) (aa (cq (v:=.ref CS) (by rfl) N.mS rfl) ad))) (aa (au br (by rfl) T.n_isinstance Qq (aa (pv 0) (aa (cq (v:=.ref c2) (by rfl) KD.m2 rfl) ad))) ad)))))
  (ay (ar 2 S.nd (ag bF (pv 2) (aL (aa (au br (by rfl) T.n_isinstance Qq (aa (pv 0) (aa (cq (v:=.ref c3) (by rfl) KD.m3 rfl) ad))) (aa (au br (by rfl) T.n_isinstance Qq (aa (pv 0) (aa (cq (v:=.ref c4) (by rfl) KD.m4 rfl) ad))) (aa (au br (by rfl) T.n_isinstance Qq (aa (pv 0) (aa (cq (v:=.ref c5) (by rfl) KD.m5 rfl) ad))) ad))))))
  (aG (aF (ja (cF lN (pv 0) dC rfl) (ja (au br (by rfl) T.n_isinstance Qq (aa (pv 0) (aa (c6 (v:=.ty "ValueError") (by rfl) KD.mV PyProof.Rows.Boot.«ValueError» rfl) ad))) (f_ (cF (oq hr.units) (pv 2) (gb "k" [("due", 1)] (bn (by rfl) T.n_range (aa ac ad)) (λ_ _ _ _=>(cF bD (pv 0) (pv 1) (aI _)))) (aI _))))))))),?_⟩
 x_go;lk;refine eh hd Y.kl (.inl ⟨_,rfl⟩) Y.k0 ?_;lk;refine eh hd Y.kl (.inl ⟨_,rfl⟩) Y.k1 ?_;lk;refine eh hd Y.kl (.inl ⟨_,rfl⟩) Y.k2 ?_;lk;refine⟨by simp[sizeLine],λp hp=>?_⟩;ctx_has H p H1 S1 q1 ak hp;have hd1:=hd.same S1;lk;refine eh hd1 Y.kl (.inl ⟨_,rfl⟩) Y.k3 ?_;lk;refine eh hd1 Y.kl (.inl ⟨_,rfl⟩) Y.k4 ?_;lk;refine eh hd1 Y.kl (.inl ⟨_,rfl⟩) Y.k5 ?_;lk;refine⟨by simp[sizeLine],λp2 hp2=>?_⟩;ctx_has H1 p2 H2 S2 q2 ak hp2;refine bZ (S2 _ _ q1) q2 (by simp[sizeLine]) λp3 hp3=>?_;ctx_has H2 p3 H3 S3 q3 ak hp3;have q3:H3 p3=some (.lst (((List.range 6).map λj=>decide (j=i)).map V.bl)):=by rw[q3,<-hbs];rfl
 have hd3:=hd1.same (S2.trans S3);have S03:=S1.trans (S2.trans S3);lk;refine⟨rfl,_,rfl,ifT (by simp) ?_⟩;lk;refine eh hd3 Y.kl (.inr ⟨_,rfl⟩) Y.kV ?_;refine⟨_,rfl,cc ?_⟩;refine i_op (aE rfl (i_comp ?_));lk;refine⟨by decide,by decide,λD hD=>?_⟩;refine de (n:=6) (λn H' ys=>aj H3 H'/\H' D=some (.lst ys)/\ys=((List.range n).map λj=>decide (j=due)).map V.bl) ⟨ah hD,af,rfl⟩ (λi H' ys p=>p.2.1) (λi H' ys hi p=>?_) (λH' ys p=>?_)
 ·obtain⟨Sm,hl,rfl⟩:=p;refine aB ⟨⟨rfl,trivial⟩,i_yes (cc ?_)⟩;refine i_op (aE rfl (aE rfl (i_eq rfl ?_)));refine bN.mk hl hi (by simp;omega) ⟨aW Sm hD,af,?_⟩;rw[List.range_succ,QJ,QJ];congr 1
  have:decide (V.int (0+(i:Nat))=V.int (due:Int))=decide (i=due):=by
   rw[decide_eq_decide]
   constructor
   ·intro h;injection h with h;omega
   intro h;subst h;simp
  simp[this]
  try omega
 obtain⟨Sm,hl,rfl⟩:=p;refine mZ (b:=decide (i=due)) (Sm _ _ q3) hl (by simp) ?_ (k H' (S03.trans Sm));rcases hC with⟨_,rfl⟩|⟨_,rfl⟩
 ·rcases(by omega:due=0\/due=1) with rfl|rfl <;> rfl
 rcases(by omega:due=0\/due=1) with rfl|rfl <;> rfl
end
theorem sL {P:Program} {w:World} {K:PySem.W.Frag} {mg:A2} {base:Heap} {TT:Addr} (Fu:Fun K "check_standing" "check_standing" (top 14) f fd) (T:Txt K mg TT) (N0:ExcB K mg "NoStanding" C0 NE) (f_is_standing:Fn P w K mg base "is_standing" ["net", "thing"] 2 (d6 (.bl true))) (hi:Fn P w K mg base "is_standing" ["net", "thing"] 2 (iK K)):FnOk P w K mg base (CX1 P w) 3 f fd ["net", "thing"] (h9 K C0) :=
 FnOk.either (FnOk.cx1 (jR Fu T f_is_standing)) (mL Fu T N0 hi)
theorem pY {P:Program} {w:World} {K:PySem.W.Frag} {mg:A2} {base:Heap} {TT:Addr} (Fu:Fun K "order_end" "order_end" (top 21) f fd) (T:Txt K mg TT) (N:ExcS P w K mg base CS NE fI fdI) (f_check_standing:Fn P w K mg base "check_standing" ["net", "thing"] 3 (d6 .non)) (f_steps_from:Fn P w K mg base "steps_from" ["net", "standing"] 12 dJ) (fc:Fn1 P w K mg base "check_standing" ["net", "thing"] 3 (h9 K C0)):FnOk P w K mg base (CX1 P w) 13 f fd ["net", "standing", "order"] (λvs H Q E=>km K C0 vs H Q E\/kj K CS vs H Q E) :=
 FnOk.either (ql Fu T fc) (qj Fu T N f_check_standing f_steps_from)
def nQ (K:PySem.W.Frag) (c0 CS:Addr):Sp:=λvs H Q E=>km K c0 vs H Q E\/kj K CS vs H Q E
def uW (K:PySem.W.Frag) (H:Hp) (ins:List Str) (gs:List (Str × Rl)) (z:Str) (o:V) (n:Nat):Prop :=
 (∃oa os v r y,o=.ref oa/\H oa=some (.lst (os.map V.str++v::r))/\(os.map V.str++v::r).length<=5000/\Run ins gs z os y/\os.length=n/\gZ K H ((bf ins gs y).map (·.1)) v)\/(pC K H o/\n=0)
def nP (K:PySem.W.Frag):Sp:=λvs H Q _=>∃(way:Nat) (a li lg:Addr) (ins:List Str) (gvs:List V) (gs:List (Str × Rl)) (v o:V),vs=[.int (way:Int),.ref a,v,o]/\NAt H a li lg ins gvs gs/\NetOk ins gs/\way<=3 /\
 (((dI K H (ai ins gs).length v\/(way=3/\∃z,v=.str z/\StOk (ai ins gs).length z/\dI K H (ai ins gs).length o))/\∀H',aj H H'->Q (.str "standing") H') \/
  (way=0/\∃z n,v=.str z/\StOk (ai ins gs).length z/\uW K H ins gs z o n/\∀H',aj H H'->Q (.int (n:Int)) H'))
theorem sP {K:PySem.W.Frag}:PySem.W.kitOne K (.type "int") (.type "bool")=some false:=by with_unfolding_all rfl
theorem kZ {K:PySem.W.Frag} {ta:TE} {f:Str} {σ:St} {Q:VK} (q:ta σ H λx H1=>∃e C NE dx fr fs v,x=.ref e/\H1 e=some (XO e C (some dx) fr)/\H1 dx=some (.xd fs)/\XE.XKl K C NE/\PySem.W.findIn K (.ref C) f=some none/\fs.lookup f=some v/\Q v H1):qS K ta f σ H Q:=q
section
theorem fY:FnScope ["way", "net", "standing", "thing", "caught", "e"] ["way", "net", "standing", "thing"] (ap (top 46)):=by fin2
theorem pX {f:Addr} {fd:FuncData} (Fu:Fun K "_law_refused" "_law_refused" (top 46) f fd) (T:Txt K mg TT) {CS NE c0 c2 c3 c4 c5:Addr} (N:NmE mg CS NE) (na:PySem.W.findIn K (.ref CS) "at" = some none) (Z:KinB K c0 NE c0 CS c2 c3 c4 c5) (W:KinB K CS NE c0 CS c2 c3 c4 c5) (f_order_end:Fn1 P w K mg base "order_end" ["net", "standing", "order"] 13 (nQ K c0 CS)) (f_all_standings:Fn1 P w K mg base "all_standings" ["net", "standing"] 13 (iL K c0)) (f_all_rests:Fn1 P w K mg base "all_rests" ["net", "standing"] 13 (iL K c0)) (f_shortest_order:Fn1 P w K mg base "shortest_order" ["net", "standing", "other"] 13 (lF K c0)) (f_law_kinds:Fn P w K mg base "_law_kinds" ["caught", "due"] 1 (jA c0 CS)):FnOk P w K mg base CX0 14 f fd ["way", "net", "standing", "thing"] (nP K):=by
 have S:=fY;refine Fu.ok S (by room) (λcdv A outer s H vs Q E hr h=>?_);obtain⟨way,a,li,lg,ins,gvs,gs,v,o,rfl,NA,ok,w3,h⟩:=h
 refine⟨_,(ay (i6 (i:=4) S.nd rfl (by z_go) dC)
  (ay (pR (i:=5) (nX (aC bD (pv 0) ac (aI _)) (i5 f_order_end (hr.mono (by first|decide|omega)) (by rfl) (aa (pv 1) (aa (pv 2) (aa (pv 3) ad)))) (nX (aC bD (pv 0) ac (aI _)) (i5 f_all_standings (hr.mono (by first|decide|omega)) (by rfl) (aa (pv 1) (aa (pv 2) ad))) (nX (aC bD (pv 0) ac (aI _)) (i5 f_all_rests (hr.mono (by first|decide|omega)) (by rfl) (aa (pv 1) (aa (pv 2) ad))) (i5 f_shortest_order (hr.mono (by first|decide|omega)) (by rfl) (aa (pv 1) (aa (pv 2) (aa (pv 3) ad))))))) (by rfl) N.mE S.nd rfl (by rfl) (λ_=>(aG (ar 4 S.nd (pv 5)))) rfl)
  (ay (ps_if (cy (aN f_law_kinds hr (aa (pv 4) (aa ac ad)))) (aG (aF az)) pss_nil)
  (ay (ps_if (PW.pt (d7 (cy (aN f_law_kinds hr (aa (pv 4) (aa ac ad)))) (d7 (cy (au bS (by rfl) T.n_isinstance Qq (aa (i9 (pv 4)) (aa (c6 (v:=.ty "int") (by rfl) T.n_int PyProof.Rows.boot_int rfl) ad)))) (dM (d8 (cy (au bS (by rfl) T.n_isinstance Qq (aa (i9 (pv 4)) (aa (c6 (v:=.ty "bool") (by rfl) T.n_bool PyProof.Rows.boot_bool rfl) ad))))))))) (aG (aF (i9 (pv 4)))) pss_nil)
  (aG (aF az)))))),?_⟩
 x_go;kt_k;with_reducible refine s_asg ?_
 with_reducible refine i_c ?_
 kt_k;kt_k;with_reducible refine sV ?_
 generalize hTS:(λ(cls:Value) (ea:Option Addr) (H2:Hp)=>_)=EE;rcases h with⟨bad,k⟩|⟨rfl,z,n,rfl,st,odd,k⟩
 ·have after:∀H' e,cf c0 H H' e->EE (.ref c0) (some e) H':=λH' e r=>by
   subst hTS;have S1:=r.1;have hd:=r.held;refine⟨e,rfl,Z.ex,?_⟩;refine s_asg (aE rfl (aB ?_));dsimp only;lk;refine⟨e,c0,0,0,rfl,hd,.inl ⟨rfl,rfl⟩,by decide,λH2 S2=>?_⟩;refine⟨_,rfl,ifT (by decide) ?_⟩;lk;exact k H2 (S1.trans S2)
  clear hTS;refine lW ?_;lk
  have ne:∀{j:Nat},way≠j->decide (V.int (way:Int)=V.int (j:Int))=false:=λ{j} h=>by
   rw[decide_eq_false_iff_not];intro q;injection q with q;omega
  by_cases w0:way=0
  ·subst w0;refine ifT (by decide) (eS ?_);lk;exact .inl ⟨a,li,lg,ins,gvs,gs,v,o,rfl,NA,ok,bad.resolve_right λh=>absurd h.1 (by decide),after⟩
  refine ifF (ne w0) (lW ?_);lk;by_cases w1:way=1
  ·subst w1;refine ifT (by decide) (eS ?_);lk;exact⟨a,li,lg,ins,gvs,gs,v,rfl,NA,ok,bad.resolve_right λh=>absurd h.1 (by decide),after⟩
  refine ifF (ne w1) (lW ?_);lk;by_cases w2:way=2
  ·subst w2;refine ifT (by decide) (eS ?_);lk;exact⟨a,li,lg,ins,gvs,gs,v,rfl,NA,ok,bad.resolve_right λh=>absurd h.1 (by decide),after⟩
  refine ifF (ne w2) (eS ?_);lk;exact⟨a,li,lg,ins,gvs,gs,v,o,rfl,NA,ok,bad.imp id (·.2),after⟩
 have after:∀H' e,dS CS (.int (n:Int)) H H' e->EE (.ref CS) (some e) H':=λH' e r=>by
  subst hTS;have hd:=r.held;obtain⟨dx,S1,h1,h2⟩:=r;refine⟨e,rfl,W.ex,?_⟩;refine s_asg (aE rfl (aB ?_));dsimp only;lk;refine⟨e,CS,1,0,rfl,hd,.inr ⟨rfl,rfl⟩,by decide,λH2 S2=>?_⟩;refine⟨_,rfl,ifF (by decide) ?_⟩;lk;refine⟨e,CS,1,1,rfl,hd.same S2,.inr ⟨rfl,rfl⟩,by decide,λH3 S3=>?_⟩;refine⟨_,rfl,ifT (by decide) ?_⟩;have S23:=S2.trans S3;have q1:=S23 _ _ h1;have q2:=S23 _ _ h2;lk;refine kZ (aE rfl ⟨e,CS,NE,dx,false,_,.int (n:Int),rfl,q1,q2,W.kl,na,rfl,?_⟩);lk;refine⟨_,_,_,_,rfl,TyOf.int _,cV "int", ?_⟩;refine⟨_,rfl,cc ?_⟩;lk;refine kZ (aE rfl ⟨e,CS,NE,dx,false,_,.int (n:Int),rfl,q1,q2,W.kl,na,rfl,?_⟩);lk;refine⟨_,_,_,_,rfl,TyOf.int _,sP,?_⟩;refine⟨_,rfl,ifT rfl ?_⟩;lk;refine kZ (aE rfl ⟨e,CS,NE,dx,false,_,.int (n:Int),rfl,q1,q2,W.kl,na,rfl,?_⟩);exact k H3 (S1.trans S23)
 clear hTS;refine lW ?_;lk;refine ifT (by decide) (eS ?_);lk;rcases odd with⟨oa,os,x,r,y,rfl,ho,hl,run,en,ov⟩|⟨nl,rfl⟩
 ·refine .inr ⟨a,li,lg,ins,gvs,gs,z,.inl ⟨oa,os,x::r,y,rfl,NA,ok,st,ho,hl,run,(λe=>nomatch e),λv r' e=>?_⟩⟩;cases e;rw[en];exact⟨ov,after⟩
 exact .inr ⟨a,li,lg,ins,gvs,gs,z,.inr ⟨o,rfl,NA,ok,st,nl,after⟩⟩
end
theorem kT (a b:Str):(a++b).length=a.length+b.length:=by show (a.cps++b.cps).size=_;rw[Array.size_append];rfl
theorem sO {z:Str} {j:Nat} (h:j<=z.length):(Txt.slice z none (some (j:Int))).length=j:=by
 have e:=congrArg List.length (fU (z:=z) (j:=j) h);rw[Qz,Qu,Qz]at e;have h':z.length=z.cps.size:=rfl;show (Txt.slice z none (some (j:Int))).cps.size=j;omega
theorem jW {z:Str} {j:Nat} (h:j<=z.length):(Txt.slice z (some (j:Int)) none).length=z.length-j:=by
 have e:=congrArg List.length (fW (z:=z) (a:=j) h);rw[Qz,QU,Qz]at e;exact e
theorem oR (hx:x.length<=100) (hz:z=(x++c)++y) (hc:c.length=1):z.cps.getD x.length 0=c.cps.getD 0 0:=by
 subst hz;have e:((x++c)++y).cps=(x.cps++c.cps)++y.cps:=rfl;rw[e];have h1:x.length=x.cps.size:=rfl;have h2:c.length=c.cps.size:=rfl;unfold Array.getD;simp only[Array.size_append];rw[dif_pos (by omega),dif_pos (by omega)];rw[Array.getInternal_eq_getElem,Array.getInternal_eq_getElem,Array.getElem_append_left (by rw[Array.size_append];omega),Array.getElem_append_right (by omega)];congr 1;omega
theorem jh {K:PySem.W.Frag} (h:z.length<=1000) (ne:z.length≠n):dI K H n (.str z):=.inr ⟨z,rfl,h,.inl ne⟩
theorem qH {K:PySem.W.Frag} (hx:x.length<=100) (hy:y.length<=100) (hc:c.length=1) (h0:c.cps.getD 0 0≠48) (h1:c.cps.getD 0 0≠49):dI K H n (.str ((x++c)++y)):=by
 have e:=oR hx rfl hc (y:=y);refine .inr ⟨_,rfl,by rw[kT,kT];omega,.inr ⟨x.length,by rw[kT,kT];omega,?_,?_⟩⟩
 ·rw[e];exact h0
 rw[e];exact h1
theorem dH {K:PySem.W.Frag} {t:Value} (a:TyOf K H v t) (b:PySem.W.kitOne K t (.type "str")=some false):dI K H n v:=.inl ⟨t,a,b⟩
structure NoStr (K:PySem.W.Frag):Prop where
 non:PySem.W.kitOne K (.type "NoneType") (.type "str")=some false
 int:PySem.W.kitOne K (.type "int") (.type "str")=some false
 bl:PySem.W.kitOne K (.type "bool") (.type "str")=some false
 lst:PySem.W.kitOne K (.type "list") (.type "str")=some false
 tup:PySem.W.kitOne K (.type "tuple") (.type "str")=some false
 dct:PySem.W.kitOne K (.type "dict") (.type "str")=some false
theorem rD (K:PySem.W.Frag):NoStr K:=⟨rfl,rfl,rfl,rfl,rfl,rfl⟩
theorem s_ {i:Int} (h0:0<=i) (h1:i<9):∃c,atI ("2 ~ab\n+-_" : Str).cps.toList i=some c/\c≠48/\c≠49:=by
 have key:∀k:Fin 9,∃c,("2 ~ab\n+-_" : Str).cps.toList[k.1]?=some c/\c≠48/\c≠49:=λk=>by
  have h:((("2 ~ab\n+-_" : Str).cps.toList[k.1]?).any λc=>decide (c≠48/\c≠49))=true:=by revert k;decide +kernel
  cases e:("2 ~ab\n+-_" : Str).cps.toList[k.1]? with
  | none=>rw[e]at h;cases h
  | some c=>rw[e]at h;exact⟨c,rfl,of_decide_eq_true h⟩
 obtain⟨n,rfl⟩:=Int.eq_ofNat_of_zero_le h0;obtain⟨c,e,h⟩:=key ⟨n,by omega⟩;exact⟨c,a_ e,h⟩
def nV (K:PySem.W.Frag):Sp:=λvs H Q _=>∃(x:Int) (z:Str) (n:Nat),vs=[.int x,.str z]/\1<=n/\n<=11/\StOk n z/\∀v H',aj H H'->dI K H' n v->Q v H'
section
theorem kz:FnScope ["x", "standing", "sign", "at", "some"] ["x", "standing"] (ap (top 43)):=by fin2
theorem qm {f:Addr} {fd:FuncData} (Fu:Fun K "_law_bad" "_law_bad" (top 43) f fd) (T:Txt K mg TT):FnOk P w K mg base CX0 2 f fd ["x", "standing"] (nV K):=by
 have S:=kz;have nT:=T.n_tuple;have NS:=rD K;refine Fu.ok S (by room) (λcdv A outer s H vs Q E hr h=>?_);obtain⟨x,z,n,rfl,n1,n11,st,k⟩:=h;refine'⟨?_,?bb,?_⟩
 case bb =>
  walk_at "b";exact ar 2 S.nd (al cB az (ag aH (ag bo (pv 0) ac) ac));exact ar 3 S.nd (ag aH (ag bo (pv 0) ac) (au cr (by rfl) T.n_len Qo (aa (pv 1) ad ae)));refine' ar 4 S.nd ?e
  case e =>
   walk_at "q";exact dC;exact cG;exact(bK (gW rfl) (by rfl) T.n_list xi (aa (pv 1) ad ae));exact(pv 1);exact(ag aQ (pv 1) az);exact(aK cj (pv 1) (aS ac) aX);exact eM;exact(ag d_ az ac)
  exact ar 4 S.nd (ag bF (pv 4) (aL (aa (ag aQ (ag aQ (aK cj (pv 1) aX (aS (pv 3))) (pv 2)) (aK cj (pv 1) (aS (ag aD (pv 3) ac)) aX)) (aa (ag aQ (pv 1) (pv 2)) (aa (ag aQ (pv 2) (pv 1)) (aa (aL (aa (pv 1) ad ae)) (aa (fq dy ac) ad se_un) se_lst) se_bin) se_bin) se_bin)));exact ar 4 S.nd (ag bF (pv 4) (aL (aa (ag jb ac ac) (aa (bK (gE rfl) (by rfl) nT PyProof.Rows.boot_tuple (aa (pv 1) ad ae)) (aa (ag d_ (pv 1) ac) ad se_bin) se_call) se_bin)));exact(aF (al ao (pv 4) (ag aH (pv 0) ac)))
 x_go;have zl:z.length=n:=st.len;lk;obtain⟨sc,esc,s48,s49⟩:=s_ (i:=x / 18 % 9) (by omega) (by omega);refine dF (by decide) esc ?_;lk;refine⟨_,rfl,by omega,?_⟩;have zp:0<z.length:=by omega
 have il0:0<=x / 162 % (z.length:Int):=Q8 _ (by omega);have il1:x / 162 % (z.length:Int)<z.length:=QX _ (by omega);obtain⟨i,ei⟩:∃i:Nat,x / 162 % (z.length:Int)=(i:Int):=⟨(x / 162 % (z.length:Int)).toNat,by omega⟩;rw[ei]at il0 il1;refine i_rI (by show (0:Int)<(z.length:Int);omega) ?_;rw[ei];lk;have il:i<z.length:=by omega
 have c0:("0" : Str).length=1:=by decide +kernel
 have c1:("1" : Str).length=1:=by decide +kernel
 have cs:(⟨#[sc]⟩:Str).length=1:=rfl;have g0:(⟨#[sc]⟩:Str).cps.getD 0 0≠48:=s48;have g1:(⟨#[sc]⟩:Str).cps.getD 0 0≠49:=s49;have lt:=sO (z:=z) (j:=i) (by omega);have lf:=jW (z:=z) (j:=i+1) (by omega);rw[show ((i+1:Nat):Int)=(i:Int)+1 from by omega]at lf;have lf1:=jW (z:=z) (j:=1) (by omega);rw[show ((1:Nat):Int)=1 from rfl]at lf1;refine⟨z,rfl,by omega,λp2 hp2=>?_⟩;ctx_has H p2 H3 S3 q3 ak hp2;lk;refine⟨by simp[sizeLine],λp3 hp3=>?_⟩;ctx_has H3 p3 H4 S4 q4 ak hp3;lk;refine⟨_,_,rfl,rfl,by omega,?_⟩;lk;refine dq (by omega) ?_;lk;intro p4 hp4;ctx_has H4 p4 H5 S5 q5 ak hp4;lk;refine⟨_,12,rfl,rfl,PyProof.Rows.mulOk_of 40 12 (by rw[c1];decide) (by decide) (by decide) (by decide) (by decide),?_⟩;lk;refine⟨by simp[sizeLine],λL1 hL1=>?_⟩;ctx_has H5 L1 H6 S6 q6 ak hL1;lk;refine dq (by omega) ?_;lk;refine⟨_,_,rfl,rfl,by omega,?_⟩;lk;refine dq (by omega) ?_;refine⟨_,_,rfl,rfl,by rw[kT];omega,?_⟩;lk;refine⟨_,_,rfl,rfl,by omega,?_⟩;lk;refine⟨_,_,rfl,rfl,by omega,?_⟩;lk;refine⟨by simp[sizeLine],λp7 hp7=>?_⟩;ctx_has H6 p7 H7 S7 q7 ak hp7;lk;refine⟨by simp[sizeLine],λL2 hL2=>?_⟩;ctx_has H7 L2 H8 S8 q8 ak hL2;refine bZ ((S7.trans S8) _ _ q6) q8 (by simp[sizeLine]) λL3 hL3=>?_;ctx_has H8 L3 H9 S9 q9 ak hL3;lk;refine⟨z,rfl,by omega,λpa hpa=>?_⟩;ctx_has H9 pa Ha Sa qa ak hpa;lk;refine⟨z,2,rfl,rfl,PyProof.Rows.mulOk_of 40 2 (by omega) (by decide) (by decide) (by decide) (by decide),?_⟩;lk;refine⟨by simp[sizeLine],λL4 hL4=>?_⟩;ctx_has Ha L4 Hb Sb qb ak hL4;refine bZ ((Sa.trans Sb) _ _ q9) qb (by simp[sizeLine]) λL5 hL5=>?_;generalize hxs:((([V.non,_,_,_,_,_,_,_,_,_]++[_,_,_,_,_])++[_,_,_]:List V))=xs;ctx_has Hb L5 Hc Sc qc ak hL5;have xl:xs.length=18:=by rw[<-hxs];rfl
 have Sac:=Sa.trans (Sb.trans Sc);have S9c:=S9.trans Sac;have S7c:=(S7.trans S8).trans S9c;have S6c:=S6.trans S7c;have r2:=(S4.trans (S5.trans S6c)) _ _ q3;have r3:=(S5.trans S6c) _ _ q4;have r4:=S6c _ _ q5;have r7:=(S8.trans S9c) _ _ q7;have ra:=(Sb.trans Sc) _ _ qa;have S0:=S3.trans (S4.trans (S5.trans S6c));have lm:=PyProof.Rows.len_mul z 2;rw[QB (by decide)]at lm;have lm1:=PyProof.Rows.len_mul ("1" : Str) 12;rw[QB (by decide),c1]at lm1;have e0:("" : Str).length=0:=by decide +kernel
 have all:∀x∈xs,dI K Hc n x:=by
  rw[<-hxs];simp only[List.forall_mem_append,List.forall_mem_cons,List.forall_mem_nil,and_true]
  repeat' (with_reducible apply And.intro)
  all_goals first
   | exact λx h=>nomatch h
   | exact dH .non NS.non
   | exact dH (.int _) NS.int
   | exact dH (.bl _) NS.bl
   | exact dH (.lst r2) NS.lst
   | exact dH (.tup r3) NS.tup
   | exact dH (.dK r4) NS.dct
   | exact dH (.lst r7) NS.lst
   | exact dH (.tup ra) NS.tup
   | exact jh (by rw[e0];omega) (by rw[e0];omega)
   | exact jh (by omega) (by omega)
   | exact jh (by rw[kT];omega) (by rw[kT];omega)
   | (refine qH ?_ ?_ ?_ ?_ ?_)
  all_goals first|omega|assumption|decide +kernel
 clear hxs;lk;obtain⟨j,ej⟩:∃j:Nat,x % 18=(j:Int):=⟨(x % 18).toNat,by omega⟩;have hj:j<xs.length:=by omega
 rw[ej];refine aO (v:=xs[j]) (SqL.of qc) (a_ (Qd hj)) ?_;exact k _ Hc S0 (all _ (xh hj))
end
def nR (K:PySem.W.Frag):Sp:=λvs H Q _=>∃(x:Int) (a li lg:Addr) (ins:List Str) (gvs:List V) (gs:List (Str × Rl)) (z:Str),vs=[.int x,.ref a,.str z]/\NAt H a li lg ins gvs gs/\NetOk ins gs/\StOk (ai ins gs).length z/\(∀n∈ai ins gs,n.length<=20000)/\∀v H',aj H H'->gZ K H' ((bf ins gs z).map (·.1)) v->Q v H'
def Sth (K:PySem.W.Frag) (H:Hp) (v:V):Prop:=(j_ K H v\/cC v=true)/\(iD K H v\/∃s:Str,v=.str s)
theorem lG {a:Addr} {u:HO} (h:Rd H a u) (S:aj H H'):Rd H' a u:=by
 rcases h with e|⟨o,e⟩
 ·exact .inl (S _ _ e)
 exact .inr ⟨o,S _ _ e⟩
theorem lp {K:PySem.W.Frag} (h:j_ K H v) (S:aj H H'):j_ K H' v:=by
 obtain⟨a,rfl,h⟩:=h;refine⟨a,rfl,?_⟩;rcases h with⟨xs,h⟩|⟨xs,h⟩|⟨kvs,h⟩
 ·exact .inl ⟨xs,h.imp (λe=>lG e S) id⟩
 ·exact .inr (.inl ⟨xs,h.imp (λe=>lG e S) id⟩)
 exact .inr (.inr ⟨kvs,S _ _ h⟩)
theorem Sth.same {K:PySem.W.Frag} (h:Sth K H v) (S:aj H H'):Sth K H' v:=⟨h.1.imp (λh=>lp h S) id,h.2.imp (λh=>h.same S) id⟩
theorem lx {K:PySem.W.Frag} (s:Str):Sth K H (.str s):=⟨.inr rfl,.inr ⟨s,rfl⟩⟩
theorem lV:∀ns:List Str,inV .non (ns.map V.str)=false
 | []=>rfl
 | n::ns=>by
  have:=lV ns;unfold inV at this ⊢;rw[Qs,List.any_cons,this];rfl
section
theorem ku:FnScope ["x", "net", "standing", "some", "near", "rest"] ["x", "net", "standing"] (ap (top 44)):=by fin2
theorem pZ {f:Addr} {fd:FuncData} (Fu:Fun K "_law_odd" "_law_odd" (top 44) f fd) (T:Txt K mg TT) (f_law_asked:Fn P w K mg base "_law_asked" ["net", "standing"] 11 dJ):FnOk P w K mg base CX0 12 f fd ["x", "net", "standing"] (nR K):=by
 have S:=ku;have NS:=rD K;refine Fu.ok S (by room) (λcdv A outer s H vs Q E hr h=>?_);obtain⟨x,a,li,lg,ins,gvs,gs,z,rfl,NA,ok,st,lens,k⟩:=h;refine'⟨?_,?bb,?_⟩
 case bb =>
  walk_at "b";exact(ar 3 S.nd (lL (tgs:=["name", "there"]) (cap:=[]) rfl ⟨rfl,rfl,rfl,rfl,rfl,rfl⟩ (cY (aN f_law_asked hr (aa (pv 1) (aa (pv 2) ad ae) ae))) (λ_ _ _ _=>(i8 (K:=K) (n:=2) rfl rfl (aP (bW (i:=0) (show List.Nodup [("name" : Str),("there" : Str)] by decide +kernel) rfl (by z_go)) (aP (bW (i:=1) (show List.Nodup [("name" : Str),("there" : Str)] by decide +kernel) rfl (by z_go)) bV)))) (λ_ _ _ _=>dB) (λ_ _ _ _=>(pv 0))));exact ar 4 S.nd (al ao (ag bF (pv 3) (aL (aa az ad aq))) (ag aH (ag bo (pv 0) ac) (ag aD (au aA (by rfl) T.n_len Qo (aa (pv 3) ad ae)) ac)));exact ar 5 S.nd (ag bF (al aR (pv 1) ac) (lL (tgs:=["name", "rule"]) (cap:=[]) rfl ⟨rfl,rfl,rfl,rfl,rfl,rfl⟩ (cY (al aR (pv 1) ac)) (λ_ _ _ _=>(i8 (K:=K) (n:=2) rfl rfl (aP (bW (i:=0) (show List.Nodup [("name" : Str),("rule" : Str)] by decide +kernel) rfl (by z_go)) (aP (bW (i:=1) (show List.Nodup [("name" : Str),("rule" : Str)] by decide +kernel) rfl (by z_go)) bV)))) (λ_ _ _ _=>dB) (λ_ _ _ _=>(pv 0))));refine' ar 5 S.nd ?_;rotate_left 1;(with_reducible refine' ag bF ?_ ?_);rotate_left 2;exact(pv 5);(with_reducible refine' aL ?_);rotate_left 1;(with_reducible refine' aa ?_ ?_ aq);rotate_left 2;exact az;(with_reducible refine' aa ?_ ?_ aq);rotate_left 2;exact az;(with_reducible refine' aa ?_ ?_ aq);rotate_left 2;exact dC;(with_reducible refine' aa ?_ ?_ aq);rotate_left 2;exact ac;(with_reducible refine' aa ?_ ?_ aq);rotate_left 2;exact cG;(with_reducible refine' aa ?_ ?_ se_lst);rotate_left 2;exact aL (aa az ad aq);(with_reducible refine' aa ?_ ?_ se_tup);rotate_left 2;exact bh ad;(with_reducible refine' aa ?_ ?_ aq);rotate_left 2;exact az;(with_reducible refine' aa ?_ ?_ se_dict);rotate_left 2;exact eM;(with_reducible refine' aa ?_ ?_ se_bin);rotate_left 2;exact ag jb ac ac;exact ad;exact ar 5 S.nd (ag bF (pv 5) (aL (aa (ag aQ (pv 4) az) (aa (ag aQ az (pv 4)) (aa (ag aQ (pv 4) az) (aa (ag aQ (pv 4) az) ad se_bin) se_bin) se_bin) se_bin)));exact ar 5 S.nd (ag bF (pv 5) (aL (aa (aK cj (pv 4) aX (aS (fq dy ac))) (aa (sC PySem.F.plainAttrs_str PySem.F.slot_str_upper PySem.F.type_str_upper oP (pv 4)) (aa (bh (aa (pv 4) ad ae)) (aa (aL (aa (pv 4) ad ae)) ad se_lst) se_tup) se_call) se_sub)));exact(nZ (j:=5) S.nd rfl (by z_go) (tgs:=["one"]) (cap:=[("some", 3)]) rfl ⟨rfl,rfl,rfl,rfl,rfl,rfl⟩ (cY (pv 5)) (λ_ _ _ _=>(bW (i:=0) (show List.Nodup [("one" : Str),("some" : Str)] by decide +kernel) rfl (by z_go))) (λ_ _ _ _=>(jN (aC (ge (K:=K) rfl hr) (pv 0) (pv 1) rfl))) (λ_ _ _ _=>(pv 0)));exact(aF (al ao (pv 5) (ag aH (pv 0) (au aA (by rfl) T.n_len Qo (aa (pv 5) ad ae)))))
 x_go;have i4:=ok.i4;have g7:=ok.g7;have big:100000<sizeLine:=by decide
 have ls:(bf ins gs z).length<=gs.length:=by
  have:=List.length_filterMap_le (bq (sgn (ai ins gs) z) z) (gs.zipIdx ins.length);rw[List.length_zipIdx]at this;exact this
 have sub:=e_ (f:=sgn (ai ins gs) z) (z:=z) gs ins.length
 change List.Sublist ((bf ins gs z).map (·.1)) _ at sub
 lk;refine i_comp (s_list (i_call (aJ (aE rfl (aJ (aE rfl (aZ ⟨a,li,lg,ins,gvs,gs,z,rfl,NA,ok,st,λl vs' H1 S1 nl hl pr=>?_⟩)))))));have pl:=aV pr;refine⟨l,rfl,⟨_,SqL.of hl⟩,λD hD=>?_⟩;refine dR (xs:=vs') (λn H' ys=>aj H1 H'/\H' D=some (.lst ys)/\ys=(((bf ins gs z).map (·.1)).map V.str).take n) ⟨ah hD,af,by simp⟩ (λn H' ys p=>⟨p.2.1,SqL.of (p.1 _ _ hl)⟩) (λn y H' ys e p=>?_) (λH2 ys p=>?_)
 ·obtain⟨S,hd,rfl⟩:=p;obtain⟨g,hgi,b,rfl,hb⟩:=b_ pr n y e;have hn:n<vs'.length:=(Qf.mp e).1;refine⟨b,_,rfl,SqT.of (S _ _ hb),rfl,?_⟩;refine⟨_,_,rfl,aB ⟨_,_,rfl,aB ⟨rfl,⟨trivial,i_yes (cc ?_)⟩⟩⟩⟩;refine aE rfl (bN.mk hd hn (by rw[Qu];omega) ⟨aW S hD,af,?_⟩);rw[List.take_succ,Ql,Ql,hgi];rfl
 obtain⟨S2,q2,rfl⟩:=p;rw[Q6 (by rw[Qb,Qb];omega)]at q2;have S02:=S1.trans S2;have NA2:=NA.same S02;generalize hnm:(bf ins gs z).map (·.1)=nm at *;have nml:nm.length<=7:=by rw[<-hnm,Qb];omega
 have nlen:∀n∈nm,n.length<=20000:=λn hn=>lens n (by unfold ai;exact Qw _ (sub.subset hn));clear S1 S2 pr pl hl nl hD sub;lk;refine⟨by simp[sizeLine],λp1 hp1=>?_⟩;ctx_has H2 p1 H3 S3 q3 ak hp1;have q3:H3 p1=some (.lst (([("a" : Str)]:List Str).map V.str)):=q3;refine bZ (S3 _ _ q2) q3 (by rw[Qb];simp;omega) λp2 hp2=>?_;rw[<-QJ];ctx_has H3 p2 H4 S4 q4 ak hp2;have q24:=(S3.trans S4) _ _ q2;lk;rw[Qb];have q0:0<=x / 24 % ((nm.length:Int)+1):=Q8 _ (by omega);have q1:x / 24 % ((nm.length:Int)+1)<(nm.length:Int)+1:=QX _ (by omega);refine i_rI (by show (0:Int)<(nm.length:Int)+1;omega) ?_;obtain⟨jn,ejn⟩:∃j:Nat,x / 24 % ((nm.length:Int)+1)=(j:Int):=⟨(x / 24 % ((nm.length:Int)+1)).toNat,by omega⟩;rw[ejn]at q0 q1 ⊢;have jl:jn<(nm++[("a" : Str)]).length:=by rw[Qi];show jn<nm.length+1;omega
 obtain⟨nr,enr⟩:∃nr,(nm++[("a" : Str)])[jn]?=some nr:=⟨_,Qd jl⟩
 have nrl:nr.length<=20000:=by
  rcases QR.mp (QP enr) with h|h
  ·exact nlen nr h
  rw[Q2.mp h];decide +kernel
 refine aO (SqL.of q4) (v:=.str nr) (a_ (by rw[Ql,enr];rfl)) ?_;have S3':=S3.trans S4;have NA4:=NA2.same S3';have ha4:=NA4.ha;clear S3 S4 q3 enr jl q0 q1 hp1 hp2;lk;refine gA rfl NA4 ok λD2 H5 hD2 S5 h5=>?_;show pP _ _ _ _;refine bZ (S5 _ _ NA4.hi) h5 (by rw[Qb,Qb,Qb];omega) λl0 hl0=>?_;rw[<-QJ];generalize hws:ins++gs.map (·.1)=ws;have wsl:ws.length<=11:=by rw[<-hws,Qi,Qb];omega
 ctx_has H5 l0 H6 S6 q6 ak hl0;have S46:=S5.trans S6;have q26:=S46 _ _ q24;lk;refine⟨by simp[sizeLine],λpa hpa=>?_⟩;ctx_has H6 pa H7 S7 qa ak hpa;lk;refine⟨by simp[sizeLine],λpt hpt=>?_⟩;ctx_has H7 pt H8 S8 qt ak hpt;lk;intro pd hpd;ctx_has H8 pd H9 S9 qd ak hpd;lk;refine⟨by simp[sizeLine],λL1 hL1=>?_⟩;ctx_has H9 L1 G1 T1 r1 ak hL1;have S69:=S7.trans (S8.trans S9);refine bZ (T1 _ _ (S69 _ _ q6)) r1 (by rw[Qb];simp;omega) λL2 hL2=>?_;ctx_has G1 L2 G2 T2 r2 ak hL2;have c1:∀s∈([" ", "\n", "x"]:List Str),s.length=1:=by decide +kernel
 have c11:(" " : Str).length=1:=c1 _ (by simp);have c12:("\n" : Str).length=1:=c1 _ (by simp);have c13:("x" : Str).length=1:=c1 _ (by simp);lk;refine⟨_,_,rfl,rfl,by omega,?_⟩;lk;refine⟨_,_,rfl,rfl,by omega,?_⟩;lk;refine⟨_,_,rfl,rfl,by omega,?_⟩;lk;refine⟨_,_,rfl,rfl,by omega,?_⟩;lk;refine⟨by simp[sizeLine],λL3 hL3=>?_⟩;ctx_has G2 L3 G3 T3 r3 ak hL3;refine bZ (T3 _ _ r2) r3 (by rw[Qi,Qb];simp;omega) λL4 hL4=>?_;ctx_has G3 L4 G4 T4 r4 ak hL4;lk;refine dq (by omega) ?_;lk;refine aE (i:=4) rfl ⟨uF,nr,rfl,rfl,by omega,λup upl=>?_⟩;lk;refine⟨by simp[sizeLine],λpt2 hpt2=>?_⟩;ctx_has G4 pt2 G5 T5 r5 ak hpt2;lk;refine⟨by simp[sizeLine],λpl2 hpl2=>?_⟩;ctx_has G5 pl2 G6 T6 r6 ak hpl2;lk;refine⟨by simp[sizeLine],λL5 hL5=>?_⟩;ctx_has G6 L5 G7 T7 r7 ak hL5;refine bZ ((T5.trans (T6.trans T7)) _ _ r4) r7 (by rw[Qi,Qi,Qb];simp;omega) λL6 hL6=>?_;generalize hxs:((ws.map V.str++_)++_)++_=xs;ctx_has G7 L6 G8 T8 r8 ak hL6;have T48:=T5.trans (T6.trans (T7.trans T8));have T18:=T1.trans (T2.trans (T3.trans (T4.trans T48)));have U7:=S8.trans (S9.trans T18);have ua:=U7 _ _ qa;have ut:=(S9.trans T18) _ _ qt;have ud:=T18 _ _ qd;have u5:=(T6.trans (T7.trans T8)) _ _ r5;have u6:=(T7.trans T8) _ _ r6;have unm:=(S69.trans T18) _ _ q26;have xl:xs.length=ws.length+18:=by rw[<-hxs];simp[Qi]
 have all:∀v∈xs,Sth K G8 v:=by
  rw[<-hxs];simp only[List.forall_mem_append,List.forall_mem_cons,List.forall_mem_nil,and_true]
  repeat' (with_reducible apply And.intro)
  all_goals first
   | (intro v hv;exact absurd hv List.not_mem_nil)
   | (intro v hv;obtain⟨n,_,rfl⟩:=QL.mp hv;exact lx n)
   | exact lx _
   | exact⟨.inr rfl,.inl ⟨_,.non,NS.non⟩⟩
   | exact⟨.inr rfl,.inl ⟨_,.int _,NS.int⟩⟩
   | exact⟨.inr rfl,.inl ⟨_,.bl _,NS.bl⟩⟩
   | exact⟨.inl ⟨_,rfl,.inl ⟨_,SqL.of ua⟩⟩,.inl ⟨_,.lst ua,NS.lst⟩⟩
   | exact⟨.inl ⟨_,rfl,.inr (.inl ⟨_,SqT.of ut⟩)⟩,.inl ⟨_,.tup ut,NS.tup⟩⟩
   | exact⟨.inl ⟨_,rfl,.inr (.inr ⟨_,ud⟩)⟩,.inl ⟨_,.dK ud,NS.dct⟩⟩
   | exact⟨.inl ⟨_,rfl,.inr (.inl ⟨_,SqT.of u5⟩)⟩,.inl ⟨_,.tup u5,NS.tup⟩⟩
   | exact⟨.inl ⟨_,rfl,.inl ⟨_,SqL.of u6⟩⟩,.inl ⟨_,.lst u6,NS.lst⟩⟩
 have non:xs[ws.length+2]?=some .non:=by
  rw[<-hxs];simp[List.getElem?_append]
 clear hxs r1 r2 r3 r4 r5 r6 r7 T1 T2 T3 T4 T5 T6 T7 T8 T48 qa qt qd ua ut ud u5 u6 U7;have S08:=S02.trans (S3'.trans (S46.trans (S69.trans T18)));lk;refine i_comp (s_list (aE rfl ⟨L6,rfl,⟨_,SqL.of r8⟩,λDc hDc=>?_⟩));let I24:IvC:=λn H' ys=>aj G8 H'/\H' Dc=some (.lst ys)/\(∀v∈ys,gZ K G8 nm v)/\ys.length<=n/\(ws.length+2<n->1<=ys.length);refine le (xs:=xs) I24 ⟨ah hDc,af,(λv h=>nomatch h),Qh _,λh=>absurd h (by omega)⟩ (λn H' ys p=>⟨p.2.1,SqL.of (p.1 _ _ r8)⟩) (λn v H' ys e p=>?_) (λH9 ys p=>?_)
 ·obtain⟨Sc,hc,odd,yl,ne⟩:=p;have hn:n<xs.length:=(Qf.mp e).1;have sth0:=all v (QP e);have sth:=sth0.same Sc;refine aB ⟨⟨rfl,trivial⟩,?_⟩;refine i_test (i_op (aE rfl (aE rfl ⟨D,nm,rfl,SqL.of (Sc _ _ unm),?_⟩)))
  have keep:gZ K G8 nm v->bA 0 [some v,some (.ref D)] H' (bN (λn H' ys=>aj G8 H'/\H' Dc=some (.lst ys)/\(∀v∈ys,gZ K G8 nm v)/\ys.length<=n/\(ws.length+2<n->1<=ys.length)) xs.length Dc n ys):=λov=>by
   refine aE rfl (bN.mk hc hn (by omega) ⟨aW Sc hDc,af,λu hu=>?_,by rw[Qi];show _+1<=_;omega,λ_=>by rw[Qi];show 1<=_+1;omega⟩);rcases QR.mp hu with h|h
   ·exact odd u h
   rw[Q2.mp h];exact ov
  have out:∃m',m'<xs.length-n/\(m'=xs.length-(n+1)/\n+1<=xs.length/\(aj G8 H'/\H' Dc=some (.lst ys)/\(∀v∈ys,gZ K G8 nm v)/\ys.length<=n+1/\(ws.length+2<n+1->v≠.non->1<=ys.length))):=⟨_,by omega,rfl,hn,Sc,hc,odd,by omega,λh1 h2=>by
   by_cases c:ws.length+2<n
   ·exact ne c
   have:n=ws.length+2:=by omega
   subst this;rw[non]at e
   exact absurd (QO e).symm h2⟩
  rcases sth.1 with bx|fl
  ·refine .inl ⟨bx,⟨_,rfl,?_⟩⟩;refine cc (keep ?_);rcases sth0.2 with h|⟨sx,rfl⟩
   ·exact .inl h
   obtain⟨b,eb,_⟩:=bx;cases eb
  refine .inr ⟨fl,⟨_,rfl,?_⟩⟩;refine ce (λhb=>keep ?_) (λhb=>?_)
  ·rcases sth0.2 with h|⟨sx,rfl⟩
   ·exact .inl h
   refine .inr ⟨sx,rfl,λm=>?_⟩;rw[eR.mpr m]at hb;cases hb
  obtain⟨m',h1,h2,h3,h4,h5,h6,h7,h8⟩:=out;refine⟨m',h1,h2,h3,h4,h5,h6,h7,λq=>h8 q λz=>hb ?_⟩;rw[z,lV];rfl
 obtain⟨Sc,hc,odd,yl,ne⟩:=p;have ne:=ne (by omega);lk;have m0:0<=x % (ys.length:Int):=Q8 _ (by omega);have m1:x % (ys.length:Int)<ys.length:=QX _ (by omega);refine i_rI (by show (0:Int)<(ys.length:Int);omega) ?_;obtain⟨j,ej⟩:∃j:Nat,x % (ys.length:Int)=(j:Int):=⟨(x % (ys.length:Int)).toNat,by omega⟩;rw[ej]at m0 m1 ⊢;have hj:j<ys.length:=by omega
 refine aO (v:=ys[j]) (SqL.of hc) (a_ (Qd hj)) ?_;exact k _ H9 (S08.trans Sc) ((odd _ (xh hj)).same Sc)
end
def uU (ins:List Str) (gs:List (Str × Rl)) (z:Str) (H:Hp) (v:V):Prop:=v=.non\/∃(t ra:Addr) (rs:List Str) (n:Nat) (y:Str),v=.ref t/\H t=some (.tup [.ref ra,.int ((n:Nat):Int),.str y])/\H ra=some (.lst (rs.map V.str))/\rs.length<=4000/\n<=rs.length/\Run ins gs z (rs.take n) y/\StOk (ai ins gs).length y
def jw:Sp:=λvs H Q _=>∃(oa la:Addr) (x:Int) (os as:List Str) (ins:List Str) (gs:List (Str × Rl)) (z:Str),vs=[.ref oa,.ref la,.int x]/\0<=x/\H oa=some (.lst (os.map V.str))/\H la=some (.lst (as.map V.str))/\os.length<=40/\Wlk ins gs z os as/\∀v H',aj H H'->uU ins gs z H' v->Q v H'
theorem jr {α:Type} {seg:List α}:∀(rp q m:Nat),q*seg.length+m<=rp*seg.length->m<=seg.length->((List.replicate rp seg).flatten).take (q*seg.length+m)=(List.replicate q seg).flatten++seg.take m
 | 0,0,m,h,_=>by
  have:m=0:=by simp at h;omega
  subst this;simp
 | rp+1,0,m,h,hm=>by
  rw[Nat.zero_mul,Nat.zero_add,QS,Q0,List.take_append_of_le_length hm];rfl
 | 0,q+1,m,h,_=>by
  rw[Nat.zero_mul,Nat.add_mul]at h;have h1:seg.length=0:=by omega
  have h2:seg=[]:=List.eq_nil_of_length_eq_zero h1;subst h2;simp
 | rp+1,q+1,m,h,hm=>by
  have e:(q+1)*seg.length+m=seg.length+(q*seg.length+m):=by rw[Nat.succ_mul];omega
  rw[e,QS,Q0,List.take_append,Q6 (Nat.le_add_right _ _),Nat.add_sub_cancel_left,jr rp q m (by rw[Nat.succ_mul,Nat.succ_mul]at h;omega) hm,QS,Q0,List.append_assoc]
section
theorem iO:FnScope ["order", "along", "x", "back", "first", "size", "part", "row", "at"] ["order", "along", "x"] (ap (top 45)):=by fin2
theorem oA {f:Addr} {fd:FuncData} (Fu:Fun K "_law_round" "_law_round" (top 45) f fd) (T:Txt K mg TT):FnOk P w K mg base CX0 1 f fd ["order", "along", "x"] jw:=by
 have S:=iO;refine Fu.ok S (by room) (λcdv A outer s H vs Q E hr h=>?_);obtain⟨oa,la,x,os,as,ins,gs,z,rfl,x0,ho,hl,l40,W,k⟩:=h;refine'⟨?_,?bb,?_⟩
 case bb =>
  walk_at "b";exact(nZ (j:=3) S.nd rfl (by z_go) (tgs:=["k"]) (cap:=[("along", 1)]) rfl ⟨rfl,rfl,rfl,rfl,rfl,rfl⟩ (bn (by rfl) T.n_range (aa (ag c7 (au aA (by rfl) T.n_len Qo (aa (pv 1) ad ae)) ac) ad)) (λ_ _ _ _=>(bW (i:=0) (show List.Nodup [("k" : Str),("along" : Str)] by decide +kernel) rfl (by z_go))) (λ_ _ _ _=>(jN (aC (kB (K:=K) rfl) (al (eQ (K:=K) rfl) (pv 1) (pv 0)) (aK (nW (K:=K) rfl) (pv 1) (aS (ag aD (pv 0) ac)) aX) rfl))) (λ_ _ _ _=>(pv 0)));exact(aC (oq hr.units) (pv 3) (aL ad) (aI _));exact(aF dC);exact ar 4 S.nd (al ao (pv 3) ac);exact ar 5 S.nd (ag aD ac (cA QC PySem.F.slot_list_index PySem.F.type_list_index oQ (aK bH (pv 1) (aS (ag aD (pv 4) ac)) aX) (aa (al ao (pv 1) (pv 4)) ad)));exact ar 6 S.nd (aK bH (pv 0) (aS (pv 4)) (aS (ag aD (pv 4) (pv 5))));exact ar 7 S.nd (ag bF (aK bH (pv 0) aX (aS (pv 4))) (ag sE (pv 6) (ag aD (ag bo ac (pv 5)) ac)));exact ar 8 S.nd (ag aD (pv 4) (ag aH (pv 2) (ag aD (ag c7 (au aA (by rfl) T.n_len Qo (aa (pv 7) ad ae)) (pv 4)) ac)));exact(aF (bh (aa (pv 7) (aa (pv 8) (aa (al ao (pv 1) (ag aD (pv 4) (ag aH (ag c7 (pv 8) (pv 4)) (pv 5)))) ad) ae) ae)))
 x_go;have len:=W.len;lk;refine i_comp ?_;lk;refine⟨by rw[Qb];omega,by rw[Qb];omega,λD hD=>?_⟩;rw[show (((as.map V.str).length:Int)-1).toNat=os.length from by rw[Qb];omega];let I25:IvC:=λn H' ys=>aj H H'/\H' D=some (.lst ys)/\∃ks:List Nat,ys=ks.map (λ(q:Nat)=>V.int (q:Int))/\ks.length<=n/\∀q∈ks,q<os.length/\∃u,as[q]?=some u/\u∈as.drop (q+1);refine comp_rangeF (n:=os.length) I25 ⟨ah hD,af,[],rfl,by simp,λq h=>nomatch h⟩ (λn H' ys p=>p.2.1) (λn H' ys hn p=>?_) (λH' ys p=>?_)
 ·obtain⟨S2,h2,ks,rfl,lk,hk⟩:=p;have hl2:=S2 _ _ hl;obtain⟨u,hu⟩:∃u,as[n]?=some u:=⟨as[n]'(by omega),Qd _⟩;have e0:(0:Int)+(n:Int)=((n:Nat):Int):=by omega
  refine aB ⟨⟨rfl,trivial⟩,?_⟩;show nI _ [some (.int (0+n)),some (.ref la)] _ _;rw[e0];lk;refine aO (SqL.of hl2) (a_ (j:=n) (v:=.str u) (by rw[Ql,hu];rfl)) ?_;lk;rw[show (n:Int)+1=((n+1:Nat):Int) from by omega];refine cJ (SqL.of hl2) λp hp=>?_;rw[dG (by rw[Qb];omega),<-List.map_drop];ctx_has H' p H3 S3 q3 ak hp;refine uG (SqL.of q3) rfl (ir _) ?_;refine⟨_,rfl,?_⟩;refine ce (λhin=>?_) (λ_=>⟨_,by omega,rfl,by omega,S2.trans S3,S3 _ _ h2,ks,rfl,by omega,hk⟩);refine aE rfl (bN.mk (S3 _ _ h2) hn (by rw[Qb];omega) ⟨aW (S2.trans S3) hD,af,ks++[n],by simp,by simp;omega,λq hq=>?_⟩);rcases QR.mp hq with h|h
  ·exact hk q h
  rw[Q2]at h;subst h;exact⟨hn,u,hu,eR.mp hin⟩
 obtain⟨S2,h2,ks,rfl,lk,hk⟩:=p;lk;refine⟨by decide,λp hp=>?_⟩;ctx_has H' p H3 S3 q3 ak hp;have S23:=S2.trans S3;have hk3:=S3 _ _ h2;refine⟨D,p,_,[],λ_=>true,rfl,rfl,SqL.of hk3,SqL.of q3,(λj x y _ h=>by simp at h),⟨_,rfl,?_⟩⟩;refine ce (λ_=>k .non H3 S23 (.inl rfl)) (λhne=>?_)
 cases ks with
 | nil=>exact absurd (by simp) hne
 | cons a r =>
 obtain⟨ha,u,hu,hmem⟩:=hk a (by simp);have hl3:=S23 _ _ hl;have ho3:=S23 _ _ ho;lk;refine aO (SqL.of hk3) (v:=.int ((a:Nat):Int)) (a_ (j:=0) rfl) ?_;lk;rw[show ((a:Nat):Int)+1=((a+1:Nat):Int) from by omega];refine cJ (SqL.of hl3) λp4 hp4=>?_;rw[dG (by rw[Qb];omega),<-List.map_drop];ctx_has H3 p4 H4 S4 q4 ak hp4;have hl4:=S4 _ _ hl3;have ho4:=S4 _ _ ho3;have hjl:(as.drop (a+1)).idxOf u<(as.drop (a+1)).length:=List.idxOf_lt_length_of_mem hmem;have hj:(as.drop (a+1))[(as.drop (a+1)).idxOf u]?=some u:=by rw[Qd hjl];exact congrArg some (List.getElem_idxOf hjl)
 have hno:∀m,m<(as.drop (a+1)).idxOf u->(as.drop (a+1))[m]?≠some u:=λm hm e=>by
  have hml:m<(as.drop (a+1)).length:=(Qf.mp e).1;have e2:=(Qf.mp e).2;have:=List.not_of_lt_findIdx hm;simp at this;exact this (by simpa using e2)
 generalize (as.drop (a+1)).idxOf u=j at *;rw[QU]at hjl;rw[List.getElem?_drop]at hj;have hu4:atI (as.map V.str) ((a:Nat):Int)=some (.str u):=a_ (by rw[Ql,hu];rfl);lk;refine aO (SqL.of hl4) hu4 ?_;lk;refine⟨p4,as.drop (a+1),u,j,rfl,rfl,q4,by rw[List.getElem?_drop];exact hj,hno,by rw[QU];omega,?_⟩;lk;rw[show (1:Int)+(j:Int)=((j+1:Nat):Int) from by omega];generalize hsz:j+1=sz at *;have hsz':a+sz<=os.length:=by omega
 have eu:as[a+sz]?=some u:=by rw[<-hj];congr 1;omega
 lk;rw[show ((a:Nat):Int)+(sz:Int)=((a+sz:Nat):Int) from by omega];refine cJ (SqL.of ho4) λp5 hp5=>?_;rw[cut_mid (by omega) (by rw[Qb];omega),show a+sz-a=sz from by omega,<-List.map_drop,<-List.map_take];have lseg:((os.drop a).take sz).length=sz:=by rw[Qu,QU];omega
 generalize hsg:(os.drop a).take sz=seg at *;ctx_has H4 p5 H5 S5 q5 ak hp5;have ho5:=S5 _ _ ho4;have hl5:=S5 _ _ hl4;lk;refine cJ (SqL.of ho5) λp6 hp6=>?_;rw[gz (by rw[Qb];omega),<-List.map_take];ctx_has H5 p6 H6 S6 q6 ak hp6;have q56:=S6 _ _ q5;have d0:0<=2900 / (sz:Int):=Int.ediv_nonneg (by omega) (by omega);have d1:2900 / (sz:Int)<=2900:=Int.ediv_le_self _ (by omega);have d2:2900 / (sz:Int)*(sz:Int)<=2900:=Int.ediv_mul_le _ (by omega);lk;obtain⟨rp,erp⟩:∃rp:Nat,2900 / (sz:Int)+1=(rp:Int):=⟨(2900 / (sz:Int)+1).toNat,by omega⟩
 have d3:rp*sz<=3000:=by
  have:(rp:Int)*(sz:Int)=2900 / (sz:Int)*(sz:Int)+(sz:Int):=by rw[<-erp,Int.add_mul,Int.one_mul]
  have:((rp*sz:Nat):Int)<=3000:=by rw[Int.natCast_mul];omega
  omega
 rw[erp];refine⟨p5,_,_,rfl,rfl,q56,by omega,by omega,by rw[Qb,lseg,xa,Nat.mul_comm];omega,λp7 hp7=>?_⟩;rw[xa,<-List.map_replicate,<-List.map_flatten];ctx_has H6 p7 H7 S7 q7 ak hp7;have lrep:((List.replicate rp seg).flatten).length=rp*sz:=by rw[lR,lseg]
 refine bZ (S7 _ _ q6) q7 (by rw[Qb,Qb,lrep,Qu];omega) λp8 hp8=>?_;rw[<-QJ];generalize hrs:os.take a++(List.replicate rp seg).flatten=rs at *;have lrs:rs.length=a+rp*sz:=by rw[<-hrs,Qi,lrep,Qu];omega
 ctx_has H7 p8 H8 S8 q8 ak hp8;have S58:=S6.trans (S7.trans S8);have hl8:=S58 _ _ hl5;lk;rw[Qb,lrs];have e1:((a+rp*sz:Nat):Int)-(a:Int)+1=((rp*sz+1:Nat):Int):=by omega
 rw[e1];have m0:0<=x % ((rp*sz+1:Nat):Int):=Q8 _ (by omega);have m1:x % ((rp*sz+1:Nat):Int)<((rp*sz+1:Nat):Int):=QX _ (by omega);refine i_rI (by show (0:Int)<((rp*sz+1:Nat):Int);omega) ?_;obtain⟨r,er⟩:∃r:Nat,x % ((rp*sz+1:Nat):Int)=(r:Int):=⟨(x % ((rp*sz+1:Nat):Int)).toNat,by omega⟩;rw[er]at m0 m1 ⊢;lk;have e2:(a:Int)+(r:Int)-(a:Int)=(r:Int):=by omega
 rw[e2];refine i_rI (by show (0:Int)<(sz:Int);omega) ?_;have g0:r % sz<sz:=Nat.mod_lt _ (by omega);have g1:r / sz*sz+r % sz=r:=by rw[Nat.mul_comm];exact Nat.div_add_mod r sz
 have e3:(r:Int) % (sz:Int)=((r % sz:Nat):Int):=by omega
 rw[e3];generalize r % sz=rr at *;generalize r / sz=qq at *;obtain⟨y,hy⟩:∃y,as[a+rr]?=some y:=⟨as[a+rr]'(by omega),Qd _⟩;lk;rw[show ((a:Nat):Int)+(rr:Int)=((a+rr:Nat):Int) from by omega];refine aO (SqL.of hl8) (a_ (j:=a+rr) (v:=.str y) (by rw[Ql,hy];rfl)) ?_;lk;refine⟨by simp[sizeLine],λp11 hp11=>?_⟩;ctx_has H8 p11 H11 S11 q11 ak hp11;rw[show (a:Int)+(r:Int)=((a+r:Nat):Int) from by omega]at q11;refine k _ H11 (S23.trans (S4.trans (S5.trans (S58.trans S11)))) (.inr ⟨p11,p8,rs,a+r,y,rfl,q11,S11 _ _ q8,by omega,by omega,?_,W.st y (QP hy)⟩);have r1:=W.run a 0 z u (by omega) W.hd (by rw[Nat.zero_add];exact hu);rw[List.drop_zero]at r1;have r2:=W.run sz a u u (by omega) hu eu;rw[hsg]at r2;have r3:=W.run rr a u y (by omega) hu hy;have e4:(os.drop a).take rr=seg.take rr:=by rw[<-hsg,List.take_take,Nat.min_eq_left (by omega)]
 rw[e4]at r3;have lta:(os.take a).length=a:=by rw[Qu];omega
 have e5:rs.take (a+r)=os.take a++((List.replicate qq seg).flatten++seg.take rr):=by
  have tr:=jr (seg:=seg) rp qq rr (by rw[lseg];omega) (by omega);rw[lseg,g1]at tr;rw[<-hrs,List.take_append,lta,Nat.add_sub_cancel_left,tr,Q6 (by omega)]
 rw[e5];exact r1.app ((r2.rep qq).app r3)
end
def lC (K:PySem.W.Frag):Sp:=λvs H Q _=>∃(a:Addr) (ns:List Int),vs=[.ref a]/\SqL K H a (ns.map V.int)/\ns.length<=63/\∀H',Q (.bl true) H'
theorem qD {K:PySem.W.Frag}:EqD K H n (.str z) (.str z) true:=by
 have h:=EqD.flat (K:=K) (H:=H) (n:=n) (x:=.str z) (y:=.str z) rfl rfl;have e:eqV (.str z) (.str z)=true:=by simp[eqV]
 rw[e]at h;exact h
theorem iu {K:PySem.W.Frag} {n:Nat} {a:Addr} (h1:SqL K H a xs) (h2:SqL K H b xs) (hi:∀(j:Nat) x,xs[j]?=some x->EqD K H n x x true) (ne:a≠b):EqD K H (n+1) (.ref a) (.ref b) true:=by
 have h:=EqD.lists (e:=λ_=>true) h1 h2 rfl (λj x y e1 e2=>by
  rw[e1]at e2;cases e2
  exact hi j x e1) ne
 have e:(List.range xs.length).all (λ_=>true)=true:=by simp
 rw[e]at h;exact h
theorem nK {K:PySem.W.Frag} (ns:List Str):∀(j:Nat) x y,(ns.map V.str)[j]?=some x->(ns.map V.str)[j]?=some y->EqD K H n x y true:=λj x y e1 e2=>by
 rw[e1]at e2;cases e2;rw[Ql]at e1
 cases h:ns[j]? with
 | none=>rw[h]at e1;cases e1
 | some z=>rw[h]at e1;cases e1;exact qD
theorem oM {K:PySem.W.Frag} {a:Addr} (h:NAt H a li lg ins gvs gs) (h':NAt H a' li' lg' ins gvs gs) (n1:li'≠li) (n2:lg'≠lg) :
  ∀(j:Nat) x y,[V.ref li',V.ref lg'][j]?=some x->[V.ref li,V.ref lg][j]?=some y->EqD K H 8 x y true:=λj x y e1 e2=>by
 match j with
 | 0 =>
  cases e1;cases e2;exact iu (n:=7) (SqL.of h'.hi) (SqL.of h.hi) (λj x e=>nK ins j x x e e) n1
 | 1 =>
  cases e1;cases e2;refine iu (n:=7) (SqL.of h'.hg) (SqL.of h.hg) (λj x e=>?_) n2;obtain⟨b,rfl⟩:=gt h.gates x (QP e);exact .same
 | j+2=>simp at e1
section
theorem sh:FnScope ["script", "d", "net", "handed", "turn", "standing", "order", "along", "at", "odd", "row", "far", "long", "place", "there", "thing", "bad", "good", "way"] ["script"] (ap (top 47)):=by fin2
theorem qf {f:Addr} {fd:FuncData} (Fu:Fun K "law" "law" (top 47) f fd) (T:Txt K mg TT) {c0 CS:Addr} (f_law_draws:Fn P w K mg base "_law_draws" ["script", "many"] 1 (lE K)) (f_law_net:Fn P w K mg base "_law_net" ["d", "spot"] 12 nS) (f_law_copy:Fn P w K mg base "_law_copy" ["net"] 1 nU) (f_law_standing:Fn P w K mg base "_law_standing" ["x", "net"] 1 jv)
  (f_law_order:Fn P w K mg base "_law_order" ["net", "standing", "d", "spot", "most"] 12 lB) (f_law_odd:Fn P w K mg base "_law_odd" ["x", "net", "standing"] 12 (nR K)) (f_law_refused:Fn P w K mg base "_law_refused" ["way", "net", "standing", "thing"] 14 (nP K)) (f_law_round:Fn P w K mg base "_law_round" ["order", "along", "x"] 1 jw) (f_law_bad:Fn P w K mg base "_law_bad" ["x", "standing"] 2 (nV K)) (f_order_end:Fn1 P w K mg base "order_end" ["net", "standing", "order"] 13 (nQ K c0 CS)) :
  FnOk P w K mg base CX0 15 f fd ["script"] (lC K):=by
 have S:=sh;have nT:=T.n_tuple;refine Fu.ok S (by room) (λcdv A outer s H vs Q E hr h=>?_);obtain⟨sc,cells,rfl,hS,hlen,k⟩:=h;refine'⟨?_,?bb,?_⟩
 case bb =>
  walk_at "b";exact ar 1 S.nd (aN f_law_draws hr (aa (pv 0) (aa ac ad aq) ae));exact ar 2 S.nd (aN f_law_net hr (aa (pv 1) (aa ac ad aq) ae));exact ar 3 S.nd (aN f_law_copy hr (aa (pv 2) ad ae));walk_at "f";exact(bn (by rfl) T.n_range (aa ac ad aq));exact(bC 4 S.nd);walk_at "p";exact ar 5 S.nd (aN f_law_standing hr (aa (al ao (pv 1) (ag aD ac (pv 4))) (aa (pv 2) ad ae)));exact(f8 (aN f_law_order hr (aa (pv 2) (aa (pv 5) (aa (pv 1) (aa (ag aD (ag ck ac (pv 4)) ac) (aa (ag aH (al ao (pv 1) (ag aD ac (pv 4))) ac) ad)) ae) ae) ae)) (cZ rfl (aP (bC 6 S.nd) (aP (bC 7 S.nd) bV))));exact ar 8 S.nd (ag aH (al ao (pv 1) (ag aD ac (pv 4))) (ag aD (au aA (by rfl) T.n_len Qo (aa (pv 6) ad ae)) ac));exact ar 9 S.nd (aN f_law_odd hr (aa (al ao (pv 1) (ag aD ac (pv 4))) (aa (pv 2) (aa (al ao (pv 7) (pv 8)) ad) ae)));exact ar 10 S.nd (ag bF (ag bF (aK bH (pv 6) aX (aS (pv 8))) (aL (aa (pv 9) ad ae))) (aK bH (pv 6) (aS (pv 8)) aX));exact(aC dm (aN f_law_refused hr (aa ac (aa (pv 3) (aa (pv 5) (aa (bK bY (by rfl) T.n_list xi (aa (pv 10) ad ae)) ad se_call) ae) ae) aq)) (pv 8) (aI _));exact(aF cG);exact(aC dm (aN f_law_refused hr (aa ac (aa (pv 3) (aa (pv 5) (aa (ag bF (pv 10) (aL (aa (pv 9) (aa dC ad aq) ae))) ad) ae) ae) aq)) (pv 8) (aI _));exact(aF cG);exact ar 11 S.nd (aN f_law_round hr (aa (pv 6) (aa (pv 7) (aa (al ao (pv 1) (ag aD ac (pv 4))) ad) ae) ae));exact(PW.pt (d7 (aC lN (pv 11) dC rfl) (dM (aC bD (ag aH (ag bo (al ao (pv 1) (ag aD ac (pv 4))) ac) ac) ac (aI _)))));exact(f8 (pv 11) (cZ rfl (aP (bC 12 S.nd) (aP (bC 13 S.nd) (aP (bC 14 S.nd) bV)))));exact ar 9 S.nd (aN f_law_odd hr (aa (al ao (pv 1) (ag aD ac (pv 4))) (aa (pv 2) (aa (pv 14) ad ae) ae)));exact ar 10 S.nd (ag bF (ag bF (aK bH (pv 12) aX (aS (pv 13))) (aL (aa (pv 9) ad ae))) (aK bH (pv 12) (aS (pv 13)) aX));exact(aC dm (aN f_law_refused hr (aa ac (aa (pv 3) (aa (pv 5) (aa (pv 10) ad ae) ae) ae) aq)) (pv 13) (aI _));exact(aF cG);exact ar 15 S.nd (al ao (aL (aa dC (aa ac (aa cG (aa az (aa az (aa (bh ad) (aa (bK gU (by rfl) T.n_tuple PyProof.Rows.boot_tuple (aa (pv 6) ad ae)) (aa eM (aa (fq dy ac) (aa (ag jb ac ac) ad se_bin) se_un) se_dict) se_call) se_tup) aq) aq) aq) aq) aq)) (ag aH (ag bo (al ao (pv 1) (ag aD ac (pv 4))) ac) ac));exact(aC dm (aN f_law_refused hr (aa ac (aa (pv 3) (aa (pv 5) (aa (pv 15) ad ae) ae) ae) aq)) ac (aI _));exact(aF cG);exact ar 16 S.nd (aN f_law_bad hr (aa (al ao (pv 1) (ag aD ac (pv 4))) (aa (pv 5) ad ae)));exact ar 17 S.nd (al ao (aL (aa (pv 6) (aa (pv 10) (aa (aL ad) (aa (pv 15) ad ae) se_lst) ae) ae)) (pv 4));walk_at "f";exact(bn (by rfl) T.n_range (aa ac ad aq));exact(bC 18 S.nd);walk_at "p";exact(aC dm (aN f_law_refused hr (aa (pv 18) (aa (pv 3) (aa (pv 16) (aa (al ao (aL (aa (pv 17) (aa (pv 15) (aa (pv 17) (aa (pv 5) ad ae) ae) ae) ae)) (pv 18)) ad) ae) ae) ae)) az (aI _));exact(aF cG);exact(aC dm (aN f_law_refused hr (aa ac (aa (pv 3) (aa (pv 5) (aa (pv 16) ad ae) ae) ae) aq)) az (aI _));exact(aF cG);exact(aC dm (aN f_law_refused hr (aa ac (aa (pv 3) (aa (pv 16) (aa (pv 16) ad ae) ae) ae) aq)) az (aI _));exact(aF cG);exact(PW.pt (ia (aC dm (sy f_order_end (hr.mono (by first|decide|omega)) (by rfl) (aa (pv 3) (aa (pv 5) (aa (bK bY (by rfl) T.n_list xi (aa (pv 6) ad ae)) ad se_call) ae) ae)) (al ao (pv 7) (fq dy ac)) (aI _)) (fi (aC (sF hr.units) (pv 3) (pv 2) (aI _)))));exact(aF cG);exact(aF cG)
 x_go;lk;refine⟨sc,cells,rfl,hS,hlen,λd ds H1 S1 nd hd dok=>?_⟩;lk;refine⟨d,ds,0,rfl,hd,dok,by omega,by omega,λa li lg ins gvs gs H2 S2 NA ok lens=>?_⟩;have hd2:=S2 _ _ hd;lk;refine⟨a,li,lg,ins,gvs,gs,rfl,NA,λa' li' lg' H3 S3 na nli nlg NB=>?_⟩;have n1:li'≠li:=(ax NA.hi nli).symm;have n2:lg'≠lg:=(ax NA.hg nlg).symm;have NA3:=NA.same S3;have hd3:=S3 _ _ hd2;lk;refine⟨by decide,by decide,?_⟩;let I26:IvF:=λi σ H'=>(∃x4 x5 x6 x7 x8 x9 x10 x11 x12 x13 x14 x15 x16 x17 x18,σ=[some (.ref sc),some (.ref d),some (.ref a),some (.ref a'),x4,x5,x6,x7,x8,x9,x10,x11,x12,x13,x14,x15,x16,x17,x18])/\aj H3 H';refine bQ (n:=4) I26 ⟨⟨_,_,_,_,_,_,_,_,_,_,_,_,_,_,_,rfl⟩,aj.refl _⟩ (λi σ H' hi pv=>?_) (λσ H' pv=>?_)
 ·obtain⟨⟨x4,x5,x6,x7,x8,x9,x10,x11,x12,x13,x14,x15,x16,x17,x18,rfl⟩,SS⟩:=pv;have hd4:=SS _ _ hd3;have NA4:=NA3.same SS;have NB4:=NB.same SS;obtain⟨y1,y10,_,e1⟩:=cu dok (i:=120+(0+(i:Int))) (by omega) (by omega);obtain⟨y2,y20,_,e2⟩:=cu dok (i:=124+(0+(i:Int))) (by omega) (by omega);obtain⟨y3,y30,_,e3⟩:=cu dok (i:=128+(0+(i:Int))) (by omega) (by omega);obtain⟨y4,y40,_,e4⟩:=cu dok (i:=132+(0+(i:Int))) (by omega) (by omega);obtain⟨y5,y50,_,e5⟩:=cu dok (i:=195+(0+(i:Int))) (by omega) (by omega);obtain⟨y6,y60,_,e6⟩:=cu dok (i:=136+(0+(i:Int))) (by omega) (by omega);refine aB ?_;lk;refine aO (SqL.of hd4) e1 ?_;lk;refine⟨y1,a,li,lg,ins,gvs,gs,rfl,NA4,ok,λz H5 st S5=>?_⟩;have hd5:=S5 _ _ hd4;have NA5:=NA4.same S5;lk;refine aO (SqL.of hd5) e2 ?_;lk;obtain⟨m,em⟩:∃m:Nat,y2 % 41=(m:Int):=⟨(y2 % 41).toNat,by omega⟩;rw[em];refine⟨a,li,lg,ins,gvs,gs,z,d,ds,_,m,rfl,NA5,ok,st,hd5,dok,by omega,λt oa la os as H6 S6 ht ho hl l40 W=>?_⟩;have len:=W.len;refine⟨t,_,rfl,SqT.of ht,rfl,?_⟩;refine⟨_,_,rfl,aB ⟨_,_,rfl,aB ⟨rfl,?_⟩⟩⟩;have NA6:=NA5.same S6;have hd6:=S6 _ _ hd5;have NB6:=(NB4.same S5).same S6;have SS6:=SS.trans (S5.trans S6);clear SS S5 S6 hd5 hd4 NA5 NA4 NB4 ht;lk;refine aO (SqL.of hd6) e3 ?_;lk;rw[Qb];have q0:0<=y3 % ((os.length:Int)+1):=Q8 _ (by omega);have q1:y3 % ((os.length:Int)+1)<(os.length:Int)+1:=QX _ (by omega);refine i_rI (by show (0:Int)<(os.length:Int)+1;omega) ?_;obtain⟨j,ej⟩:∃j:Nat,y3 % ((os.length:Int)+1)=(j:Int):=⟨(y3 % ((os.length:Int)+1)).toNat,by omega⟩;rw[ej]at q0 q1 ⊢;have jl:j<=os.length:=by omega
  obtain⟨ya,hya⟩:∃y,as[j]?=some y:=⟨as[j]'(by omega),Qd _⟩;have sta:=W.st ya (QP hya);have runj:=W.run j 0 z ya (by omega) W.hd (by rw[Nat.zero_add];exact hya);rw[List.drop_zero]at runj;lk;refine aO (SqL.of hd6) e4 ?_;lk;refine aO (SqL.of hl) (v:=.str ya) (a_ (by rw[Ql,hya];rfl)) ?_;refine aZ ⟨y4,a,li,lg,ins,gvs,gs,ya,rfl,NA6,ok,sta,lens,λov H7 S7 odv=>?_⟩;have ho7:=S7 _ _ ho;lk;refine cJ (SqL.of ho7) λp1 hp1=>?_;rw[gz (by rw[Qb];omega),<-List.map_take];ctx_has H7 p1 H8 S8 r1 ak hp1;lk;refine⟨by simp[sizeLine],λp2 hp2=>?_⟩;ctx_has H8 p2 H9 S9 r2 ak hp2;refine bZ (S9 _ _ r1) r2 (by rw[Qb,Qu];simp;omega) λp3 hp3=>?_;ctx_has H9 p3 H10 S10 r3 ak hp3;have ho10:=(S8.trans (S9.trans S10)) _ _ ho7;lk;refine cJ (SqL.of ho10) λp4 hp4=>?_;rw[dG (by rw[Qb];omega),<-List.map_drop];ctx_has H10 p4 H11 S11 r4 ak hp4;refine bZ (S11 _ _ r3) r4 (by rw[Qi,Qb,Qb,Qu,QU];simp;omega) λp5 hp5=>?_;rw[List.append_assoc,List.singleton_append];ctx_has H11 p5 H12 S12 r5 ak hp5;have S712:=S8.trans (S9.trans (S10.trans (S11.trans S12)));have S612:=S7.trans S712;have odv:=odv.same S712;have rl:((os.take j).map V.str++ov::(os.drop j).map V.str).length<=42:=by rw[Qi,QM,Qb,Qb,Qu,QU];omega
  have ltk:(os.take j).length=j:=by rw[Qu];omega
  generalize hrest:(os.drop j).map V.str=rest at *;have NA12:=NA6.same S612;have NB12:=NB6.same S612;have ho12:=S612 _ _ ho;have hl12:=S612 _ _ hl;have hd12:=S612 _ _ hd6;have SS12:=SS6.trans S612;clear S7 S8 S9 S10 S11 S12 S712 S612 r1 r2 r3 r4 ho7 ho10 NA6 NB6 ho hl hd6 SS6 hp1 hp2 hp3 hp4 hp5;lk;intro p6 hp6;ctx_has H12 p6 H13 S13 r6 ak hp6;have odd:∀{H':Hp} {p:Addr} {rest:List V},aj H12 H'->H' p=some (.lst ((os.take j).map V.str++ov::rest))->rest.length<=50->uW K H' ins gs z (.ref p) j:=λ{H' p rest} S' hp hl=>.inl ⟨p,os.take j,ov,rest,ya,rfl,hp,by rw[Qi,QM,Qb,ltk];omega,runj,ltk,odv.same S'⟩;have restl:rest.length<=42:=by rw[Qi,QM]at rl;omega
  refine aZ ⟨0,a',li',lg',ins,gvs,gs,.str z,.ref p6,rfl,NB12.same S13,ok,by decide,.inr ⟨rfl,z,j,rfl,st,odd S13 r6 (by omega),λH14 S14=>?_⟩⟩;have S124:=S13.trans S14;lk;refine ifF (by simp) ?_;have r54:=S124 _ _ r5;lk;refine⟨by simp[sizeLine],λp7 hp7=>?_⟩;ctx_has H14 p7 H15 S15 r7 ak hp7;refine bZ (S15 _ _ r54) r7 (by simp only[QM,List.length_nil];omega) λp8 hp8=>?_;rw[List.append_assoc,List.cons_append];ctx_has H15 p8 H16 S16 r8 ak hp8;have S1216:=S124.trans (S15.trans S16);refine aZ ⟨0,a',li',lg',ins,gvs,gs,.str z,.ref p8,rfl,NB12.same S1216,ok,by decide,.inr ⟨rfl,z,j,rfl,st,odd S1216 r8 (by rw[Qi];simp;omega),λH17 S17=>?_⟩⟩;have S1217:=S1216.trans S17;lk;refine ifF (by simp) ?_;have hd17:=S1217 _ _ hd12;have ho17:=S1217 _ _ ho12;have hl17:=S1217 _ _ hl12;have r517:=S1217 _ _ r5;have NB17:=NB12.same S1217;have NA17:=NA12.same S1217;have SS17:=SS12.trans S1217;clear S13 S14 S15 S16 S17 S124 S1216 S1217 r54 r6 r7 r8 r5 hd12 ho12 hl12 NA12 NB12 SS12 hp6 hp7 hp8 odd;lk;refine aO (SqL.of hd17) e5 ?_;refine aZ ⟨oa,la,y5,os,as,ins,gs,z,rfl,y50,ho17,hl17,l40,W,λfv H18 S18 rnd=>?_⟩;have hd18:=S18 _ _ hd17;have ho18:=S18 _ _ ho17;have hl18:=S18 _ _ hl17;have NB18:=NB17.same S18;have NA18:=NA17.same S18;have SS18:=SS17.trans S18;have r518:=S18 _ _ r517;clear S18 hd17 ho17 hl17 NA17 NB17 SS17 r517;refine aB ?_;let I27:IvJ:=λσ G=>(∃(x9:Option V) (v10:V) (x11 x12 x13 x14:Option V),σ=[some (.ref sc),some (.ref d),some (.ref a),some (.ref a'),some (.int (0+(i:Int))),some (.str z),some (.ref oa),some (.ref la),some (.int (j:Int)),x9,some v10,x11,x12,x13,x14,x15,x16,x17,x18])/\aj H18 G;with_reducible refine bU I27 (λR hJ=>?_) (λσ19 H19 j19=>?_)
  ·lk;rcases rnd with rfl|⟨t2,ra,rs,n,y,rfl,ht2,hra,rs4,nrs,runr,sty⟩
   ·refine⟨rfl,_,rfl,ifF (by simp) ?_⟩;exact s_next (hJ _ _ ⟨⟨_,_,_,_,_,_,rfl⟩,aj.refl _⟩)
   refine⟨rfl,_,rfl,ifT (by simp) ?_⟩;lk;refine aO (SqL.of hd18) e3 ?_;lk;refine ce (λ_=>?_) (λ_=>s_next (hJ _ _ ⟨⟨_,_,_,_,_,_,rfl⟩,aj.refl _⟩));lk;refine⟨t2,_,rfl,SqT.of ht2,rfl,?_⟩;refine⟨_,_,rfl,aB ⟨_,_,rfl,aB ⟨_,_,rfl,aB ⟨rfl,?_⟩⟩⟩⟩;lk;refine aO (SqL.of hd18) e4 ?_;lk;refine⟨y4,a,li,lg,ins,gvs,gs,y,rfl,NA18,ok,sty,lens,λov2 G1 T1 odv2=>?_⟩;have hr1:=T1 _ _ hra;lk;refine cJ (SqL.of hr1) λp1 hp1=>?_;rw[gz (by rw[Qb];omega),<-List.map_take];ctx_has G1 p1 G2 T2 s1 ak hp1;lk;refine⟨by simp[sizeLine],λp2 hp2=>?_⟩;ctx_has G2 p2 G3 T3 s2 ak hp2;refine bZ (T3 _ _ s1) s2 (by rw[Qb,Qu];simp;omega) λp3 hp3=>?_;ctx_has G3 p3 G4 T4 s3 ak hp3;have hr4:=(T2.trans (T3.trans T4)) _ _ hr1;lk;refine cJ (SqL.of hr4) λp4 hp4=>?_;rw[dG (by rw[Qb];omega),<-List.map_drop];ctx_has G4 p4 G5 T5 s4 ak hp4;refine bZ (T5 _ _ s3) s4 (by rw[Qi,Qb,Qb,Qu,QU];simp;omega) λp5 hp5=>?_;rw[List.append_assoc,List.singleton_append];ctx_has G5 p5 G6 T6 s5 ak hp5;have T26:=T2.trans (T3.trans (T4.trans (T5.trans T6)));have T16:=T1.trans T26;have l3:((rs.take n).map V.str++ov2::(rs.drop n).map V.str).length<=5000:=by rw[Qi,QM,Qb,Qb,Qu,QU];omega
   lk;refine⟨0,a',li',lg',ins,gvs,gs,.str z,.ref p5,rfl,NB18.same T16,ok,by decide,.inr ⟨rfl,z,n,rfl,st,.inl ⟨p5,rs.take n,ov2,_,y,rfl,s5,l3,runr,by rw[Qu];omega,odv2.same T26⟩,λG7 T7=>?_⟩⟩;lk;refine ifF (by simp) ?_;exact s_next (hJ _ _ ⟨⟨_,_,_,_,_,_,rfl⟩,T16.trans T7⟩)
  obtain⟨⟨x9,v10,x11,x12,x13,x14,rfl⟩,S19⟩:=j19;have hd19:=S19 _ _ hd18;have ho19:=S19 _ _ ho18;have hl19:=S19 _ _ hl18;have NB19:=NB18.same S19;have NA19:=NA18.same S19;have SS19:=SS18.trans S19;clear S19 hd18 ho18 hl18 NA18 NB18 SS18 r518 rnd odv;lk;refine⟨by simp[sizeLine],λpt hpt=>?_⟩;ctx_has H19 pt G1 T1 qt ak hpt;have ho1:=T1 _ _ ho19;lk;refine⟨oa,_,rfl,.inl ⟨SqL.of ho1,λpu hpu=>?_⟩⟩;ctx_has G1 pu G2 T2 qu ak hpu;lk;intro pd hpd;ctx_has G2 pd G3 T3 qd ak hpd;lk;refine⟨by simp[sizeLine],λL hL=>?_⟩;generalize hxs:([V.non,_,_,_,_,_,_,_,_,_]:List V)=xs;ctx_has G3 L G4 T4 qL ak hL;have rt:=(T2.trans (T3.trans T4)) _ _ qt;have ru:=(T3.trans T4) _ _ qu;have rd:=T4 _ _ qd;have T14:=T1.trans (T2.trans (T3.trans T4))
  have all:∀x∈xs,pC K G4 x:=by
   rw[<-hxs];simp only[List.forall_mem_cons,List.forall_mem_nil,and_true]
   repeat' (with_reducible apply And.intro)
   all_goals first
    | (intro v hv;exact absurd hv List.not_mem_nil)
    | exact⟨_,.non,rfl⟩
    | exact⟨_,.int _,rfl⟩
    | exact⟨_,.bl _,rfl⟩
    | exact⟨_,.str _,rfl⟩
    | exact⟨_,.tup rt,rfl⟩
    | exact⟨_,.tup ru,rfl⟩
    | exact⟨_,.dK rd,rfl⟩
  have xl:xs.length=10:=by rw[<-hxs];rfl
  have hd20:=T14 _ _ hd19;have ho20:=T14 _ _ ho19;have hl20:=T14 _ _ hl19;have NB20:=NB19.same T14;have NA20:=NA19.same T14;have SS20:=SS19.trans T14;clear hxs T1 T2 T3 T4 T14 qt qu qd rt ru rd ho1 hd19 ho19 hl19 NB19 NA19 SS19;lk;refine aO (SqL.of hd20) e4 ?_;lk;obtain⟨jx,ejx⟩:∃jx:Nat,y4 / 16 % 10=(jx:Int):=⟨(y4 / 16 % 10).toNat,by omega⟩;have hjx:jx<xs.length:=by omega
  rw[ejx];refine aO (v:=xs[jx]) (SqL.of qL) (a_ (Qd hjx)) ?_;have nlx:=all _ (xh hjx);generalize xs[jx]=thing at *;lk;refine⟨0,a',li',lg',ins,gvs,gs,.str z,thing,rfl,NB20,ok,by decide,.inr ⟨rfl,z,0,rfl,st,.inr ⟨nlx,rfl⟩,λG5 T5=>?_⟩⟩;lk;refine ifF (by simp) ?_;have hd21:=T5 _ _ hd20;lk;refine aO (SqL.of hd21) e6 ?_;have wl:(ai ins gs).length=ins.length+gs.length:=by unfold ai;rw[Qi,Qb]
  have i4:=ok.i4;have g7:=ok.g7;have g1:=ok.g1;lk;refine⟨y6,z,(ai ins gs).length,rfl,by omega,by omega,st,λbad G6 T6 bt=>?_⟩;lk;refine⟨by simp[sizeLine],λpe hpe=>?_⟩;ctx_has G6 pe G7 T7 qe ak hpe;lk;refine⟨by simp[sizeLine],λL2 hL2=>?_⟩;ctx_has G7 L2 G8 T8 q8 ak hL2;obtain⟨good,eg⟩:∃v,[V.ref oa,v10,V.ref pe,thing][i]?=some v:=⟨_,Qd (by simpa using hi)⟩;lk;refine aO (SqL.of q8) (i:=0+(i:Int)) (v:=good) (by rw[Int.zero_add];exact a_ eg) ?_;have T58:=T5.trans (T6.trans (T7.trans T8));have bt8:=bt.same (T7.trans T8);have ho22:=T58 _ _ ho20;have hl22:=T58 _ _ hl20;have NB22:=NB20.same T58;have NA22:=NA20.same T58;have SS22:=SS20.trans T58;clear T5 T6 T7 T8 T58 bt qe q8 hd21 hd20 ho20 hl20 NB20 NA20 SS20 qL nlx all;lk;refine⟨by decide,by decide,?_⟩;let I28:IvF:=λq σ G=>(∃x18,σ=[some (.ref sc),some (.ref d),some (.ref a),some (.ref a'),some (.int (0+(i:Int))),some (.str z),some (.ref oa),some (.ref la),some (.int (j:Int)),x9,some v10,x11,x12,x13,x14,some thing,some bad,some good,x18])/\aj G8 G;refine bQ (n:=4) I28 ⟨⟨_,rfl⟩,aj.refl _⟩ (λq σ G hq pw=>?_) (λσ G pw=>?_)
  ·obtain⟨⟨x18,rfl⟩,SG⟩:=pw;refine aB ?_;lk;refine⟨by simp[sizeLine],λL3 hL3=>?_⟩;ctx_has G L3 G9 T9 q9 ak hL3;obtain⟨ov3,eo⟩:∃v,[good,thing,good,V.str z][q]?=some v:=⟨_,Qd (by simpa using hq)⟩;lk;refine aO (SqL.of q9) (i:=0+(q:Int)) (v:=ov3) (by rw[Int.zero_add];exact a_ eo) ?_;have SG9:=SG.trans T9;refine aZ ⟨q,a',li',lg',ins,gvs,gs,bad,ov3,by rw[Int.zero_add],NB22.same SG9,ok,by omega,.inl ⟨.inl (bt8.same SG9),λG10 T10=>?_⟩⟩;lk;refine ifF (by simp) ?_;exact s_next ⟨⟨_,rfl⟩,SG9.trans T10⟩
  obtain⟨⟨x18,rfl⟩,SG⟩:=pw;have bt9:=bt8.same SG;have NB23:=NB22.same SG;lk;refine⟨3,a',li',lg',ins,gvs,gs,.str z,bad,rfl,NB23,ok,by decide,.inl ⟨.inr ⟨rfl,z,rfl,st,bt9⟩,λG1 T1=>?_⟩⟩;lk;refine ifF (by simp) ?_;lk;refine⟨3,a',li',lg',ins,gvs,gs,bad,bad,rfl,NB23.same T1,ok,by decide,.inl ⟨.inl (bt9.same T1),λG2 T2=>?_⟩⟩;lk;refine ifF (by simp) ?_;have T12:=T1.trans T2;have NB24:=NB23.same T12;have SGG:=SG.trans T12;have ho24:=SGG _ _ ho22;have hl24:=SGG _ _ hl22;obtain⟨ye,hye⟩:∃y,as[os.length]?=some y:=⟨as[os.length]'(by omega),Qd _⟩
  have run:Run ins gs z os ye:=by
   have r:=W.run os.length 0 z ye (by omega) W.hd (by rw[Nat.zero_add];exact hye);rw[List.drop_zero,List.take_length]at r;exact r
  lk;intro p7 hp7;ctx_has G2 p7 G3 T3 q7 ak hp7;refine aZ (.inr ⟨a',li',lg',ins,gvs,gs,z,.inl ⟨p7,os,[],ye,rfl,NB24.same T3,ok,st,by rw[List.append_nil];exact q7,by rw[List.append_nil,Qb];omega,run,λ_ G4 T4=>?_,λv r e=>nomatch e⟩⟩);have T34:=T3.trans T4;have hl25:=T34 _ _ hl24;lk;refine aO (SqL.of hl25) (pA hye len) ?_;refine i_ne rfl ?_;refine⟨_,rfl,ifF (by simp) ?_⟩;lk;have S2:=SGG.trans T34;refine⟨a',a,_,_,λ_=>true,rfl,rfl,SqT.of (NB22.same S2).ha,SqT.of (NA22.same S2).ha,oM (NA22.same S2) (NB22.same S2) n1 n2,?_⟩;refine⟨_,rfl,ifF (by simp) ?_⟩;exact s_next ⟨⟨_,_,_,_,_,_,_,_,_,_,_,_,_,_,_,rfl⟩,SS22.trans S2⟩
 obtain⟨⟨x4,x5,x6,x7,x8,x9,x10,x11,x12,x13,x14,x15,x16,x17,x18,rfl⟩,SS⟩:=pv;lk;exact k _
end
end K2
namespace K2
open PySem L2 PySem.Spec PyProof.Rows
variable {A:Type}
theorem rF {us:List A} (h:us.length=1):∃a0,us=[a0]:=by
 match us,h with
 | [a0],_=>exact⟨_,rfl⟩
theorem uC {us:List A} (h:us.length=2):∃a0 a1,us=[a0,a1]:=by
 match us,h with
 | [a0,a1],_=>exact⟨_,_,rfl⟩
theorem uB {us:List A} (h:us.length=3):∃a0 a1 a2,us=[a0,a1,a2]:=by
 match us,h with
 | [a0,a1,a2],_=>exact⟨_,_,_,rfl⟩
theorem uA {us:List A} (h:us.length=4):∃a0 a1 a2 a3,us=[a0,a1,a2,a3]:=by
 match us,h with
 | [a0,a1,a2,a3],_=>exact⟨_,_,_,_,rfl⟩
theorem uz {us:List A} (h:us.length=5):∃a0 a1 a2 a3 a4,us=[a0,a1,a2,a3,a4]:=by
 match us,h with
 | [a0,a1,a2,a3,a4],_=>exact⟨_,_,_,_,_,rfl⟩
structure FX (K:PySem.W.Frag) (n:Str) (i:Nat) (f:Addr) (cd:Value):Prop where
 a:PySem.W.nsIn K mainGlobals n=some (some (.ref f))
 l:∃oc od kV dc pm an ct sl,K.lookup f=some ⟨oc,od,.func (PySem.W.fnOf n n (bM (top i)) (bB (top i)) (ap (top i)) .none kV dc pm an cd ct),sl⟩
 c:PySem.W.codeIn K cd n=true
 k:PySem.W.keepIn K (.ref f)=true
variable {h:Heap} {cd:Value} {f fa:Addr}
theorem FX.fn {K:PySem.W.Frag} {n:Str} {i:Nat} {mg:A2} (X:K.In h) (G:h.Ns mainGlobals mg) (x:FX K n i f cd):∃fd,Fun K n n (top i) f fd/\mg n=some (.ref f):=by
 obtain⟨a,⟨_,_,_,_,_,_,_,_,l⟩,c,k⟩:=x;exact⟨_,oW (st:=top i) l c k,Q9 X G a⟩
abbrev ZN (K:PySem.W.Frag) (n:Str):Prop:=PySem.W.nsIn K mainGlobals n=some none
variable {p:List Value->Prop}
theorem bn1 (h:∀a0,p [a0]) (us:List Value) (hl:us.length=1):p us:=by
 obtain⟨a0,e⟩:=rF hl;subst e;exact h a0
theorem bn2 (h:∀a0 a1,p [a0,a1]) (us:List Value) (hl:us.length=2):p us:=by
 obtain⟨a0,a1,e⟩:=uC hl;subst e;exact h a0 a1
theorem bn3 (h:∀a0 a1 a2,p [a0,a1,a2]) (us:List Value) (hl:us.length=3):p us:=by
 obtain⟨a0,a1,a2,e⟩:=uB hl;subst e;exact h a0 a1 a2
theorem bn4 (h:∀a0 a1 a2 a3,p [a0,a1,a2,a3]) (us:List Value) (hl:us.length=4):p us:=by
 obtain⟨a0,a1,a2,a3,e⟩:=uA hl;subst e;exact h a0 a1 a2 a3
theorem bn5 (h:∀a0 a1 a2 a3 a4,p [a0,a1,a2,a3,a4]) (us:List Value) (hl:us.length=5):p us:=by
 obtain⟨a0,a1,a2,a3,a4,e⟩:=uz hl;subst e;exact h a0 a1 a2 a3 a4
variable {ps loose:List Str}
theorem FX.go (P:Program) (w:World) (base:Heap) {K:PySem.W.Frag} {n:Str} {i k:Nat} {mg:A2} {sp:Sp} (X:K.In h) (G:h.Ns mainGlobals mg) (x:FX K n i f cd) (o:∀fd,Fun K n n (top i) f fd->mg n=some (.ref f)->b9 K fd ps []->FnOk P w K mg base CX0 k f fd ps sp)
  (hb:∀(kV doc pm:Value) (an:Option Addr) (cdv ct:Value) (us:List Value),us.length=ps.length->bindArgs (PySem.W.fnOf n n (bM (top i)) (bB (top i)) (ap (top i)) .none kV doc pm an cdv ct) ⟨us,[]⟩=pure (ps.zip us):=by intro _ _ _ _ _ _;first|exact bn1 λ_=>rfl|exact bn2 λ_ _=>rfl|exact bn3 λ_ _ _=>rfl|exact bn4 λ_ _ _ _=>rfl|exact bn5 λ_ _ _ _ _=>rfl):Fn P w K mg base n ps k sp:=by
 obtain⟨fd,F,m⟩:=x.fn X G;have b:=F.binds hb;exact⟨f,fd,o fd F m b,m,x.k,b⟩
theorem FX.go1 (P:Program) (w:World) (base:Heap) {K:PySem.W.Frag} {n:Str} {i k:Nat} {mg:A2} {sp:Sp} (X:K.In h) (G:h.Ns mainGlobals mg) (x:FX K n i f cd) (o:∀fd,Fun K n n (top i) f fd->mg n=some (.ref f)->b9 K fd ps []->FnOk P w K mg base (CX1 P w) k f fd ps sp)
  (hb:∀(kV doc pm:Value) (an:Option Addr) (cdv ct:Value) (us:List Value),us.length=ps.length->bindArgs (PySem.W.fnOf n n (bM (top i)) (bB (top i)) (ap (top i)) .none kV doc pm an cdv ct) ⟨us,[]⟩=pure (ps.zip us):=by intro _ _ _ _ _ _;first|exact bn1 λ_=>rfl|exact bn2 λ_ _=>rfl|exact bn3 λ_ _ _=>rfl|exact bn4 λ_ _ _ _=>rfl|exact bn5 λ_ _ _ _ _=>rfl):Fn1 P w K mg base n ps k sp:=by
 obtain⟨fd,F,m⟩:=x.fn X G;have b:=F.binds hb;exact⟨f,fd,o fd F m b,m,x.k,b⟩
theorem tf {l:PySem.W.OpenLaw} {w:World} {K:PySem.W.Frag} {mg:A2} (X:K.In h) (G:h.Ns mainGlobals mg) (hfa:mg "law" = some (.ref fa))
  (aT:PySem.W.nsIn K mainGlobals "TURNED" = some (some (.ref 108))) (tab:lr K 108 [("0", .flat (.str "1")),("1", .flat (.str "0"))])
  (x0:FX K "is_row" 10 113 (.ref 112)) (x1:FX K "gates_of" 11 118 (.ref 117)) (x2:FX K "wires_of" 12 125 (.ref 124)) (x3:FX K "is_standing" 13 132 (.ref 131)) (x4:FX K "check_standing" 14 139 (.ref 138)) (x5:FX K "rule_holds" 15 146 (.ref 145)) (x6:FX K "rule_worth" 16 153 (.ref 152)) (x7:FX K "signs_in" 17 160 (.ref 159)) (x8:FX K "turned_at" 18 167 (.ref 166)) (x9:FX K "steps_from" 19 174 (.ref 173)) (x10:FX K "order_end" 21 181 (.ref 180)) (x11:FX K "all_standings" 25 209 (.ref 208)) (x12:FX K "all_rests" 27 221 (.ref 220)) (x13:FX K "shortest_order" 28 228 (.ref 227)) (x14:FX K "_law_draws" 30 235 (.ref 234)) (x15:FX K "_law_names" 31 240 (.ref 239)) (x16:FX K "_law_rule" 32 247 (.ref 246)) (x17:FX K "_law_held" 33 254 (.ref 253)) (x18:FX K "_law_known" 34 259 (.ref 258)) (x19:FX K "_law_deeper" 35 266 (.ref 265)) (x20:FX K "_law_net" 36 273 (.ref 272)) (x21:FX K "_law_standing" 37 278 (.ref 277)) (x22:FX K "_law_holds" 38 285 (.ref 284)) (x23:FX K "_law_asked" 39 290 (.ref 289)) (x24:FX K "_law_order" 40 297 (.ref 296)) (x25:FX K "_law_copy" 41 304 (.ref 303)) (x26:FX K "_law_kinds" 42 309 (.ref 308)) (x27:FX K "_law_bad" 43 316 (.ref 315)) (x28:FX K "_law_odd" 44 321 (.ref 320)) (x29:FX K "_law_round" 45 326 (.ref 325)) (x30:FX K "_law_refused" 46 333 (.ref 332)) (x31:FX K "law" 47 340 (.ref 339))
  (z0:ZN K "len") (z1:ZN K "range") (z2:ZN K "max") (z3:ZN K "min") (z4:ZN K "int") (z5:ZN K "list") (z6:ZN K "str") (z7:ZN K "isinstance") (z8:ZN K "all") (z9:ZN K "set") (z10:ZN K "dict") (z11:ZN K "enumerate") (z12:ZN K "sorted") (z13:ZN K "tuple") (z14:ZN K "bool") (z15:ZN K "zip") (z16:ZN K "reversed") (z17:ZN K "abs")
  (nkNoStanding:PySem.W.nsIn K mainGlobals "NoStanding" = some (some (.ref 37)))
  (nkNoStep:PySem.W.nsIn K mainGlobals "NoStep" = some (some (.ref 57)))
  (nkNoFit:PySem.W.nsIn K mainGlobals "NoFit" = some (some (.ref 69)))
  (nkNoText:PySem.W.nsIn K mainGlobals "NoText" = some (some (.ref 81)))
  (nkNoName:PySem.W.nsIn K mainGlobals "NoName" = some (some (.ref 93)))
  (nkNoRow:PySem.W.nsIn K mainGlobals "NoRow" = some (some (.ref 105)))
  (nkNetError:PySem.W.nsIn K mainGlobals "NetError" = some (some (.ref 24)))
  (nkV:ZN K "ValueError")
  (xmN0:XMk K 37 24)
  (inN0:PySem.W.findIn K (.ref 37) "__init__" = some (some (.builtin "ValueError.__init__")))
  (Z0:KinB K 37 24 37 57 69 81 93 105)
  (ZS:KinB K 57 24 37 57 69 81 93 105)
  (xmS:XMk K 57 24)
  (inS:PySem.W.findIn K (.ref 57) "__init__" = some (some (.ref 54)))
  (iS:∃fd,InitF K 54 fd)
  (atS:PySem.W.findIn K (.ref 57) "at" = some none)
  (e1S:PySem.W.specialIn K (.ref 24) "__getattribute__" = some (some (.builtin "type.__getattribute__")))
  (e2S:PySem.W.readsIn K 24 (.type "type")=true)
  (e3S:PySem.W.findCls K (.ref 24) (.type "type") "__init__" = some (.val (.builtin "ValueError.__init__")))
  : ∃fd:FuncData,(∀(s:Shared) (v:Value),BindsTo s fd ⟨[v],[]⟩ [("script", v)])/\∀base:Heap,K.In base->base.Ns mainGlobals mg->L2.fz base mg->FnOk l.prog w K mg base CX0 15 fa fd ["script"] (lC K ):=by
 have e:=hfa.symm.trans (Q9 X G x31.a);cases e;have T:Txt K mg 108:=⟨Qx X G z0,Qx X G z1,Qx X G z2,Qx X G z3,Qx X G z4,Qx X G z5,Qx X G z6,Qx X G z7,Qx X G z8,Qx X G z9,Qx X G z10,Qx X G z11,Qx X G z12,Qx X G z13,Qx X G z14,Qx X G z15,Qx X G z16,Qx X G z17,Q9 X G aT,tab⟩;have N0:ExcB K mg "NoStanding" 37 24:=⟨xmN0,inN0,Q9 X G nkNoStanding⟩;have NM:NmE mg 57 24:=⟨Q9 X G nkNoStep,Q9 X G nkNetError⟩;have KD:KindsM mg 37 69 81 93 105:=⟨Q9 X G nkNoStanding,Q9 X G nkNoFit,Q9 X G nkNoText,Q9 X G nkNoName,Q9 X G nkNoRow,Qx X G nkV⟩;have DST:(37:Addr)≠57/\(37:Addr)≠69/\(37:Addr)≠81/\(37:Addr)≠93/\(37:Addr)≠105/\(57:Addr)≠69/\(57:Addr)≠81/\(57:Addr)≠93/\(57:Addr)≠105:=by decide
 obtain⟨a31,⟨_,_,kV,dc,pm,an,ct,_,l31⟩,c31,k31⟩:=x31;have m31:=Q9 X G a31;have F31:=oW (st:=top 47) l31 c31 k31;have b31:=F31.binds (ps:=["script"]) λ_ _ _ _ _ _ us hl=>by obtain⟨_,rfl⟩:=rF hl;rfl
 refine⟨PySem.W.fnOf "law" "law" (bM (top 47)) (bB (top 47)) (ap (top 47)) .none kV dc pm an (.ref 339) ct,λs v=>.of_eq rfl,λbase KB _ BM=>?_⟩;obtain⟨fdI,IF⟩:=iS;have NS0:ExcS l.prog w K mg base 57 24 54 fdI:=⟨xmS,inS,IF.fn,qh IF (Q9 X G nkNetError) e1S e2S e3S,IF.bd3,Q9 X G nkNoStep,atS⟩;have g14:=x14.go l.prog w base X G λ_ F _ _=>oF F T;have g15:=x15.go l.prog w base X G λ_ F _ _=>mG F T;have g17:=x17.go l.prog w base X G λ_ F _ _=>qi F T;have g18:=x18.go l.prog w base X G λ_ F _ _=>mI F T g17;have g16:=x16.go l.prog w base X G λ_ F m b=>jP F T m x16.k b 10;have g19:=x19.go l.prog w base X G λ_ F _ _=>mK F T;have g20:=x20.go l.prog w base X G λ_ F _ _=>p_ F T g15 g18 g16 g19;have g25:=x25.go l.prog w base X G λ_ F _ _=>qk F T;have g21:=x21.go l.prog w base X G λ_ F _ _=>mF F T;have g22:=x22.go l.prog w base X G λ_ F m b=>ii F T m x22.k b 10;have g23:=x23.go l.prog w base X G λ_ F _ _=>kG F T g22;have g24:=x24.go l.prog w base X G λ_ F _ _=>oB F T g23;have g28:=x28.go l.prog w base X G λ_ F _ _=>pZ F T g23;have g0:=x0.go l.prog w base X G λ_ F _ _=>sK F T;have g3:=x3.go l.prog w base X G λ_ F _ _=>qg F T g0;have g4:=x4.go l.prog w base X G λ_ F _ _=>jR F T g3;have g1:=x1.go l.prog w base X G λ_ F _ _=>oE F T;have g2:=x2.go l.prog w base X G λ_ F _ _=>oy F T g1;have g7:=x7.go l.prog w base X G λ_ F _ _=>kD F T g2;have g5:=x5.go l.prog w base X G λ_ F m b=>jQ F T m x5.k b 10;have g6:=x6.go l.prog w base X G λ_ F _ _=>ow F T g5;have g8:=x8.go l.prog w base X G λ_ F _ _=>mD F T;have g9:=x9.go l.prog w base X G λ_ F _ _=>oz F T g7 g6 g8;have g0qB:=x0.go l.prog w base X G λ_ F _ _=>pW F T;have g3qB:=x3.go l.prog w base X G λ_ F _ _=>oC F T g0qB;have g4qX:=x4.go1 l.prog w base X G λ_ F _ _=>sL F T N0 g3 g3qB;have g10:=x10.go1 l.prog w base X G λ_ F _ _=>pY F T NS0 g4 g9 g4qX;have g11:=x11.go1 l.prog w base X G λ_ F _ _=>mM F T g4qX;have g12:=x12.go1 l.prog w base X G λ_ F _ _=>jS F T g4qX;have g13:=x13.go1 l.prog w base X G λ_ F _ _=>oG F T g4qX;have g26:=x26.go l.prog w base X G λ_ F _ _=>mJ F T NM KD DST Z0 ZS;have g30:=x30.go l.prog w base X G λ_ F _ _=>pX F T NM atS Z0 ZS g10 g11 g12 g13 g26;have g29:=x29.go l.prog w base X G λ_ F _ _=>oA F T;have g27:=x27.go l.prog w base X G λ_ F _ _=>qm F T;exact qf F31 T g14 g20 g25 g21 g24 g28 g30 g29 g27 g10
theorem u7 {l:PySem.W.OpenLaw} {q:Program} {XP:A2->Heap->Prop} {d:DefRec} {K:Params->PySem.W.Frag} {as:A3} {e:∀P,as=(K P).map (·.1)} (hn:l.most=some 63) (hdf:d.params.defaults=[]) (ok:∀w:World,eO (K w.params) []=true)
  (F:∀(w:World) (mg:A2) (fa:Addr) (h:Heap),(K w.params).In h->h.Ns mainGlobals mg->mg d.name=some (.ref fa) ->
   ∃fd:FuncData,(∀(s:Shared) (u:Value),BindsTo s fd ⟨[u],[]⟩ [("script", u)])/\∀base:Heap,(K w.params).In base->base.Ns mainGlobals mg->L2.fz base mg->FnOk l.prog w (K w.params) mg base CX0 15 fa fd ["script"] (lC (K w.params) )) :
  PySem.W.WalkO q loose XP (PySem.W.kmHook K as e []).says l.row.toRowW d [] (λf vs=>PySem.call f vs) :=
 L2.nE (n:=63) (k:=15) (x := "script") (CX:=λ_=>CX0) (sp:=λw=>lC (K w.params) ) hn (by decide) hdf ⟨rfl,by decide,by decide⟩ ok F (λ_ _ a ns hl hT hS=>⟨a,ns,rfl,hS,hl,λ_=>rfl⟩) λ_ _ _ _ _ z=>z
end K2
open PySem PySem.W PyProof.Rows
set_option maxRecDepth 100000 in
set_option maxHeartbeats 0 in
theorem PySem.Challenge.cw_anydelay_k09_orders_that_are_none_holds : PySem.Challenge.rw_anydelay_k09_orders_that_are_none.Holds := by
 w_on;refine holds_law K2.sd λsaid=>?_
 refine holds_open (q:=K2.vw) (loose:=[("NoStep" : Str),("TURNED" : Str)]) (Xt:=λs=>xlAt K2.vw [] s&&recOk (RowW.records PySem.Challenge.rw_anydelay_k09_orders_that_are_none.row.toRowW) s) (XP:=XL K2.vw []) (Yf:=Hook.obs K2.hk) (Ya:=Hook.val K2.hk) (YP:=Hook.says K2.hk) (N:=5528) K2.left (Hook.of K2.hk) (Hook.keeps K2.hk) (λs e=>xl_of s (Bool.and_eq_true_iff.mp e).1) XL.keeps (by rfl) (by rfl) (by rfl) (λs e=>recFacts_of (Bool.and_eq_true_iff.mp e).2) (by rfl) (by first|assumption|decide +kernel) (by decide +kernel) ⟨rfl,rfl,rfl,rfl,rfl,by decide +kernel⟩ ?hw ?hc
 (case hw=>w_witness2)
 refine K2.u7 (l:=PySem.Challenge.rw_anydelay_k09_orders_that_are_none) (K:=K2.KF) (as:=[3,2,23,24,36,37,47,53,54,56,57,68,69,80,81,92,93,104,105,108,112,113,117,118,124,125,131,132,138,139,145,146,152,153,159,160,166,167,173,174,180,181,187,188,194,195,201,202,208,209,213,214,220,221,227,228,234,235,239,240,246,247,253,254,258,259,265,266,272,273,277,278,284,285,289,290,296,297,303,304,308,309,315,316,320,321,325,326,332,333,339,340]) (e:=λ_=>rfl) rfl rfl (λw=>by kernel_rfl) ?F
 case F =>
  intro w mg fa h KX G hmg;refine' K2.tf KX G hmg ?_ ?_ ?_ ?_ ?_ ?_ ?_ ?_ ?_ ?_ ?_ ?_ ?_ ?_ ?_ ?_ ?_ ?_ ?_ ?_ ?_ ?_ ?_ ?_ ?_ ?_ ?_ ?_ ?_ ?_ ?_ ?_ ?_ ?_ ?_ ?_ ?_ ?_ ?_ ?_ ?_ ?_ ?_ ?_ ?_ ?_ ?_ ?_ ?_ ?_ ?_ ?_ ?_ ?_ ?_ ?_ ?_ ?_ ?_ ?_ ?_ ?_ ?_ ?_ ?_ ?_ ?_ ?_ ?_ ?_ ?_
  all_goals first|exact⟨by kernel_rfl,⟨_,_,_,_,_,_,_,_,rfl⟩,by kernel_rfl,by kernel_rfl⟩|kernel_rfl|rfl|decide|decide +kernel|exact L2.rR (by kernel_rfl) (by kernel_rfl) (by kernel_rfl) (by constructor <;> kernel_rfl)|exact⟨_,⟨_,_,_,_,_,_,_,_,_,_,_,_,_,rfl,rfl,by kernel_rfl,rfl⟩⟩|(constructor <;> first|kernel_rfl|(constructor <;> kernel_rfl))
