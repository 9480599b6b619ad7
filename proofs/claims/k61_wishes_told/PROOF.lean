import PyProof.Rows.All
import Wide.All
import OpenK.AllK
import Wide.FinOn
import Lean
import PyProof.EqAt
import PyProof.EqKinds
import PyProof.TupleCall
import PyProof.NeKinds
import KE.KTabLook
import KE.KIntText
import KE.KUnpack
import PyProof.StrBlock2
import KE.KLam
import KE.KDictLaws
import PyProof.DictWalks
import PyProof.Rows.StrInSeq3
import PyProof.FactsAll.list_1
import PyProof.CompUse
import PyProof.ZipIter
import PyProof.Draws
import PyProof.AttrMissHeap
import PyProof.DictUpdate
import PyProof.ListNew
import PyProof.FactsAll.dict_1
import PyProof.Rows.DictSet
import PyProof.ForAppend
import PyProof.Rows.SortShellK
import PyProof.Rows.SortKeyStr
import KE.KDictSum
import KE.KItemsList
import PyProof.Rows.SortStr
import PyProof.Rows.SeqIn
import PyProof.ListRange
import PyProof.StationsW
import PyProof.RulesAs
import PyProof.ExcClass2
import KE.KTryMore
import PyProof.InstStoreFacts
import PyProof.ExcBaseAll.ValueError
import PyProof.NsDelKeeps
import KE.KEqDict
import KE.KRevSl
import PyProof.Rows.StrNews
import PyProof.StrLawsTight
import KE.KDictList
import PySem.Challenge.RW_anydelay_k61_wishes_told
namespace PySem
abbrev B0:=Value->Shared->Prop
abbrev B1:=List (Addr × Obj)
abbrev B2:=Str->Option Value
abbrev B3:=List Addr
end PySem
set_option linter.all false
set_option maxRecDepth 100000
set_option Elab.async false
abbrev Qa:=@List.length_map
abbrev Qb:=@List.getElem?_eq_getElem
abbrev Qc:=@List.getElem?_eq_some_iff
abbrev Qd:=@List.length_append
abbrev Qe:=@List.getElem?_map
abbrev Qf:=@PySem.Heap.get?_push_of_some
abbrev Qg:=@List.size_toArray
abbrev Qh:=@Nat.le_refl
abbrev Qi:=@PySem.wpAny_bind
abbrev Qj:=@Bool.false_ne_true
abbrev Qk:=@List.mem_append
abbrev Ql:=@PyProof.Rows.wpS_bind
abbrev Qm:=@List.getD_eq_getElem?_getD
abbrev Qn:=@List.mem_of_getElem?
abbrev Qo:=@PySem.Heap.lt_size
abbrev Qp:=@List.mem_singleton
abbrev Qq:=@PyProof.Rows.wpS_pure
abbrev Qr:=@List.map_append
abbrev Qs:=@List.mem_cons_of_mem
abbrev Qt:=@PySem.F.plainAttrs_list
abbrev Qu:=@List.mem_cons
abbrev Qv:=@if_pos
abbrev Qw:=@PySem.Heap.get?_update_other
abbrev Qx:=@Array.getElem?_toList
abbrev Qy:=@Nat.lt_of_lt_of_le
abbrev Qz:=@if_neg
abbrev QA:=@List.mem_append_right
abbrev QB:=@Array.getElem?_eq_some_iff
abbrev QC:=@Array.length_toList
abbrev QE:=@decide_eq_false
abbrev QF:=@List.length_take
abbrev QG:=@List.mem_map
abbrev QH:=@List.mem_iff_getElem
abbrev QI:=@Nat.ne_of_lt
abbrev QJ:=@PySem.wpAny_pure
abbrev QK:=@List.getElem?_append_right
abbrev QL:=@List.map_cons
abbrev QM:=@Array.toList_append
abbrev QN:=@PySem.boot_len
abbrev QO:=@PySem.W.mg_none_of
abbrev QP:=@List.take_of_length_le
abbrev QQ:=@Nat.le_trans
abbrev QR:=@PyProof.Rows.boot_isinstance
abbrev QS:=@PySem.Heap.get?_push_size
abbrev QT:=@List.getElem?_append_left
abbrev QU:=@decide_eq_true
abbrev QV:=@List.lookup_cons
abbrev QW:=@List.idxOf_lt_length_of_mem
abbrev QX:=@Option.map_eq_some_iff
abbrev QY:=@Option.some.inj
abbrev QZ:=@Int.toNat_natCast
abbrev Q0:=@List.append_assoc
abbrev Q2:=@List.eq_nil_of_length_eq_zero
abbrev Q3:=@List.take_append_drop
abbrev Q4:=@List.mem_cons_self
abbrev Q5:=@Nat.zero_le
abbrev Q6:=@List.mem_append_left
abbrev Q7:=@List.pairwise_append
abbrev Q8:=@PySem.F.slot_list_append
abbrev Q9:=@PySem.F.type_list_append
abbrev Xa:=@List.append_nil
abbrev Xb:=@List.nodup_cons
abbrev Xc:=@List.mem_range
abbrev Xd:=@List.length_drop
abbrev Xe:=@List.getElem_mem
abbrev Xf:=@PyProof.Rows.callWith_type1
abbrev Xg:=@PySem.wpAny_mono
abbrev Xh:=@List.length_cons
abbrev Xi:=@List.all_eq_true
abbrev Xj:=@List.length_range
abbrev Xk:=@PySem.W.mg_of
abbrev Xl:=@PyProof.Rows.wpS_forRange
abbrev Xm:=@PySem.Obj.data_mapFields
abbrev Xn:=@PySem.W.kia_one
abbrev Xo:=@List.take_succ
abbrev Xp:=@Bool.and_eq_true
abbrev Xq:=@List.filterMap_cons
abbrev Xr:=@Array.size_append
abbrev Xs:=@Bool.eq_false_iff
abbrev Xu:=@PySem.Heap.get?_update_self
abbrev Xv:=@List.length_set
abbrev Xw:=@PyProof.Rows.KeyOrd.kle_refl
abbrev Xx:=@Bool.false_eq_true
abbrev Xy:=@Nat.add_sub_cancel_left
abbrev Xz:=@Ne.symm
abbrev XA:=@PySem.wpAny_holding
local macro_rules|`(tactic|z_go)=>`(tactic|first|exact .inl rfl|exact .inr rfl|assumption)
noncomputable section
namespace L2
open PySem
def ck (s:Stmt):Arguments:=match s with
 | .FunctionDef _ a _ _ _ _ _ _ _ _=>a
 | _=>{ posonlyargs:=[],args:=[],vararg:=none,kwonlyargs:=[],kw_defaults:=[],kwarg:=none,defaults:=[] }
def bM (s:Stmt):List Stmt:=match s with
 | .FunctionDef _ _ b _ _ _ _ _ _ _=>b
 | _=>[]
def ak (s:Stmt):Scope:=match s with
 | .FunctionDef _ _ _ _ _ _ sc _ _ _=>sc
 | _=>{ kind:=.function,names:=[],isGenerator:=false,isCoroutine:=false }
end L2
namespace K2
open PySem L2 PySem.W
def top (i:Nat):Stmt:=PySem.Challenge.pw_anydelay_k61_wishes_told.main.body.getD i (.Pass ⟨0,0,0,0⟩)
noncomputable def kC (n:Str) (t:Nat) (l a fl:Int) (r:Addr) (x y:Value) (z:Addr) (u:Nat):Obj:={ cls:=.type "code", data:=.fields #[.str n t,.str n (t+1),.str "/claim/cut.py" (t+2),.int l 0,.int a 0,.int 0 0,.int 0 0,.int 3 0,.ref r,.bool true,.int fl 0,.ref (r+1),.none,x,y,.ref z,.int u 0,.int l 0,.str "/claim/cut.py" (u+1)] }
noncomputable def kF (n:Str) (i:Nat) (m:Str) (t:Nat) (c:Addr):Obj:={ cls:=.type "function", data:=.func { name:=n,qualname:=n,params:=ck (top i),body:=.stmts (bM (top i)),scope:=ak (top i),globals:=3,closure:=[],defaults:=.none,kwdefaults:=.none,pyModule:=.str m t,code:=.ref c } }
def kE (P:Params) (x:Str) (t:Nat) (v:Value):DictEntry:={ hash:=PyData.keyHash P x,key:=.str x t,val:=v }
noncomputable def kX (n:Str) (b m:List Value) (d:Addr) (u:List Value) (s:Addr) (t1 t2:Nat) (c:Value):Obj:={ cls:=.type "type", data:=.cls { name:=n,bases:=b,mro:=m,ns:=d,qualname:=n,subclasses:=u },slots:=#[some (.ref s),none,some (.str n t1),some (.str n t2),some c,some (.bool true)] }
noncomputable def KF (P:Params):Frag:=[(3,{ cls:=.type "dict", data:=.dict #[kE P "__name__" 165 (.str "law_anydelay_k61_wishes_told" 430),kE P "__doc__" 166 .none,kE P "__package__" 167 .none,kE P "__loader__" 168 (.builtin "__main__.__loader__#opaque"),kE P "__spec__" 169 .none,kE P "__annotations__" 170 (.ref 6),kE P "__builtins__" 171 (.ref 4),kE P "__file__" 173 (.str "/claim/cut.py" 172),kE P "__cached__" 174 .none,kE P "NetError" 206 (.ref 24),kE P "NoStanding" 222 (.ref 37),kE P "NoStep" 248 (.ref 57),kE P "NoFit" 264 (.ref 69),kE P "NoText" 280 (.ref 81),kE P "NoName" 296 (.ref 93),kE P "NoRow" 312 (.ref 105),kE P "TURNED" 321 (.ref 108),kE P "turned_at" 329 (.ref 115),kE P "found_from" 346 (.ref 122),kE P "row_behind" 357 (.ref 129),kE P "rows_found" 370 (.ref 136),kE P "signs_of" 376 (.ref 141),kE P "outputs_wanted" 384 (.ref 146),kE P "clash_pairs" 390 (.ref 151),kE P "MOST_WIRES" 392 (.int 5 391),kE P "check_can_be_made" 401 (.ref 158),kE P "check_output" 409 (.ref 165),kE P "wishes_of" 421 (.ref 172),kE P "wish_at" 429 (.ref 179),kE P "_law_cell_at" 439 (.ref 186),kE P "_law_stir" 448 (.ref 193),kE P "_law_deck" 460 (.ref 200),kE P "_law_next" 467 (.ref 207),kE P "_law_names" 473 (.ref 212),kE P "_law_shape" 483 (.ref 219),kE P "_law_flip" 491 (.ref 226),kE P "_law_sheet" 497 (.ref 231),kE P "_law_numbered" 503 (.ref 236),kE P "_law_rows" 516 (.ref 243),kE P "_law_outputs_at" 522 (.ref 248),kE P "_law_has_clash" 533 (.ref 255),kE P "_law_wishes" 546 (.ref 262),kE P "_law_copy" 552 (.ref 267),kE P "_law_word" 560 (.ref 274),kE P "_law_asked" 571 (.ref 281),kE P "_law_right" 583 (.ref 288),kE P "law" 595 (.ref 295)] 47 }),
 (23,{ cls:=.type "dict", data:=.dict #[kE P "__module__" 196 (.str "anydelay.errors" 187),kE P "__firstlineno__" 200 (.int 2 199),kE P "__static_attributes__" 201 (.ref 22),kE P "__weakref__" 203 (.ref 25),kE P "__doc__" 204 .none] 3 }),
 (24,kX "NetError" [.type "ValueError"] [.ref 24,.type "ValueError", .type "Exception", .type "BaseException", .type "object"] 23 [.ref 37,.ref 57,.ref 69,.ref 81,.ref 93,.ref 105] 15 189 197 (.builtin "ValueError.__new__")),
 (36,{ cls:=.type "dict", data:=.dict #[kE P "__module__" 214 (.str "anydelay.errors" 187),kE P "__firstlineno__" 218 (.int 4 217),kE P "__static_attributes__" 219 (.ref 35),kE P "__doc__" 220 .none] 2 }),
 (37,kX "NoStanding" [.ref 24] [.ref 37,.ref 24,.type "ValueError", .type "Exception", .type "BaseException", .type "object"] 36 [] 28 207 215 (.builtin "ValueError.__new__")),
 (56,{ cls:=.type "dict", data:=.dict #[kE P "__module__" 230 (.str "anydelay.errors" 187),kE P "__firstlineno__" 234 (.int 6 233),kE P "__init__" 243 (.ref 54),kE P "__static_attributes__" 245 (.ref 55),kE P "__doc__" 246 .none] 2 }),
 (57,kX "NoStep" [.ref 24] [.ref 57,.ref 24,.type "ValueError", .type "Exception", .type "BaseException", .type "object"] 56 [] 40 223 231 (.builtin "ValueError.__new__")),
 (68,{ cls:=.type "dict", data:=.dict #[kE P "__module__" 256 (.str "anydelay.errors" 187),kE P "__firstlineno__" 260 (.int 11 259),kE P "__static_attributes__" 261 (.ref 67),kE P "__doc__" 262 .none] 2 }),
 (69,kX "NoFit" [.ref 24] [.ref 69,.ref 24,.type "ValueError", .type "Exception", .type "BaseException", .type "object"] 68 [] 60 249 257 (.builtin "ValueError.__new__")),
 (80,{ cls:=.type "dict", data:=.dict #[kE P "__module__" 272 (.str "anydelay.errors" 187),kE P "__firstlineno__" 276 (.int 13 275),kE P "__static_attributes__" 277 (.ref 79),kE P "__doc__" 278 .none] 2 }),
 (81,kX "NoText" [.ref 24] [.ref 81,.ref 24,.type "ValueError", .type "Exception", .type "BaseException", .type "object"] 80 [] 72 265 273 (.builtin "ValueError.__new__")),
 (92,{ cls:=.type "dict", data:=.dict #[kE P "__module__" 288 (.str "anydelay.errors" 187),kE P "__firstlineno__" 292 (.int 15 291),kE P "__static_attributes__" 293 (.ref 91),kE P "__doc__" 294 .none] 2 }),
 (93,kX "NoName" [.ref 24] [.ref 93,.ref 24,.type "ValueError", .type "Exception", .type "BaseException", .type "object"] 92 [] 84 281 289 (.builtin "ValueError.__new__")),
 (104,{ cls:=.type "dict", data:=.dict #[kE P "__module__" 304 (.str "anydelay.errors" 187),kE P "__firstlineno__" 308 (.int 17 307),kE P "__static_attributes__" 309 (.ref 103),kE P "__doc__" 310 .none] 2 }),
 (105,kX "NoRow" [.ref 24] [.ref 105,.ref 24,.type "ValueError", .type "Exception", .type "BaseException", .type "object"] 104 [] 96 297 305 (.builtin "ValueError.__new__")),
 (108,{ cls:=.type "dict", data:=.dict #[kE P "0" 315 (.str "1" 316),kE P "1" 317 (.str "0" 318)] 2 }),
 (114,kC "turned_at" 322 21 2 181 109 (.ref 111) (.ref 112) 113 327),
 (115,kF "turned_at" 10 "anydelay.nets" 313 114),
 (121,kC "found_from" 332 24 2 181 116 (.ref 118) (.ref 119) 120 344),
 (122,kF "found_from" 12 "anydelay.orders" 330 121),
 (128,kC "row_behind" 349 40 3 181 123 (.ref 125) (.ref 126) 127 355),
 (129,kF "row_behind" 14 "anydelay.sheets" 347 128),
 (135,kC "rows_found" 358 42 1 181 130 (.ref 132) (.ref 133) 134 368),
 (136,kF "rows_found" 15 "anydelay.sheets" 347 135),
 (140,kC "signs_of" 371 49 1 181 137 .none .none 139 374),
 (141,kF "signs_of" 16 "anydelay.sheets" 347 140),
 (145,kC "outputs_wanted" 379 53 2 181 142 .none .none 144 382),
 (146,kF "outputs_wanted" 18 "anydelay.clashes" 377 145),
 (150,kC "clash_pairs" 385 56 1 181 147 .none .none 149 388),
 (151,kF "clash_pairs" 19 "anydelay.clashes" 377 150),
 (157,kC "check_can_be_made" 395 67 1 181 152 (.ref 154) (.ref 155) 156 399),
 (158,kF "check_can_be_made" 22 "anydelay.making" 393 157),
 (164,kC "check_output" 402 70 2 181 159 (.ref 161) (.ref 162) 163 407),
 (165,kF "check_output" 23 "anydelay.making" 393 164),
 (171,kC "wishes_of" 410 73 2 181 166 (.ref 168) (.ref 169) 170 419),
 (172,kF "wishes_of" 24 "anydelay.making" 393 171),
 (178,kC "wish_at" 422 80 2 181 173 (.ref 175) (.ref 176) 177 427),
 (179,kF "wish_at" 25 "anydelay.making" 393 178),
 (185,kC "_law_cell_at" 432 85 2 181 180 (.ref 182) (.ref 183) 184 437),
 (186,kF "_law_cell_at" 27 "law_anydelay_k61_wishes_told" 430 185),
 (192,kC "_law_stir" 440 89 2 181 187 (.ref 189) (.ref 190) 191 446),
 (193,kF "_law_stir" 28 "law_anydelay_k61_wishes_told" 430 192),
 (199,kC "_law_deck" 449 93 2 181 194 (.ref 196) (.ref 197) 198 458),
 (200,kF "_law_deck" 29 "law_anydelay_k61_wishes_told" 430 199),
 (206,kC "_law_next" 461 103 1 181 201 (.ref 203) (.ref 204) 205 465),
 (207,kF "_law_next" 30 "law_anydelay_k61_wishes_told" 430 206),
 (211,kC "_law_names" 468 107 2 181 208 .none .none 210 471),
 (212,kF "_law_names" 31 "law_anydelay_k61_wishes_told" 430 211),
 (218,kC "_law_shape" 474 110 2 181 213 (.ref 215) (.ref 216) 217 481),
 (219,kF "_law_shape" 32 "law_anydelay_k61_wishes_told" 430 218),
 (225,kC "_law_flip" 484 117 2 181 220 (.ref 222) (.ref 223) 224 489),
 (226,kF "_law_flip" 33 "law_anydelay_k61_wishes_told" 430 225),
 (230,kC "_law_sheet" 492 119 4 181 227 .none .none 229 495),
 (231,kF "_law_sheet" 34 "law_anydelay_k61_wishes_told" 430 230),
 (235,kC "_law_numbered" 498 144 2 181 232 .none .none 234 501),
 (236,kF "_law_numbered" 35 "law_anydelay_k61_wishes_told" 430 235),
 (242,kC "_law_rows" 504 152 1 181 237 (.ref 239) (.ref 240) 241 514),
 (243,kF "_law_rows" 36 "law_anydelay_k61_wishes_told" 430 242),
 (247,kC "_law_outputs_at" 517 163 2 181 244 .none .none 246 520),
 (248,kF "_law_outputs_at" 37 "law_anydelay_k61_wishes_told" 430 247),
 (254,kC "_law_has_clash" 523 165 1 181 249 (.ref 251) (.ref 252) 253 531),
 (255,kF "_law_has_clash" 38 "law_anydelay_k61_wishes_told" 430 254),
 (261,kC "_law_wishes" 534 174 2 181 256 (.ref 258) (.ref 259) 260 544),
 (262,kF "_law_wishes" 39 "law_anydelay_k61_wishes_told" 430 261),
 (266,kC "_law_copy" 547 184 1 181 263 .none .none 265 550),
 (267,kF "_law_copy" 40 "law_anydelay_k61_wishes_told" 430 266),
 (273,kC "_law_word" 553 186 1 181 268 (.ref 270) (.ref 271) 272 558),
 (274,kF "_law_word" 41 "law_anydelay_k61_wishes_told" 430 273),
 (280,kC "_law_asked" 561 192 2 181 275 (.ref 277) (.ref 278) 279 569),
 (281,kF "_law_asked" 42 "law_anydelay_k61_wishes_told" 430 280),
 (287,kC "_law_right" 572 202 2 181 282 (.ref 284) (.ref 285) 286 581),
 (288,kF "_law_right" 43 "law_anydelay_k61_wishes_told" 430 287),
 (294,kC "law" 584 219 1 181 289 (.ref 291) (.ref 292) 293 593),
 (295,kF "law" 44 "law_anydelay_k61_wishes_told" 430 294)]
noncomputable def hk:Hook:=kmHook KF [3,23,24,36,37,56,57,68,69,80,81,92,93,104,105,108,114,115,121,122,128,129,135,136,140,141,145,146,150,151,157,158,164,165,171,172,178,179,185,186,192,193,199,200,206,207,211,212,218,219,225,226,230,231,235,236,242,243,247,248,254,255,261,262,266,267,273,274,280,281,287,288,294,295] (λ_=>rfl) [131]
noncomputable def vw:Program:={ PySem.Challenge.pw_anydelay_k61_wishes_told with main:={ PySem.Challenge.pw_anydelay_k61_wishes_told.main with body:=[1,2,3,4,5,6,7,9,10,12,14,15,16,18,19,20,22,23,24,25,27,28,29,30,31,32,33,34,35,36,37,38,39,40,41,42,43,44].map top } }
def LW (w:World):Prop:=(openEnds treeTable PySem.Challenge.rw_anydelay_k61_wishes_told.prog w 5114).map (λs=>(openSeen vw [("NoStep" : Str),("TURNED" : Str)] (importedModules PySem.Challenge.rw_anydelay_k61_wishes_told.prog.main.body) (λs=>xlAt vw [] s&&recOk (RowW.records PySem.Challenge.rw_anydelay_k61_wishes_told.row.toRowW) s) true s,Hook.obs hk s))=some (openGood vw [("NoStep" : Str),("TURNED" : Str)],Hook.val hk w)
set_option maxHeartbeats 0 in
theorem sd:PySem.Challenge.rw_anydelay_k61_wishes_told.wellSaid=true:=by kernel_rfl
set_option maxHeartbeats 0 in
theorem Aw:∀w:World,LW (w.withFollow "special-get-raises" false):=λw=>by unfold LW;kernel_rfl
set_option maxHeartbeats 0 in
theorem Av:∀w:World,LW (w.withFollow "special-get-raises" true):=λw=>by unfold LW;kernel_rfl
theorem left:LeftO PySem.Challenge.rw_anydelay_k61_wishes_told.prog vw [("NoStep" : Str),("TURNED" : Str)] (λs=>xlAt vw [] s&&recOk (RowW.records PySem.Challenge.rw_anydelay_k61_wishes_told.row.toRowW) s) (Hook.obs hk) (Hook.val hk) 5114:=λw=>byRow2 (P:=LW) "special-get-raises" Aw Av w
end K2
section
variable {a b c d e f g h i j k l m n x r lo:Nat}
local macro_rules | `(tactic|kd_p) => `(tactic| (intros; first | solve_by_elim (maxDepth := 3) [Nat.le_of_lt, Qy, Nat.lt_of_le_of_lt, QQ, Nat.lt_of_not_ge, Nat.lt_of_not_le, Nat.le_of_not_lt, Nat.ge_of_not_lt, Nat.le_add_right, Nat.le_add_left, Nat.sub_le, Nat.lt_succ_self, Nat.le_succ, Nat.add_le_add_left, Nat.add_le_add_right, Nat.add_lt_add_left, Nat.add_lt_add_right, Nat.succ_le_of_lt, Nat.lt_of_succ_le, Nat.le_of_eq, Nat.le_antisymm, Nat.lt_of_le_of_ne, Qh, Q5, Nat.sub_lt, Nat.succ_le_succ, Nat.lt_succ_of_le, Nat.le_of_lt_succ, Eq.symm, Eq.trans] | (subst_vars; solve_by_elim (maxDepth := 3) [Nat.le_of_lt, Qy, Nat.lt_of_le_of_lt, QQ, Nat.lt_of_not_ge, Nat.lt_of_not_le, Nat.le_of_not_lt, Nat.ge_of_not_lt, Nat.le_add_right, Nat.le_add_left, Nat.sub_le, Nat.lt_succ_self, Nat.le_succ, Nat.add_le_add_left, Nat.add_le_add_right, Nat.add_lt_add_left, Nat.add_lt_add_right, Nat.succ_le_of_lt, Nat.lt_of_succ_le, Nat.le_of_eq, Nat.le_antisymm, Nat.lt_of_le_of_ne, Qh, Q5, Nat.sub_lt, Nat.succ_le_succ, Nat.lt_succ_of_le, Nat.le_of_lt_succ, Eq.symm, Eq.trans])))
theorem om0:a<=b->¬a<b->a=b:=by grind
theorem om1:a-b<=a-b:=by simp_all
theorem om2:¬b<a->a<=b:=by kd_p
theorem om3:c=b->b=d->a<c->a<b:=by kd_p
theorem om4:c<=b->c=a->a<=b:=by kd_p
theorem om5:a+1≠a:=by simp_all
theorem om6:b<a->a-(b+1)<a-b:=by omega
theorem om7:c=d->c=a->d=b->a=b:=by kd_p
theorem om8:a+(c+1)<b->a<b:=by grind
theorem om9:b=c->b=d->c=e->a<d->a<b:=by intros;simp_all
theorem Bz:c=b->c=d->b=e->a<d->a<b:=by intros;simp_all
theorem Ak:a+(b+1)<c->a+1+b<c:=by omega
theorem tY:b=c->a<c->a<b:=by kd_p
theorem zW:a<c->b=c->a<b:=by kd_p
theorem zL:c=a->d=b->c=d->a=b:=by kd_p
theorem rS:a+64<b->a<b:=by grind
theorem wA:a+64<b->a+1+8<b:=by grind
theorem nC:c=b->a<c->a<b:=by kd_p
theorem wz:b<=100000->a=b->a<=16777216:=by grind
theorem By:b<=a->a<=c->a-b<=c-0:=by grind
theorem Bx:a<b->a+(b-a) / 2+1<=b:=by grind
theorem Bw:a<b+(c-b) / 2+1->a<=b+(c-b) / 2:=by kd_p
theorem Bv:b<=c->a<b->a+(b-a) / 2<c:=by grind
theorem Bu:a<=a+(b-a) / 2:=by kd_p
theorem Bt:b<=c->a<b->a+(b-a) / 2<=c:=by omega
theorem yn:a<=b->b-a<=c-max 0 c->a=b:=by grind
theorem Bs:a<b->a+0<b:=by kd_p
theorem yh:a<c->¬b>=c-a->a+b<c:=by grind
theorem yd:a<2*a+1:=by grind
theorem Br:a<d->b<c->a+b<d->a+b+1<=a+min c (d-a):=by grind
theorem Bq:a<c->a+min b (c-a)<=c:=by grind
theorem Bp:a<b+c+1->a<=b+c:=by kd_p
theorem Bo:a<d->a+min b (d-a)<=c->b<d-a->a+b<=c:=by grind
theorem wy:a<=b->a>=b->a=b:=by grind
theorem yc:b<=c->¬a>=b->a+(b-a) / 2<c:=by grind
theorem tX:¬a>=b->a<b:=by kd_p
theorem wx:0<=a:=by kd_p
theorem Bn:a<c->d<b->¬b>=a+1->a-b<c:=by grind
theorem Bm:¬a>=b+1->a<=b:=by kd_p
theorem Bl:c<b->c<=a->a+1-min b (a+1)<=a-c:=by omega
theorem Bk:a<c->b<=a->a-b<=c:=by grind
theorem Bj:a<b+1-min c (b+1)->c<b+1->a<=b-c:=by grind
theorem Bi:a<c->d<b->b<a+1->a-b<c:=by grind
theorem Bh:a+1=b->a<b:=by kd_p
theorem Bg:a+b+1=a+(b+1):=by kd_p
theorem rR:a<=b->a+1<=b+1:=by kd_p
theorem Be:a+b+1=a+1+b:=by grind
theorem yb:a<min b c->a<min b c:=by kd_p
theorem tW:a<min b c->a<b:=by grind
theorem ya:a+b<=c->min (a+b) c-a=b:=by intros;simp_all
theorem Bd:a+b+c=a+c+b:=by grind
theorem x_:c=d->a<=b->a<=b+c:=by grind
theorem Bc:a+b+c=a+(b+c):=by grind
theorem xZ:a<=b->¬a=b->a<b:=by grind
theorem xY:a+d<=c->b<d->a+b<c:=by grind
theorem Bb:a+d<=c->b<=e->e<d->a+b<c:=by grind
theorem rQ:a<=a+b:=by kd_p
theorem Ba:b<=c->a+b<=a+c:=by kd_p
theorem A_:b<c->a+b<a+c:=by kd_p
theorem rP:1<=a->0<a:=by kd_p
theorem xX:1<=a->0<=a:=by kd_p
theorem A9:1<=a->¬0+1=a->0+1<a:=by grind
theorem A8:1<=b->1<=a->¬1=a->¬0+1=b->1<a:=by grind
theorem ww:a+1<b->a<b:=by kd_p
theorem wv:a<b->¬a+1=b->a+1<b:=by omega
theorem tV:a+1+(b+1)<=a+1+b+1:=by kd_p
theorem xW:a+1<b->¬a+1+1=b->a+1+1<b:=by omega
theorem A7:a+1<b->a+(b-a)<=b:=by grind
theorem A6:b+1<a->0<a-b:=by grind
theorem A5:a<b->a+1+(b-(a+1))<=b:=by omega
theorem A4:b<a->¬b+1=a->0<a-(b+1):=by omega
theorem xV:a+1+(b+1)<=a+1+b+1+1:=by kd_p
theorem A3:a<c->b<=c-(a+1)->a+1+b<=c:=by grind
theorem xU:¬a>0->a=0:=by simp
theorem A2:b<a->¬b+1=a->0<=a-(b+1)->0<a-(b+1):=by grind
theorem A1:a+1<c->b<=c-a->a+b<=c:=by grind
theorem A0:b+1<a->0<=a-b->0<a-b:=by omega
theorem AZ:1<=a->a=a-1+1:=by intros;simp_all
theorem xT:1<=a->a<=b->a-1<=b:=by grind
theorem AY:1<=b->a+b+c=d+e->a+1+(b-1)+c=d+e:=by grind
theorem AX:1<=c->a+b+c=d+e->a+1+b+(c-1)=d+e:=by grind
theorem AW:a<min b c-d->a<min b c-d:=by intros;simp_all
theorem xS:b<min c d-a->a+b<c:=by omega
theorem xR:c<=a->a<=b->min a b-c=a-c:=by intros;simp_all
theorem xQ:a<=c->c<=b->a<=b:=by grind
theorem xP:c=d-e->a<=b->a<=b+c:=by grind
theorem pL:1<=a->a-1<a:=by grind
theorem AV:1<=b->1<=c->¬a=0->¬c=1->1<=a:=by grind
theorem wu:1<=a->a<=b->a-1<b:=by omega
theorem wt:2<=a->a<=b->a-1<b:=by grind
theorem rO:2<=a->1<=a:=by kd_p
theorem xG:1<=a->¬a-1=0->1<=a-1:=by omega
theorem xF:2<=a->¬a-1=1->2<=a-1:=by grind
theorem AU:a<=b->0+a<=b:=by grind
theorem AT:2<=a->a<=b->0+(a-1)<=b:=by grind
theorem AS:2<=a->a-1-1<a-1:=by grind
theorem AR:a<=b-1->a<=b-1:=by kd_p
theorem AQ:¬a=1->¬a=0->2<=a:=by grind
theorem AO:2<=a->c=a-1-b->¬c>0->a-1-1<b:=by omega
theorem wq:a<=b->a<=b:=by simp
theorem Ap:¬a=0->1<=a:=by grind
theorem Ao:1<=a->c=a-b->¬c>0->a-1<b:=by omega
theorem An:a<=b->b<1->a=b:=by intros;simp_all
theorem vz:a<b+1->¬a<b->a=b:=by grind
theorem vv:a<=b->1<=b->¬a=b->a<=b-1:=by grind
theorem vt:1<=b->b<=a->1<=a:=by omega
theorem rV:a<b->a<=b:=by kd_p
theorem Am:a<=b->max a b=b:=by intros;simp_all
theorem Al:d<=a->b<d->¬(a<=b/\b<c):=by grind
theorem vq:1<=b->a+b-1=a+(b-1):=by grind
theorem Aj:a<=b->¬a=b->max (a+1) b=b:=by grind
theorem oI:a+d<=e->b<d->c=e->a+b<c:=by omega
theorem Ai:c+1<=b->a+b-1=a+(b-1):=by grind
theorem rT:b+1<=a->1<=a:=by grind
theorem vp:c+1<=b->a<=a+b-(c+1):=by omega
theorem Ah:a+d<=e->b<d->c=e->a+b<=c:=by grind
theorem vn:0+1<=a+1:=by kd_p
theorem Ag:b+1-(0+1)<=a->a<b+1->a=b+1-1:=by grind
theorem Af:a+1<=b->a+1+1<=b+1:=by kd_p
theorem Ae:a+1-1=a:=by kd_p
theorem Ad:a<b+1->¬a=b->a<b:=by omega
theorem Ac:a+d<=e->b<=d->f=e->c=e->a+b<=c:=by grind
theorem Ab:b<=d->d<c->a<=a+b/\a+b<a+c:=by grind
theorem Aa:b<c->a<=a+b/\a+b<a+c:=by intros;simp_all
theorem z_:c<=b->b<a->a-1-b<=a-1-c:=by omega
theorem zZ:b<=c->c<a->a-1-b<a:=by grind
theorem zY:b+1<=c->c<=a->1<=a:=by grind
theorem zX:a+d<=e->b<=d->c=e->a+b<=c:=by grind
theorem zV:1<=c->a+c<=b->a<b:=by grind
theorem zU:b>1->a+b-1=a+(b-1):=by grind
theorem zT:b>1->a<b->a<=b-1:=by grind
theorem zS:a>1->a-1<a:=by omega
theorem zR:a+d<=c->b<=d->a+b<=c:=by grind
theorem zQ:a<=c->c<b->a<b:=by grind
theorem zP:1<=c->¬c>1->a<=b->b<c->a=b:=by grind
theorem zO:a<=b->b<min (max c 1) d->c=0->a=b:=by grind
theorem zN:b<=c->a<min (max b 1) c->¬b=0->a<b:=by grind
theorem zM:min (max (max a 1) b) b=b:=by grind
theorem zK:a<b->min a b=a:=by grind
theorem zJ:a<=a:=by simp
theorem zI:a-0<=a-0:=by kd_p
theorem zH:¬a>=b->a<=(a+b) / 2:=by grind
theorem zF:b<=c->¬a>=b->(a+b) / 2<=c:=by grind
theorem zE:¬a>=b->(a+b) / 2+1<=b:=by omega
theorem zD:a<(b+c) / 2+1->a<=(b+c) / 2:=by kd_p
theorem zC:b<=c->¬a>=b->(a+b) / 2<c:=by omega
theorem zB:c<=b->d<a->a+b-(a+c)<=a+b:=by kd_p
theorem zw:d<=c->a<b->¬a=b+c-(b+c-(b+d)):=by omega
theorem zu:a<b->min (a+1) b=a+1:=by grind
theorem vm:c<=b->a+b-(a+c)<=a+b:=by kd_p
theorem zt:c<=b->a+b-(a+b-(a+c))=a+c:=by grind
theorem zq:c<b->a+b-1=a+(b-1):=by grind
theorem vj:b<c->¬a+b=a+c:=by grind
theorem vi:c<b->¬(a+b<a+c/\a+c<=a+d):=by grind
theorem zp:c<=b->a<b+1->a<c->a<b:=by grind
theorem vh:b=c->a+b=a+c:=by kd_p
theorem vg:¬b=c->¬a+b=a+c:=by simp
theorem vf:¬b<a->¬b=a->a<b:=by grind
theorem zo:a<=b->a<c->¬b<c->a<=b-1:=by grind
theorem zn:c<=b->d<=a->a<b+1->d<c->a-1<b:=by omega
theorem zm:d=c->b=c->a+b=a+c:=by kd_p
theorem zk:d=c->¬b=c->¬a+b=a+c:=by intros;simp_all
theorem zj:c<=b->c=a->¬b=a->a<b:=by omega
theorem zi:c<=b->c=a->¬b=a->a<=b-1:=by grind
theorem zh:c<=a->a<b+1->c=d->¬a=d->a-1<b:=by grind
theorem zg:d<=b->¬d<c->¬d=c->¬a+b=a+c:=by grind
theorem ze:c<=b->¬c<a->¬c=a->a<b:=by grind
theorem zd:a<=b->a-1<=b-1:=by omega
theorem zc:c<=a->a<b+1->¬c<d->¬c=d->a-1<b:=by grind
theorem zb:c=a+b->¬a+b<c:=by intros;simp_all
theorem za:c=a+b->a+b-c=0:=by intros;simp_all
theorem y_:a=b+c->a+1=b+(c+1):=by kd_p
theorem yZ:¬a+1<a:=by simp
theorem yY:1<=b->d=a+(b+(e+f))->a<=a+b+c:=by grind
theorem yX:1<=a->d=b+(a+(e+f))->a<=b+a+c-b:=by grind
theorem yW:a+b+c-a-b=c:=by grind
theorem yV:1<=b->c=d+(b+(e+f))->a<b->a<=b-1:=by grind
theorem yU:1<=d->c=a+(b+(d+e))->a+b<=c:=by kd_p
theorem yT:1<=a->b=c+(a+(d+e))->0<a:=by kd_p
theorem yS:a<=b->a+(b-a)=b:=by intros;simp_all
theorem yR:a<=c->c<=b->a+(b-a)=b:=by grind
theorem yQ:b<=a->a<=c->a-b<=c-b:=by grind
theorem yP:c=d+(b+(e+f))->g<=b->a<g->a<b:=by grind
theorem yO:1<=a->b=c+(a+(d+e))->a-1<a:=by grind
theorem yN:d=a+(b+(c+e))->a+b+c<=d:=by grind
theorem yM:c<=b->a<c->a<b:=by grind
theorem yL:a=0->a<=b:=by intros;simp_all
theorem yK:d=a+(c+(e+f))->b<=c->a+min b c=a+b+0:=by intros;simp_all
theorem yJ:c<=d->e=c->a-b+min c d=a-b+c:=by intros;simp_all
theorem yI:c=d->d<=b->a<d->a<=b:=by grind
theorem yH:a<c->c<=b->a<=b:=by grind
theorem ve:a<min b (c-d)->a<b:=by grind
theorem yG:a+1<b->min a b=a:=by grind
theorem yF:b=c+a->max 0 b<=c->a=0:=by grind
theorem yE:b=c->c=d+a->d>=c->a=0:=by grind
theorem yD:c=d->¬b>=d->d=b->a<=b:=by kd_p
theorem yC:c=a->a=b+d->¬b>=a->1<=a-b:=by grind
theorem yB:c=b->b=a+d->¬a>=b->a+(b-a)<=c:=by intros;simp_all
theorem yA:a<=c->1<=d->e=c->b=c+d->a+1<=b:=by grind
theorem yz:a=b->a>1->a-2+1<b:=by grind
theorem yy:a=c+d->a+b=c+(d+b):=by grind
theorem yx:a<=c->b≠0->a+1<=b+c:=by grind
theorem yw:b=c->a<=c->a+0<=b+1:=by kd_p
theorem yu:b=a->b<=1->a<=1:=by kd_p
theorem yt:b=c->a+max 0 b<=b+1->a<=1:=by grind
theorem vd:a<=100000->a<=16777216:=by grind
theorem yr:a<=100000->b=a->b<2->a<=16777216+1:=by grind
theorem yq:a<=100000->b=a->¬b<2->2<=a:=by kd_p
theorem yp:a<=100000->b=a->¬b<2->a<=16777216+1:=by grind
theorem yo:a<=d+c->d<=b+1->a<=b+(c+1):=by grind
theorem ym:a<=a+1:=by simp
theorem yk:b-a=0->a<=b->a=b:=by grind
theorem yj:b-a=c+1->a<=b->a<b:=by grind
theorem yi:c<=b->a<=d->d<c->a<=b:=by grind
theorem yg:a-b=c+1->b<a->a-(b+1)=c:=by grind
theorem yf:a<b->a+1<=b:=by kd_p
theorem ye:a-b=c+1->b<a->a-b=a-(b+1)+1:=by omega
theorem xO (h:k-l<=n-x):k-(l+(k-l)/2+1)<=n-(x+1):=by rw[Nat.add_assoc,<-Nat.sub_sub,<-Nat.sub_sub n x 1];exact QQ (Nat.sub_le_sub_left (Nat.le_add_left 1 _) _) (Nat.sub_le_sub_right h 1)
theorem xN (h:k-l<=n-x) (e:l<k):l+(k-l)/2-l<=n-(x+1):=by rw[Xy,<-Nat.sub_sub n x 1];exact QQ (Nat.le_sub_one_of_lt (Nat.div_lt_self (Nat.sub_pos_of_lt e) (by decide))) (Nat.sub_le_sub_right h 1)
theorem xM (h:r-l<=k-x) (c:¬l>=r):r-((l+r)/2+1)<=k-(x+1):=by rw[<-Nat.sub_sub,<-Nat.sub_sub k x 1];exact Nat.sub_le_sub_right (QQ (Nat.sub_le_sub_left ((Nat.le_div_iff_mul_le (by decide)).mpr (by rw[Nat.mul_two];exact Nat.add_le_add_left (Nat.le_of_lt (Nat.lt_of_not_ge c)) _)) _) h) 1
theorem xL (h:r-l<=k-x) (c:¬l>=r):(l+r)/2-l<=k-(x+1):=by rw[<-Nat.sub_sub k x 1];refine QQ ?_ (Nat.sub_le_sub_right h 1);rw[Nat.sub_sub,Nat.add_comm l 1,<-Nat.sub_sub];exact Nat.sub_le_sub_right (Nat.le_sub_one_of_lt ((Nat.div_lt_iff_lt_mul (by decide)).mpr (by rw[Nat.mul_two];exact Nat.add_lt_add_right (Nat.lt_of_not_ge c) _))) _
theorem u_ (h:d<=x) (q:lo+x-d<=lo+i/\lo+i<lo+x):lo+x-d+(lo+x)-1-(lo+i)=lo+(x-d+x-1-i)/\x-d<=x-d+x-1-i/\x-d+x-1-i<x/\x-d<=i/\i<x:=by obtain⟨y,rfl⟩:∃y,x=y+d:=⟨x-d,(Nat.sub_add_cancel h).symm⟩;have e:lo+(y+d)-d=lo+y:=(by rw[<-Nat.add_assoc,Nat.add_sub_cancel]);rw[e]at q;rw[e,Nat.add_sub_cancel];obtain⟨p,rfl⟩:∃p,i=y+p:=⟨i-y,(Nat.add_sub_of_le (Nat.le_of_add_le_add_left q.1)).symm⟩;have l:=Nat.lt_of_add_lt_add_left (Nat.lt_of_add_lt_add_left q.2);obtain⟨z,rfl⟩:∃z,d=p+1+z:=⟨d-(p+1),(Nat.add_sub_of_le l).symm⟩;have t:∀u:Nat,u+y+(u+(y+(p+1+z)))-1-(u+(y+p))=u+(y+z):=(λu=>by rw[show u+y+(u+(y+(p+1+z)))=u+(y+p)+(u+(y+z))+1 by ac_rfl,Nat.add_sub_cancel,Xy]);have t0:=t 0;simp only[Nat.zero_add]at t0;rw[t,t0];exact⟨rfl,Nat.le_add_right _ _,by omega,Nat.le_add_right _ _,Nat.add_lt_add_left l _⟩
theorem rN (q:i<n):lo+(lo+n)-1-(lo+i)=lo+(n-1-i):=by obtain⟨p,rfl⟩:∃p,n=i+1+p:=⟨n-(i+1),(Nat.add_sub_of_le q).symm⟩;rw[show lo+(lo+(i+1+p))=lo+i+(lo+p)+1 by ac_rfl,Nat.add_sub_cancel,Xy,Nat.sub_sub,Nat.add_comm 1 i,Xy]
theorem xK (h:k<=x):f+k+(x-k)-1=f+(x-1)\/x=0:=by obtain⟨y,rfl⟩:∃y,x=k+y:=⟨x-k,(Nat.add_sub_of_le h).symm⟩;rw[Xy,Nat.add_assoc];cases (k+y);exact .inr rfl;exact .inl rfl
theorem xJ (h:k<=x) (q:¬x-k=0) (z:m=x-k):k+(m-1)=x-1:=by subst z;rw[<-Nat.add_sub_assoc (Nat.pos_of_ne_zero q),Nat.add_sub_of_le h]
theorem xI (h:2<=n) (q:¬n-1=1):2<=n-1:=Nat.le_sub_one_of_lt (Nat.lt_of_le_of_ne h λz=>q (by rw[<-z]))
theorem xH (h:j=n-2-1\/j=n-2) (q:¬n<=1) (e:n=m):j+1<m:=by subst e;obtain⟨z,rfl⟩:∃z,n=z+2:=⟨n-2,(Nat.sub_add_cancel (Nat.lt_of_not_le q)).symm⟩;rw[Nat.add_sub_cancel]at h;rcases h with rfl|rfl;exact Nat.lt_succ_of_le (Nat.add_le_add_right (Nat.sub_le _ _) 1);exact Nat.lt_succ_self _
end
-- CHANGE: your row's module here,as the last of these rows
namespace L2
open PySem PySem.Spec PyProof.Rows
abbrev Key:=Sum Int Str
def iu:Key->Value->Bool
 | .inl k,v=>Value.isInt k v
 | .inr x,v=>Value.isStrOf x v
def BA (w:World):Key->Int
 | .inl k=>hashInt k
 | .inr x=>hashStr w x
theorem bu:∀{k:Key} {v:Value},iu k v=true->(∃i t,k=Sum.inl i/\v=Value.int i t)\/(∃x t,k=Sum.inr x/\v=Value.str x t)
 | .inl i,v,h=>by
  obtain⟨t,e⟩:=Value.isInt_shape (k:=i) (v:=v) h;exact .inl ⟨i,t,rfl,e⟩
 | .inr x,v,h=>by
  obtain⟨t,e⟩:=Value.isStrOf_shape (x:=x) (v:=v) h;exact .inr ⟨x,t,rfl,e⟩
theorem p8 (i:Int) (t:Tok):iu (.inl i) (.int i t)=true:=by simp[iu,Value.isInt]
theorem p7 (x:Str) (t:Tok):iu (.inr x) (.str x t)=true:=by simp[iu,Value.isStrOf]
theorem wJ (a b:Int):decide ((Sum.inl a:Key)=Sum.inl b)=(a==b):=by
 by_cases e:a=b
 ·subst e;simp
 have h:¬(Sum.inl a:Key)=Sum.inl b:=λq=>e (Sum.inl.inj q);rw[QE h];exact(beq_eq_false_iff_ne.mpr e).symm
theorem wF (a b:Str):decide ((Sum.inr a:Key)=Sum.inr b)=decide (a=b):=by
 by_cases e:a=b
 ·subst e;simp
 have h:¬(Sum.inr a:Key)=Sum.inr b:=λq=>e (Sum.inr.inj q);rw[QE h,QE e]
theorem wI (a:Int) (b:Str):decide ((Sum.inl a:Key)=Sum.inr b)=false:=QE (λq=>nomatch q)
theorem wH (a:Str) (b:Int):decide ((Sum.inr a:Key)=Sum.inl b)=false:=QE (λq=>nomatch q)
noncomputable def aZ (prog:Program) (w:World):PySem.KeyKind prog w Key where
 is:=iu
 hash:=BA w
 inj:=λv a b ha hb=>by
  rcases bu ha with⟨i,t,rfl,rfl⟩|⟨x,t,rfl,rfl⟩
  ·rcases bu hb with⟨j,u,rfl,e⟩|⟨y,u,rfl,e⟩
   ·injection e with e1 _;rw[e1]
   exact nomatch e
  rcases bu hb with⟨j,u,rfl,e⟩|⟨y,u,rfl,e⟩
  ·exact nomatch e
  injection e with e1 _;rw[e1]
 byValue:=λk v h=>by
  rcases bu h with⟨i,t,rfl,rfl⟩|⟨x,t,rfl,rfl⟩ <;> rfl
 pyHash:=λhv h=>by
  rcases bu hv with⟨i,t,rfl,rfl⟩|⟨x,t,rfl,rfl⟩
  ·exact wpAny_pyHash_int h
  exact wpAny_pyHash_str h
 eqBool:=λhu hv h=>by
  rcases bu hu with⟨i,t,rfl,rfl⟩|⟨x,t,rfl,rfl⟩
  ·rcases bu hv with⟨j,u,rfl,rfl⟩|⟨y,u,rfl,rfl⟩
   ·rw[wJ]at h;exact wpAny_eqBool_int h
   rw[wI]at h;exact SeqAt.EqAt.int_str i t y u _ _ _ _ h
  rcases bu hv with⟨j,u,rfl,rfl⟩|⟨y,u,rfl,rfl⟩
  ·rw[wH]at h;exact SeqAt.EqAt.str_int x t j u _ _ _ _ h
  rw[wF]at h;exact wpAny_eqBool_str h
 «strs»:=λk x t v h=>by
  rcases bu h with⟨i,u,rfl,e⟩|⟨y,u,rfl,e⟩
  ·exact nomatch e
  injection e with e1 _;subst e1;cases v <;> rfl
theorem lY (prog:Program) (w:World) (i:Int) (t:Tok):(aZ prog w).is (.inl i) (.int i t)=true:=p8 i t
theorem gg (prog:Program) (w:World) (x:Str) (t:Tok):(aZ prog w).is (.inr x) (.str x t)=true:=p7 x t
inductive V where
 | non|bl (b:Bool)|int (i:Int)|str (x:Str)|byt (b:Array UInt8)|flt (b:UInt64)|ref (a:Addr)|ty (n:String)
 deriving DecidableEq
noncomputable def aF:V->Value->Prop
 | .non,u=>u=Value.none
 | .bl b,u=>u=Value.bool b
 | .int i,u=>∃t,u=Value.int i t
 | .str x,u=>∃t,u=Value.str x t
 | .byt b,u=>∃t,u=Value.bytes b t
 | .flt b,u=>∃t,u=Value.float b t
 | .ref a,u=>u=Value.ref a
 | .ty n,u=>u=Value.type n
abbrev aG:List V->List Value->Prop:=Paired aF
theorem aG.length {xs:List V} {us:List Value} (r:aG xs us):xs.length=us.length:=Paired.length r
theorem aG.get:∀{xs:List V} {us:List Value} {i:Nat} {x:V},aG xs us->xs[i]?=some x->∃u,us[i]?=some u/\aF x u
 | _,_,_,_,.nil,e=>by simp at e
 | _,_,0,_,.cons r _,e=>by simp at e;subst e;exact⟨_,rfl,r⟩
 | _,_,i+1,x,.cons _ t,e=>by
  obtain⟨u,h1,h2⟩:=aG.get (i:=i) (x:=x) t (by simpa using e);exact⟨u,by simpa using h1,h2⟩
variable {u cd dV doc pm cdv ct oc:Value}
theorem aG.set {x:V} (r:aF x u):∀{xs:List V} {us:List Value} (i:Nat),aG xs us->aG (xs.set i x) (us.set i u)
 | _,_,_,.nil=>.nil
 | _,_,0,.cons _ t=>.cons r t
 | _,_,i+1,.cons q t=>.cons q (aG.set r i t)
theorem aG.append:∀{xs ys:List V} {us ws:List Value},aG xs us->aG ys ws->aG (xs++ys) (us++ws)
 | _,_,_,_,.nil,s=>s
 | _,_,_,_,.cons r t,s=>.cons r (aG.append t s)
theorem aG.take:∀{xs:List V} {us:List Value} (n:Nat),aG xs us->aG (xs.take n) (us.take n)
 | _,_,0,_=>.nil
 | _,_,_+1,.nil=>.nil
 | _,_,n+1,.cons r t=>.cons r (aG.take n t)
theorem aG.drop:∀{xs:List V} {us:List Value} (n:Nat),aG xs us->aG (xs.drop n) (us.drop n)
 | _,_,0,r=>r
 | _,_,_+1,.nil=>.nil
 | _,_,n+1,.cons _ t=>aG.drop n t
def eU:Option V->Option Value->Prop
 | some v,some u=>aF v u
 | none,none=>True
 | _,_=>False
def KV {κ:Type}:List (κ × V)->List (κ × Value)->Prop:=Paired λ(p:κ × V) (q:κ × Value)=>p.1=q.1/\aF p.2 q.2
def kV:Key->V
 | .inl i=>.int i
 | .inr x=>.str x
inductive HO where
 /-- a list -/
 | lst (xs:List V)
 /-- a tuple (never changes) -/
 | tup (xs:List V)
 /-- a dict whose keys are ints and texts;one whose keys are tuples of ints and texts (the empty one is both) -/
 | dK (kvs:List (Key × V))|dT (kvs:List (List Key × V))
 /-- a set of ints: its members,its size -/
 | set (S:Int->Bool) (n:Nat)
 /-- an instance of the class at C,its dict at dx,its attributes -/
 | ins (C dx:Addr) (fs:List (Str × V))
 /-- the dict of the instance at x -/
 | own (x:Addr)
 /-- the dict of an exception -/
 | xd (fs:List (Str × V))
 /-- a bound method,f of x -/
 | met (f x:Addr)
 /-- a range object lo,lo+1,.. below hi -/
 | rng (lo hi:Int)
 /-- a thing that is known to the object (the script;a dict while a loop walks it): read,never written while it is so -/
 | frz (o:Obj) (u:HO)
 /-- a code object's table -/
 | tbl (ps:Array Value)
 /-- any other thing,by what is true of its one object (a def of one's own: SetO a S n:=HO.ext λh=>..) -/
 | ext (φ:Heap->Prop)
abbrev Hp:=Addr->Option HO
def upd (H:Hp) (a:Addr) (o:HO):Hp:=λb=>if b=a then some o else H b
variable {o:HO} {a b it dx C f:Addr} {H H':Hp}
theorem ag:upd H a o a=some o:=by unfold upd;rw[Qv rfl]
theorem af (h:b≠a):upd H a o b=H b:=by unfold upd;rw[Qz h]
theorem gB {u:HO}:upd (upd H a o) a u=upd H a u:=by
 funext b;unfold upd;split <;> rfl
theorem ie {u:HO} (h:H a=some o) (h':H b=some u) (d:o≠u):a≠b:=by
 intro e;subst e;rw[h]at h';exact d (QY h')
theorem ai (h:H a=some o) (h':H b=none):a≠b:=by
 intro e;subst e;rw[h]at h';cases h'
section
variable (P:Program) (w:World)
noncomputable def aX (H:Hp) (h:Heap) (a:Addr):HO->Prop
 | .lst xs=>xs.length<=sizeLine/\∃(its:List Value) (n:Nat),aG xs its/\h.get? a=some { cls:=.type "list", data:=.seq its.toArray n }
 | .tup xs=>xs.length<=sizeLine/\∃its:List Value,aG xs its/\IsTup h a its.toArray
 | .dK kvs=>kvs.length<=sizeLine/\(a==sysModules)=false/\∃vs,KV kvs vs/\h.DictOf (aZ P w) a vs
 | .dT kvs=>kvs.length<=sizeLine/\(a==sysModules)=false/\∃xs:List (List Key × Addr × Value),
   Paired (λ(p:List Key × V) (q:List Key × Addr × Value)=>p.1=q.1/\H q.2.1=some (.tup (p.1.map kV))/\aF p.2 q.2.2) kvs xs /\
   ∃o es ep,h.get? a=some o/\o.ExactDict/\o.data=.dict es ep/\es.toList=xs.map (entryOfKey (tupleKind (aZ P w)))/\(xs.map (·.1)).Nodup
 | .set S n=>h.SetOf (intKind P w) a S n
 | .ins C dx fs=>H dx=some (.own a)/\fs.length<=1000/\dx≠a/\h.get? a=some (PySem.W.instObj C dx) /\
   ∃mA,h.Ns1 dx mA/\(∀f,eU (fs.lookup f) (mA f))/\PySem.Within mA (fs.map (·.1))
 | .own _=>∃o,h.get? a=some o
 | .xd fs=>∃mA,h.Ns1 a mA/\∀f,eU (fs.lookup f) (mA f)
 | .rng lo hi=>∃t u v,h.get? a=some { cls:=.type "range", data:=.fields #[.int lo t,.int hi u,.int 1 v] }
 | .frz o u=>h.get? a=some o/\aX H h a u
 | .tbl ps=>h.get? a=some { cls:=.none,data:=.fields ps }
 | .met f x=>h.get? a=some (PySem.W.methodObj (.ref f) (.ref x))
 | .ext φ=>φ h/\(∃o,h.get? a=some o)/\∀h1 h2:Heap,φ h1->(∀o,h1.get? a=some o->h2.get? a=some o)->φ h2
def HOk (H:Hp) (h:Heap):Prop:=∀a o,H a=some o->aX P w H h a o
end
section
variable {P:Program} {w:World} {H H':Hp} {h h':Heap} {a:Addr} {o:HO}
theorem aX.lt (x:aX P w H h a o):a<h.objs.size:=by
 cases o with
 | lst xs=>obtain⟨_,_,_,_,e⟩:=x;exact Qo e
 | tup xs=>obtain⟨_,_,_,p⟩:=x;exact p.lt
 | dK kvs=>obtain⟨_,_,_,_,o,_,_,e,_⟩:=x;exact Qo e
 | dT kvs=>obtain⟨_,_,_,_,o,_,_,e,_⟩:=x;exact Qo e
 | set S n=>obtain⟨o,_,_,_,e,_⟩:=x;exact Qo e
 | ins C dx fs=>obtain⟨_,_,_,e,_⟩:=x;exact Qo e
 | own y=>obtain⟨_,e⟩:=x;exact Qo e
 | xd fs=>obtain⟨_,⟨_,_,_,e,_⟩,_⟩:=x;exact Qo e
 | rng lo hi=>obtain⟨_,_,_,e⟩:=x;exact Qo e
 | frz ob u=>obtain⟨e,_⟩:=x;exact Qo e
 | tbl ps=>exact Qo (show h.get? a=some _ from x)
 | met f y=>exact Qo (show h.get? a=some _ from x)
 | ext φ=>obtain⟨_,⟨_,e⟩,_⟩:=x;exact Qo e
theorem Paired.mapP {α β:Type} {F G:α->β->Prop}:∀{l₁:List α} {l₂:List β},Paired F l₁ l₂->(∀a b,F a b->G a b)->Paired G l₁ l₂
 | _,_,.nil,_=>.nil
 | _,_,.cons r t,f=>.cons (f _ _ r) (Paired.mapP t f)
theorem aX.stay (x:aX P w H h a o) (k:∀b u,(b=a\/H b=some (.own a))->h.get? b=some u->h'.get? b=some u)
  (ho:∀b,H b=some (.own a)->H' b=some (.own a)) (ht:∀b xs,H b=some (.tup xs)->H' b=some (.tup xs)):aX P w H' h' a o:=by
 induction o with
 | lst xs=>obtain⟨z,its,n,r,e⟩:=x;exact⟨z,its,n,r,k _ _ (.inl rfl) e⟩
 | tup xs=>obtain⟨z,its,r,ob,e,c⟩:=x;exact⟨z,its,r,ob,k _ _ (.inl rfl) e,c⟩
 | dK kvs=>obtain⟨z,y,vs,r,ob,es,ep,e,c⟩:=x;exact⟨z,y,vs,r,ob,es,ep,k _ _ (.inl rfl) e,c⟩
 | dT kvs =>
  obtain⟨z,y,xs,r,ob,es,ep,e,c⟩:=x;exact⟨z,y,xs,Paired.mapP r λp q z=>⟨z.1,ht _ _ z.2.1,z.2.2⟩,ob,es,ep,k _ _ (.inl rfl) e,c⟩
 | set S n=>obtain⟨ob,es,ep,t,e,c⟩:=x;exact⟨ob,es,ep,t,k _ _ (.inl rfl) e,c⟩
 | ins C dx fs =>
  obtain⟨d,z,ne,e,mA,⟨od,es,ep,e2,c⟩,r⟩:=x;exact⟨ho _ d,z,ne,k _ _ (.inl rfl) e,mA,⟨od,es,ep,k _ _ (.inr d) e2,c⟩,r⟩
 | own y=>obtain⟨ob,e⟩:=x;exact⟨ob,k _ _ (.inl rfl) e⟩
 | xd fs=>obtain⟨mA,⟨od,es,ep,e,c⟩,r⟩:=x;exact⟨mA,⟨od,es,ep,k _ _ (.inl rfl) e,c⟩,r⟩
 | rng lo hi=>obtain⟨t,u,v,e⟩:=x;exact⟨t,u,v,k _ _ (.inl rfl) e⟩
 | frz ob u ih=>obtain⟨e,q⟩:=x;exact⟨k _ _ (.inl rfl) e,ih q⟩
 | tbl ps =>
  have e:h.get? a=some { cls:=.none,data:=.fields ps }:=x;show h'.get? a=some { cls:=.none,data:=.fields ps };exact k a _ (.inl rfl) e
 | met f y =>
  have e:h.get? a=some (PySem.W.methodObj (.ref f) (.ref y)):=x;show h'.get? a=some (PySem.W.methodObj (.ref f) (.ref y));exact k a _ (.inl rfl) e
 | ext φ=>obtain⟨p,⟨o,e⟩,st⟩:=x;exact⟨st _ _ p λo q=>k _ _ (.inl rfl) q,⟨o,k _ _ (.inl rfl) e⟩,st⟩
theorem HOk.lt (x:HOk P w H h) (e:H a=some o):a<h.objs.size:=(x a o e).lt
theorem HOk.fresh (x:HOk P w H h) (e:h.objs.size<=a):H a=none:=by
 cases q:H a with
 | none=>rfl
 | some u=>exact absurd (Qy (x.lt q) e) (Nat.lt_irrefl _)
theorem HOk.kept (x:HOk P w H h) (k:∀b u,h.get? b=some u->h'.get? b=some u):HOk P w H h':=λa o e =>
 (x a o e).stay (λb u _ q=>k b u q) (λ_ q=>q) λ_ _ q=>q
theorem HOk.laid (x:HOk P w H h) (k:∀b u,h.get? b=some u->h'.get? b=some u) (hp:h.objs.size<=a) (new:aX P w (upd H a o) h' a o):HOk P w (upd H a o) h':=λb u e=>by
 have hn:=x.fresh hp;by_cases hb:b=a
 ·subst hb;rw[ag]at e;cases e;exact new
 rw[af hb]at e;exact(x b u e).stay (λc v _ q=>k c v q) (λc q=>by rw[af (ai q hn)];exact q) λc xs q=>by rw[af (ai q hn)];exact q
end
def Rd (H:Hp) (a:Addr) (u:HO):Prop:=H a=some u\/∃o,H a=some (.frz o u)
theorem Rd.of {u:HO} (h:H a=some u):Rd H a u:=.inl h
variable {h:Heap}
theorem Rd.ok {P:Program} {w:World} {u:HO} (r:Rd H a u) (x:HOk P w H h):aX P w H h a u:=by
 rcases r with r|⟨o,r⟩
 ·exact x a u r
 obtain⟨_,q⟩:=x a _ r;exact q
def Mut:Option HO->Prop
 | some (.lst _)=>True
 | some (.dK _)=>True
 | some (.dT _)=>True
 | some (.set _ _)=>True
 | some (.ins _ _ _)=>True
 | some (.ext _)=>True
 | _=>False
section
variable {P:Program} {w:World} {H:Hp} {h h':Heap} {x e:Addr} {o':HO}
theorem HOk.write (ok:HOk P w H h) (mu:Mut (H x)) (he:e=x\/H e=some (.own x)) (k:∀b u,b≠e->h.get? b=some u->h'.get? b=some u) (heo:∃u,h'.get? e=some u)
  (new:aX P w (upd H x o') h' x o'):HOk P w (upd H x o') h':=λb u q=>by
 have nown:∀c y,H c=some (.own y)->c≠x:=λc y r z=>by subst z;rw[r]at mu;exact mu
 have ntup:∀c xs,H c=some (.tup xs)->c≠x:=λc xs r z=>by subst z;rw[r]at mu;exact mu
 by_cases hb:b=x
 ·subst hb;rw[ag]at q;cases q;exact new
 rw[af hb]at q;by_cases hbe:b=e
 ·have q':H b=some (.own x):=by
   rcases he with z|z
   ·exact absurd (hbe.trans z) hb
   rw[hbe];exact z
  rw[q]at q';cases q';obtain⟨v,hv⟩:=heo;exact⟨v,by rw[hbe];exact hv⟩
 refine(ok b u q).stay (λc v hc r=>k c v ?_ r) (λc r=>by rw[af (nown c b r)];exact r) λc xs r=>by rw[af (ntup c xs r)];exact r
 rcases hc with rfl|hc
 ·exact hbe
 rintro rfl;rcases he with z|z
 ·exact nown c b hc z
 rw[hc]at z;cases z;exact hb rfl
end
structure Un (fs ex:B3) (H H':Hp) (h h':Heap):Prop where
 keep:∀b o,h.get? b=some o->H b=none->b∉fs->b∉ex->h'.get? b=some o
 slot:∀b o,h.get? b=some o->H b=none->b∈fs->b∉ex->∃sl,h'.get? b=some { o with slots:=sl }
 free:∀b o,h.get? b=some o->H b=none->b∉ex->H' b=none
 there:∀b o,h.get? b=some o->b∉ex->∃o',h'.get? b=some o'
 tups:∀b xs,H b=some (.tup xs)->H' b=some (.tup xs)
 frzs:∀b o u,H b=some (.frz o u)->H' b=some (.frz o u)
 tbls:∀b ps,H b=some (.tbl ps)->∃more,H' b=some (.tbl (ps++more))
section
variable {fs fs' ex ex':B3} {H H1 H2:Hp} {h h1 h2 h':Heap} {a x e:Addr} {o:HO}
theorem Un.any (u:Un fs ex H H1 h h1) {b:Addr} {ob:Obj} (q:h.get? b=some ob) (n:H b=none) (hx:b∉ex):∃sl,h1.get? b=some { ob with slots:=sl }:=by
 by_cases hb:b∈fs
 ·exact u.slot b ob q n hb hx
 exact⟨ob.slots,u.keep b ob q n hb hx⟩
theorem Un.kept (k:∀b u,h.get? b=some u->h'.get? b=some u):Un fs ex H H h h' :=
 ⟨λb ob q _ _ _=>k b ob q,λb ob q _ _ _=>⟨ob.slots,k b ob q⟩,λ_ _ _ n _=>n,λb ob q _=>⟨ob,k b ob q⟩,λ_ _ q=>q,λ_ _ _ q=>q,λ_ ps q=>⟨#[],by rw[q];simp⟩⟩
theorem Un.refl:Un fs ex H H h h:=Un.kept λ_ _ q=>q
theorem Un.laid (k:∀b u,h.get? b=some u->h'.get? b=some u) (hp:h.objs.size<=a) (hn:H a=none):Un fs ex H (upd H a o) h h' where
 keep:=λb u q _ _ _=>k b u q
 slot:=λb u q _ _ _=>⟨u.slots,k b u q⟩
 free:=λb u q n _=>by rw[af (QI (Qy (Qo q) hp))];exact n
 there:=λb u q _=>⟨u,k b u q⟩
 tups:=λb xs q=>by rw[af (ai q hn)];exact q
 frzs:=λb u xs q=>by rw[af (ai q hn)];exact q
 tbls:=λb ps q=>⟨#[],by rw[af (ai q hn),q];simp⟩
theorem Un.write (mu:Mut (H x)) (he:e=x\/H e=some (.own x)) (k:∀b u,b≠e->h.get? b=some u->h'.get? b=some u) (heo:∃u,h'.get? e=some u):Un fs ex H (upd H x o) h h':=by
 have hx:∀b,H b=none->b≠x:=λb n z=>by subst z;rw[n]at mu;exact mu
 have hb:∀b,H b=none->b≠e:=λb n z=>by
  subst z;rcases he with r|r
  ·exact hx b n r
  rw[n]at r;cases r
 have hm:∀b u,H b=some u->¬Mut (some u)->b≠x:=λb u q nm z=>by subst z;rw[q]at mu;exact nm mu
 refine⟨λb u q n _ _=>k b u (hb b n) q,λb u q n _ _=>⟨u.slots,k b u (hb b n) q⟩,λb u q n _=>by rw[af (hx b n)];exact n,λb u q _=>?_,
  λb xs q=>by rw[af (hm b _ q λz=>z)];exact q,λb u xs q=>by rw[af (hm b _ q λz=>z)];exact q,λb ps q=>⟨#[],by rw[af (hm b _ q λz=>z),q];simp⟩⟩
 by_cases hbe:b=e
 ·subst hbe;exact heo
 exact⟨u,k b u hbe q⟩
end
def trk (h:Heap) (H:Hp):B3:=(List.range h.objs.size).filter λa=>(H a).isSome
def iV (h:Heap) (H:Hp):Heap:=PySem.W.hideAll h (trk h H)
theorem qh (h:Heap) (H:Hp):(iV h H).objs.size=h.objs.size:=PySem.W.hideAll_size _ _
theorem sL {o:Obj} (e:h.get? b=some o) (n:H b=none):(iV h H).get? b=some o :=
 PySem.W.hideAll_get _ e λhm=>by
  have q:(H b).isSome=true:=(List.mem_filter.mp hm).2;rw[n]at q;simp at q
theorem ug {o:Obj} (e:(iV h H).get? b=some o):h.get? b=some o/\H b=none:=by
 have e':h.get? b=some o:=PySem.W.of_hideAll (trk h H) e;refine⟨e',?_⟩
 cases q:H b with
 | none=>rfl
 | some x =>
 have hm:b∈trk h H:=List.mem_filter.mpr ⟨Xc.mpr (Qo e'),by simp[q]⟩;have z:(iV h H).get? b=none:=PySem.W.hideAll_none (trk h H) hm;rw[z]at e;cases e
structure Mod (K:PySem.W.Frag) (mg:B2) (base:Heap):Prop where
 kin:K.In base
 glob:base.Ns mainGlobals mg
 blt:∃mb,base.Ns builtinsNs mb/\∀x:Str,x ≠ "__name__" -> mb x=bootBuiltins x
 nolimit:base.NoLimit
/-- the context: a def's body (or a comprehension's block) running. base: fixed through the whole law;s₀,H₀: the cU;outer: the frames whose slots others may change (a def's callers);stack: all frames that run;
  ex: iterators that were pY ahead of the cU and are walked here (a comprehension's);fn: the names whose cells were pY at the cU (a def: all;a comprehension's block: its own);calm: not within an except suite;pn: pins that every state bears;xe: what is wanted of an exception that leaves the code -/
structure Cx where
 prog:Program
 w:World
 K:PySem.W.Frag
 mg:B2
 base:Heap
 A:Around
 N:List Str
 s₀:Shared
 H₀:Hp
 env:Env
 outer:List Env
 stack:List Env
 ex:B3
 fn:Str->Bool
 calm:Bool
 pn:B1
 xe:B0
def frs (l:List Env):B3:=l.filterMap (·.frame)
abbrev Cx.fs (X:Cx):B3:=frs X.outer
def Vis (sc:Scope) (x:Str):Prop:=sc.names.lookup x=some .local\/sc.names.lookup x=some .cell\/sc.names.lookup x=some .free
def Loc (sc:Scope) (x:Str):Prop:=sc.names.lookup x=some .local\/sc.names.lookup x=some .cell
def BF (env:Env) (h:Heap) (m:B2) (x:Str) (u:Value):Prop :=
 (env.kindOf x=some .local/\m x=some u)\/((env.kindOf x=some .cell\/env.kindOf x=some .free)/\∃c,env.cells.lookup x=some c/\h.IsCell c (some u))
structure Cx.Ok (X:Cx):Prop where
 mod:Mod X.K X.mg X.base
 kind:X.env.scope.kind=.function
 glob:X.env.globals=mainGlobals
 blt:X.env.builtins=builtinsNs
 above:X.s₀.heap.objs.size<=X.env.locals
 inj:∀x y c,X.env.cells.lookup x=some c->X.env.cells.lookup y=some c->x=y
 has:∀x,(X.env.kindOf x=some .cell\/X.env.kindOf x=some .free)->∃c,X.env.cells.lookup x=some c
 cab:∀x c,X.fn x=true->X.env.cells.lookup x=some c->X.s₀.heap.objs.size<=c
 hd:X.calm=true->X.A.handled=none
 frames:X.A.frames=some X.stack
 stk:X.stack=X.outer\/(X.stack=X.env::X.outer/\X.env.frame=some X.env.locals)
 exf:∀b∈X.ex,b≠X.env.locals/\∀x c,X.env.cells.lookup x=some c->c≠b
 bs:∀b o,X.base.get? b=some o->X.s₀.heap.get? b=some o/\X.H₀ b=none
 bsz:X.base.objs.size<=X.s₀.heap.objs.size
 noex:∀b o,X.base.get? b=some o->b∉X.ex
 exfs:∀b∈X.ex,b∉X.fs
 funs:X.s₀.heap.FunFrames X.base X.outer
 frf:∀b∈X.fs,X.H₀ b=none
structure Inv (X:Cx) (pins:B1) (U:List (Option V)) (H:Hp) (s:Shared):Prop where
 ok:X.Ok
 os:s.os=X.s₀.os
 bare:AllBare s.gens
 base:Un X.fs X.ex X.H₀ H X.s₀.heap s.heap
 loc:∃m,s.heap.Ns X.env.locals m/\∀(i:Nat) (x:Str) (v:V),X.N[i]?=some x->U[i]?=some (some v)->Vis X.env.scope x->∃u,aF v u/\BF X.env s.heap m x u
 cell:∀x c,X.env.cells.lookup x=some c->∃v,s.heap.IsCell c v
 free:H X.env.locals=none
 freeC:∀x c,X.env.cells.lookup x=some c->H c=none
 pin:∀p∈X.pn++pins,s.heap.get? p.1=some p.2/\H p.1=none/\p.1≠X.env.locals/\p.1∉X.fs/\∀v,p.2.data≠.cell v
 hok:HOk X.prog X.w H s.heap
 len:U.length=X.N.length
section
variable {X:Cx} {pins:B1} {U:List (Option V)} {H H':Hp} {s:Shared} {h':Heap}
theorem Cx.Ok.nofr (ok:X.Ok) {b:Addr} {o:Obj} (e:X.base.get? b=some o):b∉X.fs:=λhb=>by
 have:=(ok.funs.mem hb).1;rw[e]at this;cases this
theorem Inv.bs (I:Inv X pins U H s):∀b o,X.base.get? b=some o->s.heap.get? b=some o/\H b=none:=λb o e =>
 ⟨I.base.keep b o (I.ok.bs b o e).1 (I.ok.bs b o e).2 (I.ok.nofr e) (I.ok.noex b o e),I.base.free b o (I.ok.bs b o e).1 (I.ok.bs b o e).2 (I.ok.noex b o e)⟩
theorem Inv.bk (I:Inv X pins U H s):∀b o,X.base.get? b=some o->s.heap.get? b=some o:=λb o e=>(I.bs b o e).1
theorem Inv.mod (I:Inv X pins U H s):Mod X.K X.mg X.base:=I.ok.mod
theorem Inv.kIn (I:Inv X pins U H s):X.K.In s.heap:=I.ok.mod.kin.keeps I.bk
theorem Inv.lt (I:Inv X pins U H s):X.env.locals<s.heap.objs.size:=let ⟨_,hn,_⟩:=I.loc;hn.lt
theorem Inv.sz (I:Inv X pins U H s):X.s₀.heap.objs.size<=s.heap.objs.size:=QQ I.ok.above (Nat.le_of_lt I.lt)
theorem Inv.nofs (I:Inv X pins U H s) {a:Addr} (h:s.heap.objs.size<=a):a∉X.fs:=λhb=>by
 obtain⟨_,o,ho,_⟩:=I.ok.funs.mem hb;exact absurd (Qy (Qo ho) (QQ I.sz h)) (Nat.lt_irrefl _)
theorem Inv.cne (I:Inv X pins U H s):∀x c,X.env.cells.lookup x=some c->c≠X.env.locals:=λx c e z=>by
 obtain⟨v,o,ho,hd⟩:=I.cell x c e;obtain⟨m,⟨o',es,ep,ho',hd',_⟩,_⟩:=I.loc;rw[z,ho']at ho;cases ho;rw[hd']at hd;cases hd
theorem Inv.funs (I:Inv X pins U H s):s.heap.FunFrames X.base X.outer:=by
 have all:∀(l:List Env),(∀b∈frs l,b∈X.fs)->X.s₀.heap.FunFrames X.base l->s.heap.FunFrames X.base l:=by
  intro l
  induction l with
  | nil=>intro _ _;trivial
  | cons env r ih =>
  intro hs hl;obtain⟨hk,⟨L,o,hf,hn,ho,hd⟩,hr⟩:=hl;have hL:L∈X.fs:=hs L (by unfold frs;rw[Xq,hf];exact Q4);obtain⟨sl,e⟩:=I.base.slot L o ho (I.ok.frf L hL) hL λz=>I.ok.exfs L z hL;exact⟨hk,⟨L,_,hf,hn,e,hd⟩,ih (λb hb=>hs b (by unfold frs;rw[Xq,hf];exact Qs _ hb)) hr⟩
 exact all X.outer (λ_ hb=>hb) I.ok.funs
theorem Inv.stack (I:Inv X pins U H s):s.heap.FunFrames X.base X.stack:=by
 rcases I.ok.stk with e|⟨e,hf⟩
 ·rw[e];exact I.funs
 rw[e];obtain⟨m,hn,_⟩:=I.loc;refine .cons (by rw[I.ok.kind];decide) hf hn ?_ I.funs;exact Heap.get?_none_of_le (QQ I.ok.bsz I.ok.above)
theorem Inv.stkSub (I:Inv X pins U H s):∀b∈frs X.stack,b∈X.env.locals::X.fs:=λb hb=>by
 rcases I.ok.stk with e|⟨e,hf⟩
 ·rw[e]at hb;exact Qs _ hb
 rw[e]at hb;unfold frs at hb;rw[Xq,hf]at hb;exact hb
theorem Inv.stkFree (I:Inv X pins U H s):∀b∈frs X.stack,H b=none:=λb hb=>by
 rcases Qu.mp (I.stkSub b hb) with e|hb
 ·rw[e];exact I.free
 obtain⟨_,o,ho,_⟩:=I.ok.funs.mem hb;exact I.base.free b o ho (I.ok.frf b hb) λz=>I.ok.exfs b z hb
theorem Inv.step {g':Array GenState} {t':Nat} {d':Drawn} {ch:B3} (I:Inv X pins U H s)
  (hch:∀b∈ch,(b∈X.ex\/X.s₀.heap.objs.size<=b)/\b≠X.env.locals/\(∀x c,X.env.cells.lookup x=some c->c≠b)/\∀p∈X.pn++pins,p.1≠b)
  (keep:∀b o,b≠X.env.locals->b∉X.fs->b∉ch->s.heap.get? b=some o->H b=none->h'.get? b=some o)
  (slot:∀b o,b≠X.env.locals->b∈X.fs->b∉ch->s.heap.get? b=some o->H b=none->∃sl,h'.get? b=some { o with slots:=sl }) (free:∀b o,b∉ch->s.heap.get? b=some o->H b=none->H' b=none)
  (there:∀b o,b∉ch->s.heap.get? b=some o->∃o',h'.get? b=some o')
  (tups:∀b xs,H b=some (.tup xs)->H' b=some (.tup xs)) (frzs:∀b o u,H b=some (.frz o u)->H' b=some (.frz o u)) (tbls:∀b ps,H b=some (.tbl ps)->∃more,H' b=some (.tbl (ps++more)))
  (ns:∀m,s.heap.Ns X.env.locals m->h'.Ns X.env.locals m) (hok:HOk X.prog X.w H' h') (hg:AllBare g') :
  Inv X pins U H' { s with heap:=h',gens:=g',drawn:=d',toks:=t' }:=by
 have neL:∀b o,X.s₀.heap.get? b=some o->b≠X.env.locals:=λb o e=>QI (Qy (Qo e) I.ok.above)
 have neC:∀b o,X.s₀.heap.get? b=some o->b∉X.ex->b∉ch:=λb o e hx hb=>by
  rcases(hch b hb).1 with z|z
  ·exact hx z
  exact absurd (Qy (Qo e) z) (Nat.lt_irrefl _)
 have cellK:∀x c,X.env.cells.lookup x=some c->∀v,s.heap.IsCell c v->h'.IsCell c v:=λx c e v ⟨o,ho,hd⟩=>by
  have nch:c∉ch:=λz=>(hch c z).2.2.1 x c e rfl;by_cases hc:c∈X.fs
  ·obtain⟨sl,q⟩:=slot c o (I.cne x c e) hc nch ho (I.freeC x c e);exact⟨_,q,hd⟩
  exact⟨o,keep c o (I.cne x c e) hc nch ho (I.freeC x c e),hd⟩
 refine⟨I.ok,I.os,hg,⟨λb o e n hb hx=>?_,λb o e n hb hx=>?_,λb o e n hx=>?_,λb o e hx=>?_,λb xs e=>tups b xs (I.base.tups b xs e),λb o xs e=>frzs b o xs (I.base.frzs b o xs e),λb ps e=>?_⟩,?_,λx c e=>?_,?_,λx c e=>?_,λp hp=>?_,hok,I.len⟩
 ·exact keep b o (neL b o e) hb (neC b o e hx) (I.base.keep b o e n hb hx) (I.base.free b o e n hx)
 ·obtain⟨sl,e1⟩:=I.base.slot b o e n hb hx;obtain⟨sl',e2⟩:=slot b _ (neL b o e) hb (neC b o e hx) e1 (I.base.free b o e n hx);exact⟨sl',e2⟩
 ·obtain⟨o',e1⟩:=I.base.there b o e hx;exact free b o' (neC b o e hx) e1 (I.base.free b o e n hx)
 ·obtain⟨o',e1⟩:=I.base.there b o e hx;exact there b o' (neC b o e hx) e1
 ·obtain⟨m1,e1⟩:=I.base.tbls b ps e;obtain⟨m2,e2⟩:=tbls b _ e1;exact⟨m1++m2,by rw[e2,Array.append_assoc]⟩
 ·obtain⟨m,hn,hl⟩:=I.loc;refine⟨m,ns m hn,λi x v e1 e2 e3=>?_⟩;obtain⟨u,r,l⟩:=hl i x v e1 e2 e3;refine⟨u,r,?_⟩;rcases l with l|⟨k,c,e,z⟩
  ·exact .inl l
  exact .inr ⟨k,c,e,cellK x c e _ z⟩
 ·obtain⟨v,z⟩:=I.cell x c e;exact⟨v,cellK x c e v z⟩
 ·obtain⟨m,⟨o,_,_,ho,_⟩,_⟩:=I.loc;exact free _ o (λz=>(hch _ z).2.1 rfl) ho I.free
 ·obtain⟨v,o,ho,hd⟩:=I.cell x c e;exact free c o (λz=>(hch c z).2.2.1 x c e rfl) ho (I.freeC x c e)
 obtain⟨e,n,ne,nf,d⟩:=I.pin p hp;have nch:p.1∉ch:=λz=>(hch p.1 z).2.2.2 p hp rfl;exact⟨keep p.1 p.2 ne nf nch e n,free p.1 p.2 nch e n,ne,nf,d⟩
theorem Inv.un {t':Nat} (I:Inv X pins U H s) (u:Un X.fs [] H H' s.heap h') (hok:HOk X.prog X.w H' h'):Inv X pins U H' { s with heap:=h',toks:=t' }:=by
 obtain⟨m,⟨o,es,ep,ho,r⟩,_⟩:=id I.loc;obtain⟨sl,hL⟩:=u.any ho I.free (by simp)
 exact I.step (g':=s.gens) (d':=s.drawn) (ch:=[]) (λ_ z=>nomatch z) (λb o _ hb _ e n=>u.keep b o e n hb (by simp)) (λb o _ hb _ e n=>u.slot b o e n hb (by simp)) (λb o _ e n=>u.free b o e n (by simp)) (λb o _ e=>u.there b o e (by simp)) u.tups u.frzs u.tbls (λm' hm=>by
  obtain⟨o',es',ep',ho',r'⟩:=hm;rw[ho]at ho';cases ho'
  exact⟨_,es',ep',hL,r'⟩) hok I.bare
theorem Inv.call {g':Array GenState} {t':Nat} {d':Drawn} {ch:B3} (I:Inv X pins U H s) (u:Un (frs X.stack) ch H H' s.heap h') (hok:HOk X.prog X.w H' h') (hg:AllBare g')
  (hch:∀b∈ch,(b∈X.ex\/X.s₀.heap.objs.size<=b)/\b≠X.env.locals/\(∀x c,X.env.cells.lookup x=some c->c≠b)/\∀p∈X.pn++pins,p.1≠b) :
  Inv X pins U H' { s with heap:=h',gens:=g',drawn:=d',toks:=t' }:=by
 obtain⟨m,⟨o,es,ep,ho,r⟩,_⟩:=id I.loc;obtain⟨sl,hL⟩:=u.any ho I.free λz=>(hch _ z).2.1 rfl
 exact I.step (ch:=ch) hch (λb o hL hb hc e n=>u.keep b o e n (λz=>(Qu.mp (I.stkSub b z)).elim hL hb) hc) (λb o _ _ hc e n=>u.any e n hc) (λb o hc e n=>u.free b o e n hc) (λb o hc e=>u.there b o e hc) u.tups u.frzs u.tbls (λm' hm=>by
  obtain⟨o',es',ep',ho',r'⟩:=hm;rw[ho]at ho';cases ho'
  exact⟨_,es',ep',hL,r'⟩) hok hg
theorem Inv.turned {t':Nat} {it:Addr} (I:Inv X pins U H s) (k:∀b o,b≠it->s.heap.get? b=some o->h'.get? b=some o) (hn:H it=none) (hL:it≠X.env.locals)
  (h1:it∈X.ex\/X.s₀.heap.objs.size<=it) (h2:∀x c,X.env.cells.lookup x=some c->c≠it) (h3:∀p∈X.pn++pins,p.1≠it):Inv X pins U H { s with heap:=h',toks:=t' }:=by
 have nit:∀b u,H b=some u->b≠it:=λb u e z=>by rw[z,hn]at e;cases e
 refine I.step (g':=s.gens) (d':=s.drawn) (ch:=[it]) (λb hb=>?_) (λb o _ _ hc e _=>k b o (λz=>hc (by simp[z])) e) (λb o _ _ hc e _=>⟨o.slots,k b o (λz=>hc (by simp[z])) e⟩) (λ_ _ _ _ n=>n)
  (λb o hc e=>⟨o,k b o (λz=>hc (by simp[z])) e⟩) (λ_ _ e=>e) (λ_ _ _ e=>e) (λb ps e=>⟨#[],by rw[e];simp⟩) (λm hm=>?_) (λb u e=>?_) I.bare
 ·have e:b=it:=by simpa using hb
  subst e;exact⟨h1,hL,h2,h3⟩
 ·obtain⟨o,es,ep,ho,r⟩:=hm;exact⟨o,es,ep,k _ o (Xz hL) ho,r⟩
 refine(I.hok b u e).stay (λc v hc q=>k c v ?_ q) (λ_ q=>q) λ_ _ q=>q;rcases hc with z|z
 ·rw[z];exact nit b u e
 exact nit c _ z
theorem Inv.tok (I:Inv X pins U H s) (t:Nat):Inv X pins U H { s with toks:=t }:=I.un (h':=s.heap) (t':=t) Un.refl I.hok
theorem Inv.kept {t':Nat} (I:Inv X pins U H s) (k:∀b u,s.heap.get? b=some u->h'.get? b=some u):Inv X pins U H { s with heap:=h',toks:=t' }:=I.un (Un.kept k) (I.hok.kept k)
theorem Inv.laid {a:Addr} {o:HO} {t':Nat} (I:Inv X pins U H s) (k:∀b u,s.heap.get? b=some u->h'.get? b=some u) (hp:s.heap.objs.size<=a) (new:aX X.prog X.w (upd H a o) h' a o) :
  Inv X pins U (upd H a o) { s with heap:=h',toks:=t' }:=I.un (Un.laid k hp (I.hok.fresh hp)) (I.hok.laid k hp new)
theorem Inv.write {x e:Addr} {o:HO} {t':Nat} (I:Inv X pins U H s) (mu:Mut (H x)) (he:e=x\/H e=some (.own x)) (k:∀b u,b≠e->s.heap.get? b=some u->h'.get? b=some u) (heo:∃u,h'.get? e=some u)
  (new:aX X.prog X.w (upd H x o) h' x o):Inv X pins U (upd H x o) { s with heap:=h',toks:=t' }:=I.un (Un.write mu he k heo) (I.hok.write mu he k heo new)
theorem Inv.weak {σ':List (Option V)} (I:Inv X pins U H s) (hl:σ'.length=U.length) (w:∀(i:Nat) v,σ'[i]?=some (some v)->U[i]?=some (some v)):Inv X pins σ' H s :=
 ⟨I.ok,I.os,I.bare,I.base,let ⟨m,hn,hl'⟩:=I.loc;⟨m,hn,λi x v e1 e2 e3=>hl' i x v e1 (w i v e2) e3⟩,I.cell,I.free,I.freeC,I.pin,I.hok,hl.trans I.len⟩
theorem Inv.pins_of {pins':B1} (I:Inv X pins U H s) (h:∀p∈pins',s.heap.get? p.1=some p.2/\H p.1=none/\p.1≠X.env.locals/\p.1∉X.fs/\∀v,p.2.data≠.cell v):Inv X pins' U H s :=
 ⟨I.ok,I.os,I.bare,I.base,I.loc,I.cell,I.free,I.freeC,λp hp=>(Qk.mp hp).elim (λz=>I.pin p (Q6 _ z)) (h p),I.hok,I.len⟩
theorem h9 {N:List Str} (hN:N.Nodup) {i j:Nat} {x:Str} (a:N[i]?=some x) (b:N[j]?=some x):i=j:=by
 obtain⟨h1,e1⟩:=Qc.mp a;obtain⟨h2,e2⟩:=Qc.mp b;exact(List.getElem_inj hN).mp (e1.trans e2.symm)
variable {Q:Unit->Shared->Prop} {E:B0}
theorem jd {M:Model} {A:Around} {i:Nat} {x:Str} {v:V} {u:Value} (I:Inv X pins U H s) (hN:X.N.Nodup) (hi:X.N[i]?=some x) (hx:Loc X.env.scope x) (r:aF v u)
  (h:∀s',Inv X pins (U.set i (some v)) H s'->(∃a,Heap.SameBut a s.heap s'.heap/\(a=X.env.locals\/X.env.cells.lookup x=some a))->Q () s') (hf:X.fn x=true\/X.env.scope.names.lookup x=some .local:=by z_go):wpAny M A (storeName X.env x u) Q E s:=by
 obtain⟨m,hn,hl⟩:=id I.loc;have hcls:(X.env.scope.kind==.class || (X.env.scope.kind==.module&&X.env.locals != X.env.globals))=false:=by rw[I.ok.kind];rfl
 have hiσ:i<U.length:=by rw[I.len];exact(Qc.mp hi).1
 have cne:=I.cne
 have tracked:∀{a:Addr} {h':Heap},(∃o,s.heap.get? a=some o/\H a=none)->Heap.SameBut a s.heap h'->HOk X.prog X.w H h':=λ{a h'} ha hs b ob e=>by
  obtain⟨_,_,hfree⟩:=ha;refine(I.hok b ob e).stay (λc w' hc q=>(hs.2 c ?_).trans q) (λ_ q=>q) λ_ _ q=>q;rintro rfl;rcases hc with rfl|hc
  ·rw[hfree]at e;cases e
  rw[hfree]at hc;cases hc
 rcases hx with hk|hk
 ·refine wpAny_storeName_local hk hn (λh' hn' hs=>?_) hcls;obtain⟨oL,_,_,hoL,_⟩:=id hn;refine h _ ⟨I.ok,I.os,I.bare,⟨λb o e n hb hx=>?_,λb o e n hb hx=>?_,I.base.free,λb o e hx=>?_,I.base.tups,I.base.frzs,I.base.tbls⟩,⟨_,hn',λj y v' e1 e2 e3=>?_⟩,λy c e=>?_,I.free,I.freeC,λp hp=>?_,tracked ⟨oL,hoL,I.free⟩ hs,by simpa using I.len⟩ ⟨_,hs,.inl rfl⟩
  ·exact(hs.2 b (QI (Qy (Qo e) I.ok.above))).trans (I.base.keep b o e n hb hx)
  ·obtain⟨sl,e1⟩:=I.base.slot b o e n hb hx;exact⟨sl,(hs.2 b (QI (Qy (Qo e) I.ok.above))).trans e1⟩
  ·obtain⟨o',e1⟩:=I.base.there b o e hx;exact⟨o',(hs.2 b (QI (Qy (Qo e) I.ok.above))).trans e1⟩
  ·by_cases hj:j=i
   ·subst hj;rw[hi]at e1;cases e1;rw[List.getElem?_set_self hiσ]at e2;cases e2;exact⟨u,r,.inl ⟨hk,by simp⟩⟩
   rw[List.getElem?_set_ne (Xz hj)]at e2;obtain⟨u',r',q⟩:=hl j y v' e1 e2 e3;refine⟨u',r',?_⟩;rcases q with⟨k,e⟩|⟨k,c,e,z⟩
   ·refine .inl ⟨k,?_⟩;have:y≠x:=λe=>hj (h9 hN e1 (e▸hi));simp[this,e]
   exact .inr ⟨k,c,e,z.sameBut hs (cne y c e)⟩
  ·obtain⟨w',z⟩:=I.cell y c e;exact⟨w',z.sameBut hs (cne y c e)⟩
  obtain⟨e,n,ne,nf,d⟩:=I.pin p hp;exact⟨(hs.2 p.1 ne).trans e,n,ne,nf,d⟩
 have hfn:X.fn x=true:=by
  rcases hf with z|z
  ·exact z
  rw[z]at hk;cases hk
 obtain⟨c,hc⟩:=I.ok.has x (.inl hk);obtain⟨w',z⟩:=I.cell x c hc;refine wpAny_storeName_cell I.ok.kind hk hc z (λh' hc' hs=>?_);obtain⟨oc,hoc,hocd⟩:=id z;refine h { s with heap:=h' } ⟨I.ok,I.os,I.bare,⟨λb o e n hb hx=>?_,λb o e n hb hx=>?_,I.base.free,λb o e hx=>?_,I.base.tups,I.base.frzs,I.base.tbls⟩,⟨m,hn.sameBut hs (Xz (cne x c hc)),λj y v' e1 e2 e3=>?_⟩,λy c' e=>?_,I.free,I.freeC,λp hp=>?_,tracked ⟨oc,hoc,I.freeC x c hc⟩ hs,by simpa using I.len⟩ ⟨c,hs,.inr hc⟩
 ·exact(hs.2 b (QI (Qy (Qo e) (I.ok.cab x c hfn hc)))).trans (I.base.keep b o e n hb hx)
 ·obtain⟨sl,e1⟩:=I.base.slot b o e n hb hx;exact⟨sl,(hs.2 b (QI (Qy (Qo e) (I.ok.cab x c hfn hc)))).trans e1⟩
 ·obtain⟨o',e1⟩:=I.base.there b o e hx;exact⟨o',(hs.2 b (QI (Qy (Qo e) (I.ok.cab x c hfn hc)))).trans e1⟩
 ·by_cases hj:j=i
  ·subst hj;rw[hi]at e1;cases e1;rw[List.getElem?_set_self hiσ]at e2;cases e2;exact⟨u,r,.inr ⟨.inl hk,c,hc,hc'⟩⟩
  rw[List.getElem?_set_ne (Xz hj)]at e2;obtain⟨u',r',q⟩:=hl j y v' e1 e2 e3;refine⟨u',r',?_⟩;rcases q with q|⟨k,c',e,z'⟩
  ·exact .inl q
  refine .inr ⟨k,c',e,z'.sameBut hs ?_⟩;rintro rfl;exact hj (h9 hN e1 (I.ok.inj _ _ _ e hc▸hi))
 ·by_cases hcc:c'=c
  ·subst hcc;exact⟨_,hc'⟩
  obtain⟨w2,z2⟩:=I.cell y c' e;exact⟨w2,z2.sameBut hs hcc⟩
 obtain⟨e,n,ne,nf,d⟩:=I.pin p hp;refine⟨(hs.2 p.1 ?_).trans e,n,ne,nf,d⟩;intro q;rw[q,hoc]at e;have q':oc=p.2:=QY e;exact d w' (by rw[<-q'];exact hocd)
theorem dI {M:Model} {A:Around} {i:Nat} {x:Str} {v:V} {u:Value} (I:Inv X pins U H s) (hN:X.N.Nodup) (hi:X.N[i]?=some x) (hx:Loc X.env.scope x) (r:aF v u)
  (h:∀s',Inv X pins (U.set i (some v)) H s'->Q () s') (hf:X.fn x=true\/X.env.scope.names.lookup x=some .local:=by z_go):wpAny M A (storeName X.env x u) Q E s :=
 jd I hN hi hx r (λs' I' _=>h s' I') hf
theorem Inv.call' {s':Shared} {ch:B3} (I:Inv X pins U H s) (ho:s'.os=s.os) (u:Un (frs X.stack) ch H H' s.heap s'.heap) (hok:HOk X.prog X.w H' s'.heap) (hg:AllBare s'.gens)
  (hch:∀b∈ch,(b∈X.ex\/X.s₀.heap.objs.size<=b)/\b≠X.env.locals/\(∀x c,X.env.cells.lookup x=some c->c≠b)/\∀p∈X.pn++pins,p.1≠b):Inv X pins U H' s':=by
 obtain⟨h',g',d',t',o'⟩:=s';have e:o'=s.os:=ho;subst e;exact I.call (g':=g') (t':=t') (d':=d') u hok hg hch
end
abbrev XK:=Value->Option Addr->Hp->Prop
abbrev St:=List (Option V)
abbrev VK:=V->Hp->Prop
abbrev TE:=St->Hp->VK->Prop
abbrev TT:=St->Hp->(Bool->Hp->Prop)->Prop
abbrev TA:=St->Hp->(List V->Hp->Prop)->Prop
structure Ends where
 nx:St->Hp->Prop
 rt:VK
 bk:St->Hp->Prop:=λ_ _=>False
 ct:St->Hp->Prop:=λ_ _=>False
abbrev TS:=Ends->St->Hp->Prop
def EP (X:Cx) (pins:B1) (U:St) (Q:VK) (u:Value) (s':Shared):Prop:=∃v H',Inv X pins U H' s'/\aF v u/\Q v H'
def TP (X:Cx) (pins:B1) (U:St) (Q:Bool->Hp->Prop) (b:Bool) (s':Shared):Prop:=∃H',Inv X pins U H' s'/\Q b H'
def AP (X:Cx) (pins:B1) (U:St) (Q:List V->Hp->Prop) (us:List Value) (s':Shared):Prop:=∃vs H',Inv X pins U H' s'/\aG vs us/\Q vs H'
def SP (X:Cx) (pins:B1) (D:Ends) (f:Flow) (s':Shared):Prop :=
 match f with
 | .next=>∃σ' H',Inv X pins σ' H' s'/\D.nx σ' H'
 | .brk=>∃σ' H',Inv X pins σ' H' s'/\D.bk σ' H'
 | .cont=>∃σ' H',Inv X pins σ' H' s'/\D.ct σ' H'
 | .ret u=>∃v σ' H',Inv X pins σ' H' s'/\aF v u/\D.rt v H'
def PE (X:Cx) (e:Expr) (t:TE):Prop :=
 ∀(pins:B1) (s:Shared) (U:St) (H:Hp) (Q:VK),Inv X pins U H s->t U H Q->wpAny (model X.prog X.w) X.A (eval e X.env) (EP X pins U Q) X.xe s
def PT (X:Cx) (e:Expr) (t:TT):Prop :=
 ∀(pins:B1) (s:Shared) (U:St) (H:Hp) (Q:Bool->Hp->Prop),Inv X pins U H s->t U H Q->wpAny (model X.prog X.w) X.A (isTrue e X.env (eval e X.env)) (TP X pins U Q) X.xe s
def PW (X:Cx) (e:Expr) (t:TT):Prop :=
 ∀(whole:Sem Value) (pins:B1) (s:Shared) (U:St) (H:Hp) (Q:Bool->Hp->Prop),Inv X pins U H s->t U H Q->wpAny (model X.prog X.w) X.A (isTrue e X.env whole) (TP X pins U Q) X.xe s
variable {e tg:Expr} {X:Cx}
theorem PW.pt {t:TT} (h:PW X e t):PT X e t:=h _
def PA (X:Cx) (es:List Expr) (t:TA):Prop :=
 ∀(pos:Pos) (pins:B1) (s:Shared) (U:St) (H:Hp) (Q:List V->Hp->Prop),Inv X pins U H s->t U H Q->wpAny (model X.prog X.w) X.A (spliced (backTo pos (starEach es X.env))) (AP X pins U Q) X.xe s
def PS (X:Cx) (st:Stmt) (t:TS):Prop :=
 ∀(pins:B1) (s:Shared) (U:St) (H:Hp) (D:Ends),Inv X pins U H s->t D U H->wpAny (model X.prog X.w) X.A (exec st X.env) (SP X pins D) X.xe s
def PSs (X:Cx) (st:List Stmt) (t:TS):Prop :=
 ∀(pins:B1) (s:Shared) (U:St) (H:Hp) (D:Ends),Inv X pins U H s->t D U H->wpAny (model X.prog X.w) X.A (execs st X.env) (SP X pins D) X.xe s
variable {s s1:Shared} {E:B0} {A:Around}
theorem thn {α:Type} {t:Sem α} {Q Q':α->Shared->Prop} {M:Model} (h:wpAny M A t Q E s) (hQ:∀a s,Q a s->Q' a s):wpAny M A t Q' E s:=Xg h hQ λ_ _ x=>x
section
variable {X:Cx}
def cV (i:Nat):TE:=λU H Q=>∃v,U[i]?=some (some v)/\Q v H
def tC (v:V):TE:=λ_ H Q=>Q v H
variable {x:Str}
theorem v_ {i:Nat} {pos:Pos} (hN:X.N[i]?=some x) (hv:Vis X.env.scope x) (hd:(x==("__debug__" : Str))=false:=by decide) (hcd:(x==("__classdict__" : Str))=false:=by decide):PE X (.Name x pos) (cV i):=by
 intro pins s U H Q I h;obtain⟨v,e,h⟩:=h;obtain⟨m,hn,hl⟩:=I.loc;obtain⟨u,r,l⟩:=hl i x v hN e hv;have fin:EP X pins U Q u s:=⟨v,H,I,r,h⟩;rcases l with⟨hk,hm⟩|⟨hk,c,hc,hcell⟩
 ·exact wpAny_Name (wpAny_loadName_local I.ok.kind hk hn hm fin) hd
 rcases hk with hk|hk
 ·exact wpAny_Name (wpAny_loadName_cell I.ok.kind hk hc hcell fin) hd
 exact wpAny_Name (wpAny_loadName_free I.ok.kind hk hc hcell fin hcd) hd
theorem ah {i j pos}:PE X (.Constant (.int i) j pos) (tC (.int i)):=λ_ _ _ H _ I h=>wpAny_Constant_int ⟨.int i,H,I.tok _,⟨_,rfl⟩,h⟩
theorem dH {b j pos}:PE X (.Constant (.bool b) j pos) (tC (.bl b)):=λ_ _ _ H _ I h=>Constant_bool ⟨.bl b,H,I,rfl,h⟩
theorem hZ {j pos}:PE X (.Constant .none j pos) (tC .non):=λ_ _ _ H _ I h=>Constant_none ⟨.non,H,I,rfl,h⟩
theorem aQ {x j pos}:PE X (.Constant (.str x) j pos) (tC (.str x)):=λ_ _ _ H _ I h=>Calls.Constant_str ⟨.str x,H,I.tok _,⟨_,rfl⟩,h⟩
def Gl (X:Cx) (x:Str):Prop:=X.env.kindOf x=some .globalImplicit
variable {Q E:B0} {u:Value} {pins:B1}
theorem d9 {s:Shared} {U:St} {H:Hp} {pos:Pos} (I:Inv X pins U H s) (hg:Gl X x) (hm:X.mg x=some u) (h:Q u s)
  (hd:(x==("__debug__" : Str))=false:=by decide):wpAny (model X.prog X.w) X.A (eval (.Name x pos) X.env) Q E s :=
 Calls.Name_function_global I.ok.kind hg (Calls.loadGlobal_global (by rw[I.ok.glob];exact I.mod.glob.keeps I.bk) hm h) hd
theorem dy {s:Shared} {U:St} {H:Hp} {pos:Pos} (I:Inv X pins U H s) (hg:Gl X x) (hm:X.mg x=none) (hv:bootBuiltins x=some u) (h:Q u s)
  (hn:x ≠ "__name__" := by decide) (hd:(x==("__debug__" : Str))=false:=by decide):wpAny (model X.prog X.w) X.A (eval (.Name x pos) X.env) Q E s:=by
 obtain⟨mb,h1,h2⟩:=I.mod.blt;exact Calls.Name_function_global I.ok.kind hg (Calls.loadGlobal_builtin (by rw[I.ok.glob];exact I.mod.glob.keeps I.bk) hm (by rw[I.ok.blt];exact h1.keeps I.bk) ((h2 x hn).trans hv) h) hd
theorem cH {v:V} {pos:Pos} (hg:Gl X x) (hm:X.mg x=some u) (r:aF v u) (hd:(x==("__debug__" : Str))=false:=by decide):PE X (.Name x pos) (tC v) :=
 λ_ _ _ H _ I h=>d9 I hg hm ⟨v,H,I,r,h⟩ hd
theorem gJ {v:V} {pos:Pos} (hg:Gl X x) (hm:X.mg x=none) (hv:bootBuiltins x=some u) (r:aF v u) (hn:x ≠ "__name__" := by decide) (hd:(x==("__debug__" : Str))=false:=by decide):PE X (.Name x pos) (tC v) :=
 λ_ _ _ H _ I h=>dy I hg hm hv ⟨v,H,I,r,h⟩ hn hd
variable {a b:Expr} {ta tb:TE} {pos:Pos}
def PC (X:Cx) (op:CmpOp) (a b:Expr) (t:TE):Prop :=
 ∀(pins:B1) (s:Shared) (U:St) (H:Hp) (Q:VK),Inv X pins U H s->t U H Q ->
  wpAny (model X.prog X.w) X.A (eval a X.env) (λv s₁=>wpAny (model X.prog X.w) X.A (eval b X.env) (λu s₂=>wpAny (model X.prog X.w) X.A (compareOp op v u) (EP X pins U Q) X.xe s₂) X.xe s₁) X.xe s
def tB (t:TE):TT:=λU H Q=>t U H λx H1=>∃c,x=.bl c/\Q c H1
theorem kz {op:CmpOp} {t:TE} (h:PC X op a b t) (h1:behindInMarks op b=false:=by first|exact nobehind _ (by decide) (by decide)|rfl):PT X (.Compare a [op] [b] pos) (tB t):=by
 intro pins s U H Q I hw;refine wpAny_isTrue_Compare1 (thn (h pins s U H _ I hw) λv s1 h1=>thn h1 λu s2 h2=>thn h2 λc s3 ⟨x,H1,I1,r1,q1⟩=>?_) h1;obtain⟨d,rfl,q⟩:=q1;cases r1;exact wpAny_truthy_bool ⟨H1,I1,q⟩
theorem eM {e:Expr} {t:TE} (h:PE X e t) (he:∀whole,isTrue e X.env whole=(do let v <-whole;standAt e.pos;holding [v] (truthy v)):=by intro _;rfl):PT X e (tB t):=by
 intro pins s U H Q I hw;refine isTrue_plain (thn (h pins s U H _ I hw) λv s1 ⟨x,H1,I1,r1,q1⟩=>?_) (he _);obtain⟨d,rfl,q⟩:=q1;cases r1;exact wpAny_truthy_bool ⟨H1,I1,q⟩
variable {tA tB':TT} {rest:List Expr}
def vW (t u:TT):TT:=λU H Q=>t U H λc H1=>if c=true then u U H1 Q else Q false H1
def tOr (t u:TT):TT:=λU H Q=>t U H λc H1=>if c=true then Q true H1 else u U H1 Q
def xa (t:TT):TT:=λU H Q=>t U H λc H1=>Q (!c) H1
theorem fe (ha:PT X a tA):PW X (.BoolOp .And [a] pos) tA:=by
 intro wh pins s U H Q I h;refine isTrue_and (thn (ha pins s U H Q I h) λc s1 e=>?_)
 cases c with
 | true=>exact isTrue_and_nil e
 | false=>exact e
theorem fO (ha:PT X a tA):PW X (.BoolOp .Or [a] pos) tA:=by
 intro wh pins s U H Q I h;refine isTrue_or (thn (ha pins s U H Q I h) λc s1 e=>?_)
 cases c with
 | false=>exact isTrue_or_nil e
 | true=>exact e
theorem fP (ha:PT X a tA) (hb:PW X (.BoolOp .And (b::rest) pos) tB'):PW X (.BoolOp .And (a::b::rest) pos) (vW tA tB'):=by
 intro wh pins s U H Q I h;refine isTrue_and (thn (ha pins s U H _ I h) λc s1 ⟨H1,I1,q1⟩=>?_)
 cases c with
 | true=>exact hb wh pins s1 U H1 Q I1 q1
 | false=>exact⟨H1,I1,q1⟩
theorem jg (ha:PT X a tA) (hb:PW X (.BoolOp .Or (b::rest) pos) tB'):PW X (.BoolOp .Or (a::b::rest) pos) (tOr tA tB'):=by
 intro wh pins s U H Q I h;refine isTrue_or (thn (ha pins s U H _ I h) λc s1 ⟨H1,I1,q1⟩=>?_)
 cases c with
 | true=>exact⟨H1,I1,q1⟩
 | false=>exact hb wh pins s1 U H1 Q I1 q1
theorem kw (ha:PT X a tA):PT X (.UnaryOp .Not a pos) (xa tA):=by
 intro pins s U H Q I h;exact isTrue_not (ha pins s U H (λc H1=>Q (!c) H1) I h)
def uS (ta tb:TE):TE:=λU H Q=>ta U H λx H1=>∃c,x=.bl c/\if c=true then tb U H1 Q else Q (.bl false) H1
def AK (ta tb:TE):TE:=λU H Q=>ta U H λx H1=>∃c,x=.bl c/\if c=true then Q (.bl true) H1 else tb U H1 Q
def uO (ta:TE):TE:=λU H Q=>ta U H λx H1=>∃c,x=.bl c/\Q (.bl (!c)) H1
theorem wb {op} {t:TE} (h:PE X a t):PE X (.BoolOp op [a] pos) t:=λpins s U H Q I hw=>BoolOp_one (h pins s U H Q I hw)
theorem we (ha:PE X a ta) (hb:PE X (.BoolOp .And (b::rest) pos) tb):PE X (.BoolOp .And (a::b::rest) pos) (uS ta tb):=by
 intro pins s U H Q I h;refine BoolOp_and (thn (ha pins s U H _ I h) λv s1 ⟨x,H1,I1,r1,q1⟩=>?_);obtain⟨c,rfl,q1⟩:=q1;cases r1;refine wpAny_truthy_bool ?_
 cases c with
 | true=>exact hb pins s1 U H1 Q I1 q1
 | false=>exact⟨.bl false,H1,I1,rfl,q1⟩
theorem rC (ha:PE X a ta):PE X (.UnaryOp .Not a pos) (uO ta):=by
 intro pins s U H Q I h;refine UnaryOp_ (thn (ha pins s U H _ I h) λv s1 ⟨x,H1,I1,r1,q1⟩=>?_);obtain⟨c,rfl,q1⟩:=q1;cases r1;exact not_of (wpAny_truthy_bool ⟨.bl (!c),H1,I1,rfl,q1⟩)
def tIf (t:TT) (ta tb:TE):TE:=λU H Q=>t U H λc H1=>if c=true then ta U H1 Q else tb U H1 Q
theorem rD {c:Expr} (hc:PT X c tA) (ha:PE X a ta) (hb:PE X b tb):PE X (.IfExp c a b pos) (tIf tA ta tb):=by
 intro pins s U H Q I h;refine wpAny_IfExp (thn (hc pins s U H _ I h) λd s1 ⟨H1,I1,q1⟩=>?_)
 cases d with
 | true=>exact ha pins s1 U H1 Q I1 q1
 | false=>exact hb pins s1 U H1 Q I1 q1
end
def SqL (K:PySem.W.Frag) (H:Hp) (a:Addr) (xs:List V):Prop :=
 Rd H a (.lst xs) \/
  ∃(o:Obj) (its:Array Value) (n:Nat),K.lookup a=some o/\o.cls=.type "list" /\ o.dict=none/\o.data=.seq its n/\its.size<=sizeLine/\aG xs its.toList
def SqT (K:PySem.W.Frag) (H:Hp) (a:Addr) (xs:List V):Prop :=
 Rd H a (.tup xs) \/
  ∃(o:Obj) (its:Array Value) (n:Nat),K.lookup a=some o/\o.cls=.type "tuple" /\ o.data=.seq its n/\its.size<=sizeLine/\aG xs its.toList
noncomputable def BD:Value->Option V
 | .none=>some .non
 | .bool b=>some (.bl b)
 | .int i _=>some (.int i)
 | .str x _=>some (.str x)
 | .bytes b _=>some (.byt b)
 | .float b _=>some (.flt b)
 | .ref a=>some (.ref a)
 | .type n=>some (.ty n)
 | _=>none
theorem aF.abs {x:V} (r:aF x u):BD u=some x:=by
 cases x with
 | non=>cases r;rfl
 | bl _=>cases r;rfl
 | int _=>obtain⟨t,rfl⟩:=r;rfl
 | str _=>obtain⟨t,rfl⟩:=r;rfl
 | byt _=>obtain⟨t,rfl⟩:=r;rfl
 | flt _=>obtain⟨t,rfl⟩:=r;rfl
 | ref _=>cases r;rfl
 | ty _=>cases r;rfl
theorem aF.inj {x y:V} (r:aF x u) (q:aF y u):x=y:=QY (r.abs.symm.trans q.abs)
theorem aG.inj:∀{xs ys:List V} {us:List Value},aG xs us->aG ys us->xs=ys
 | _,_,_,.nil,.nil=>rfl
 | _,_,_,.cons r t,.cons r' t'=>by rw[r.inj r',aG.inj t t']
section
variable {X:Cx} {pins:B1} {U:St} {H:Hp} {s:Shared} {a:Addr} {xs ys:List V}
theorem SqL.of {K:PySem.W.Frag} (h:H a=some (.lst xs)):SqL K H a xs:=.inl (.inl h)
theorem SqT.of {K:PySem.W.Frag} (h:H a=some (.tup xs)):SqT K H a xs:=.inl (.inl h)
theorem Inv.list (I:Inv X pins U H s) (h:SqL X.K H a xs):∃its:List Value,aG xs its/\PlainL s.heap a its.toArray/\xs.length<=sizeLine:=by
 rcases h with h|⟨o,its,n,hk,hc,hd,hs,hz,r⟩
 ·obtain⟨z,its,n,r,e⟩:=h.ok I.hok;exact⟨its,r,⟨_,n,e,rfl,rfl,rfl⟩,z⟩
 refine⟨its.toList,r,⟨o,n,I.kIn a o hk,hc,hd,by simpa using hs⟩,?_⟩;have e:=r.length;simp only[QC]at e;omega
theorem Inv.tuple (I:Inv X pins U H s) (h:SqT X.K H a xs):∃its:List Value,aG xs its/\IsTup s.heap a its.toArray/\xs.length<=sizeLine:=by
 rcases h with h|⟨o,its,n,hk,hc,hs,hz,r⟩
 ·obtain⟨z,its,r,p⟩:=h.ok I.hok;exact⟨its,r,p,z⟩
 refine⟨its.toList,r,⟨o,I.kIn a o hk,hc,n,by simpa using hs⟩,?_⟩;have e:=r.length;simp only[QC]at e;omega
theorem Inv.list_inj (I:Inv X pins U H s) (h:SqL X.K H a xs) (h':SqL X.K H a ys):xs=ys:=by
 obtain⟨its,r,⟨o,n,e,_,_,d⟩,_⟩:=I.list h;obtain⟨its',r',⟨o',n',e',_,_,d'⟩,_⟩:=I.list h';rw[e]at e';cases e';rw[d]at d';injection d' with d1 _;have:its=its':=by simpa using congrArg Array.toList d1
 subst this;exact r.inj r'
end
abbrev Cx.wish (X:Cx) (E:B0):Cx:={ X with xe:=E }
abbrev Cx.nox (X:Cx):Cx:=X.wish λ_ _=>False
theorem Cx.Ok.wish (ok:X.Ok) (E:B0):(X.wish E).Ok :=
 ⟨ok.mod,ok.kind,ok.glob,ok.blt,ok.above,ok.inj,ok.has,ok.cab,ok.hd,ok.frames,ok.stk,ok.exf,ok.bs,ok.bsz,ok.noex,ok.exfs,ok.funs,ok.frf⟩
theorem Cx.Ok.unwish (ok:(X.wish E).Ok):X.Ok :=
 ⟨ok.mod,ok.kind,ok.glob,ok.blt,ok.above,ok.inj,ok.has,ok.cab,ok.hd,ok.frames,ok.stk,ok.exf,ok.bs,ok.bsz,ok.noex,ok.exfs,ok.funs,ok.frf⟩
section
variable {X:Cx} {pins:B1} {U:St} {H:Hp} {s:Shared} {E:B0}
theorem Inv.wish (I:Inv X pins U H s) (E:B0):Inv (X.wish E) pins U H s:=⟨I.ok.wish E,I.os,I.bare,I.base,I.loc,I.cell,I.free,I.freeC,I.pin,I.hok,I.len⟩
theorem Inv.unwish (I:Inv (X.wish E) pins U H s):Inv X pins U H s:=⟨I.ok.unwish,I.os,I.bare,I.base,I.loc,I.cell,I.free,I.freeC,I.pin,I.hok,I.len⟩
theorem SP.unwish {D:Ends} {f:Flow} {s':Shared} (h:SP (X.wish E) pins D f s'):SP X pins D f s':=by
 cases f with
 | next=>obtain⟨σ',H',I,q⟩:=h;exact⟨σ',H',I.unwish,q⟩
 | brk=>obtain⟨σ',H',I,q⟩:=h;exact⟨σ',H',I.unwish,q⟩
 | cont=>obtain⟨σ',H',I,q⟩:=h;exact⟨σ',H',I.unwish,q⟩
 | ret u=>obtain⟨v,σ',H',I,r,q⟩:=h;exact⟨v,σ',H',I.unwish,r,q⟩
theorem PSs.nox {st:List Stmt} {t:TS} (h:PSs X.nox st t):PSs X st t:=λpins s U H D I hw =>
 Xg (h pins s U H D (I.wish _) hw) (λ_ _ q=>q.unwish) λ_ _ z=>False.elim z
end
section
variable {X:Cx} {st:Stmt} {rest:List Stmt} {t u:TS} {e:Expr} {te:TE} {pos:Pos}
def uP:TS:=λD U H=>D.nx U H
def tI (t u:TS):TS:=λD U H=>t { D with nx:=u D } U H
theorem pss_nil:PSs X [] uP:=λ_ _ U H _ I h=>wpAny_execs_nil ⟨U,H,I,h⟩
theorem pss_cons (h1:PS X st t) (h2:PSs X rest u):PSs X (st::rest) (tI t u):=by
 intro pins s U H D I h;refine wpAny_execs_cons (thn (h1 pins s U H { D with nx:=u D } I h) λf s1 q=>?_)
 cases f with
 | next =>
  obtain⟨σ',H',I',q⟩:=q;exact h2 pins s1 σ' H' D I' q
 | ret v=>exact q
 | brk=>exact q
 | cont=>exact q
theorem pss_one (h1:PS X st t):PSs X [st] t:=by
 intro pins s U H D I h;refine wpAny_execs_cons (thn (h1 pins s U H D I h) λf s1 q=>?_)
 cases f with
 | next=>exact wpAny_execs_nil q
 | ret v=>exact q
 | brk=>exact q
 | cont=>exact q
theorem Inv.quiet {pins:B1} {U:St} {H:Hp} {s:Shared} (I:Inv X pins U H s):interactive X.env=false:=by simp[interactive,I.ok.kind]
def uQ (te:TE):TS:=λD U H=>te U H λ_ H1=>D.nx U H1
theorem bV (he:PE X e te) (hs:swapsWith e none pos.line X.env=pure false:=by rfl):PS X (.Expr e pos) (uQ te):=by
 intro pins s U H D I h;exact wpAny_Expr_any (thn (he pins s U H _ I h) λv s1 ⟨x,H1,I1,r1,q1⟩=>⟨U,H1,I1,q1⟩) I.quiet hs
def w_ (te:TE):TS:=λD U H=>te U H D.rt
theorem aN (he:PE X e te):PS X (.Return (some e) pos) (w_ te):=by
 intro pins s U H D I h;exact wpAny_Return_some (thn (he pins s U H _ I h) λv s1 ⟨x,H1,I1,r1,q1⟩=>⟨x,U,H1,I1,r1,q1⟩)
def xf (c:TT) (t u:TS):TS:=λD U H=>c U H λb H1=>if b=true then t D U H1 else u D U H1
theorem ps_if {c:Expr} {a b:List Stmt} {tc:TT} (hc:PT X c tc) (ha:PSs X a t) (hb:PSs X b u):PS X (.If c a b pos) (xf tc t u):=by
 intro pins s U H D I h;refine wpAny_If (thn (hc pins s U H _ I h) λd s1 ⟨H1,I1,q1⟩=>?_)
 cases d with
 | true=>exact ha pins s1 U H1 D I1 q1
 | false=>exact hb pins s1 U H1 D I1 q1
end
abbrev TG:=V->St->Hp->(St->Hp->Prop)->Prop
abbrev TGs:=List V->St->Hp->(St->Hp->Prop)->Prop
def PG (X:Cx) (target:Expr) (t:TG):Prop :=
 ∀(pins:B1) (s:Shared) (U:St) (H:Hp) (v:V) (u:Value) (Q:St->Hp->Prop),Inv X pins U H s->aF v u->t v U H Q ->
  wpAny (model X.prog X.w) X.A (assign target X.env u) (λ_ s'=>∃σ' H',Inv X pins σ' H' s'/\Q σ' H') X.xe s
def PGs (X:Cx) (ts:List Expr) (t:TGs):Prop :=
 ∀(pins:B1) (s:Shared) (U:St) (H:Hp) (vs:List V) (us:List Value) (Q:St->Hp->Prop),Inv X pins U H s->aG vs us->t vs U H Q ->
  wpAny (model X.prog X.w) X.A (assignInOrder ((assignEach ts X.env).map (·.2)) us) (λ_ s'=>∃σ' H',Inv X pins σ' H' s'/\Q σ' H') X.xe s
abbrev uF:=V->V->V->Hp->(Hp->Prop)->Prop
def AG (X:Cx) (t:uF):Prop :=
 ∀(pins:B1) (s:Shared) (U:St) (H:Hp) (o i v:V) (ov iv u:Value) (Q:Hp->Prop),Inv X pins U H s->aF o ov->aF i iv->aF v u->t o i v H Q ->
  wpAny (model X.prog X.w) X.A (setItem ov iv u) (λ_ s'=>∃H',Inv X pins U H' s'/\Q H') X.xe s
abbrev TIp:=V->V->Hp->VK->Prop
def PIp (X:Cx) (op:Operator) (t:TIp):Prop :=
 ∀(pins:B1) (s:Shared) (U:St) (H:Hp) (x y:V) (v u:Value) (Q:VK),Inv X pins U H s->aF x v->aF y u->t x y H Q ->
  wpAny (model X.prog X.w) X.A (inplaceOp op v u) (EP X pins U Q) X.xe s
section
variable {X:Cx} {pos:Pos}
def cT (i:Nat):TG:=λv U H Q=>Q (U.set i (some v)) H
variable {x:Str}
theorem ce {i:Nat} (hN:X.N.Nodup) (hi:X.N[i]?=some x) (hx:Loc X.env.scope x) (hf:X.fn x=true\/X.env.scope.names.lookup x=some .local:=by z_go):PG X (.Name x pos) (cT i):=by
 intro pins s U H v u Q I r h;exact wpAny_assign_Name (dI I hN hi hx r (λs' I'=>⟨_,H,I',h⟩) hf)
theorem bU (i:Nat) (hN:X.N.Nodup) (hi:X.N[i]?=some x:=by rfl) (hx:Loc X.env.scope x:=by z_go) (hf:X.fn x=true\/X.env.scope.names.lookup x=some .local:=by z_go):PG X (.Name x pos) (cT i):=ce hN hi hx hf
def wP:TGs:=λvs U H Q=>vs=[]/\Q U H
def ms (t:TG) (u:TGs):TGs:=λvs U H Q=>∃v r,vs=v::r/\t v U H λσ' H'=>u r σ' H' Q
theorem cS:PGs X [] wP:=by
 intro pins s U H vs us Q I r h;obtain⟨e,h⟩:=h;subst e;cases r;exact assignInOrder_nil ⟨U,H,I,h⟩
variable {e o i tg:Expr}
theorem br {es:List Expr} {t:TG} {u:TGs} (h1:PG X e t) (h2:PGs X es u)
  (hs:(assignEach (e::es) X.env).map (·.2)=assign e X.env::(assignEach es X.env).map (·.2):=by rfl):PGs X (e::es) (ms t u):=by
 intro pins s U H vs us Q I r h;obtain⟨v,vr,e1,h⟩:=h;subst e1
 cases r with
 | cons r rr =>
 rw[hs];refine assignInOrder_cons (thn (h1 pins s U H _ _ _ I r h) λ_ s1 ⟨σ1,H1,I1,q1⟩=>?_);exact h2 pins s1 σ1 H1 _ _ Q I1 rr q1
def uB (K:PySem.W.Frag) (n:Nat) (t:TGs):TG:=λv U H Q=>∃a xs,v=.ref a/\SqT K H a xs/\xs.length=n/\t xs U H Q
theorem fR {es:List Expr} {k:Nat} {t:TGs} {n:Nat} (hc:X.calm=true) (h:PGs X es t)
  (hn:(assignEach es X.env).length=n:=by rfl) (hst:(assignEach es X.env).findIdx? (·.1)=none:=by rfl):PG X (.Tuple es k pos) (uB X.K n t):=by
 intro pins s U H v u Q I r hw;obtain⟨a,xs,e1,hq,hl,hw⟩:=hw;subst e1;cases r;obtain⟨its,rv,ht,hz⟩:=I.tuple hq;refine assign_Tuple_tuple (I.ok.hd hc) ht (by simp[hn,<-hl,rv.length]) hst λh' hx=>?_;have I1:Inv X pins U H { s with heap:=h' }:=I.kept (t':=s.toks) λb o e=>hx b o (QI (Qo e)) e;exact h pins _ U H xs _ Q I1 (by simpa using rv) hw
def AA (to ti:TE) (t:uF):TG:=λv U H Q=>to U H λo H1=>ti U H1 λi H2=>t o i v H2 λH3=>Q U H3
variable {to te:TE}
theorem rp {ti:TE} {t:uF} (ho:PE X o to) (hi:PE X i ti) (hs:AG X t)
  (ha:∀v,assign (.Subscript o i pos) X.env v=(do
   let ov <-holding [v] (eval o X.env);let iv <-holding [v,ov] (eval i X.env)
   standAt pos
   holding [v,ov,iv] (setItem ov iv v)
   release [v,ov,iv] []):=by intro _;rfl):PG X (.Subscript o i pos) (AA to ti t):=by
 intro pins s U H v u Q I r h;rw[ha];refine Qi (XA (thn (ho pins s U H _ I h) λov s1 ⟨x,H1,I1,r1,q1⟩=>?_));refine Qi (XA (thn (hi pins s1 U H1 _ I1 q1) λiv s2 ⟨y,H2,I2,r2,q2⟩=>?_));refine Qi (wpAny_standAt (Qi (XA (thn (hs pins s2 U H2 x y v ov iv u _ I2 r1 r2 r q2) λ_ s3 ⟨H3,I3,q3⟩=>?_))));exact wpAny_release ⟨U,H3,I3,q3⟩
def qN (te:TE) (g:TG):TS:=λD U H=>te U H λx H1=>g x U H1 D.nx
theorem re {g:TG} (he:PE X e te) (hg:PG X tg g) (hs:swapsWithSole [tg] e pos.line X.env=pure false:=by rfl) (hw:swappedStores [tg] e X.env=pure none:=by rfl)
  (h1:(assignEach [tg] X.env).map (·.2)=[assign tg X.env]:=by rfl):PS X (.Assign [tg] e pos) (qN te g):=by
 intro pins s U H D I h;refine wpAny_Assign_stores (thn (he pins s U H _ I h) λv s1 ⟨x,H1,I1,r1,q1⟩=>?_) hs hw;rw[h1];exact thn (hg pins s1 U H1 x v _ I1 r1 q1) λ_ s2 q=>q
variable {pos':Pos}
theorem kA {i:Nat} (hN:X.N.Nodup) (hi:X.N[i]?=some x) (hx:Loc X.env.scope x) (he:PE X e te) (hs:swapsWith e (some (.Name x pos')) pos.line X.env=pure false:=by rfl) (hf:X.fn x=true\/X.env.scope.names.lookup x=some .local:=by z_go) :
  PS X (.Assign [.Name x pos'] e pos) (qN te (cT i)):=by
 intro pins s U H D I h;refine wpAny_Assign_Name (thn (he pins s U H _ I h) λv s1 ⟨y,H1,I1,r1,q1⟩=>?_) hs;exact dI I1 hN hi hx r1 (λs2 I2=>⟨_,H1,I2,q1⟩) hf
theorem aB (i:Nat) (hN:X.N.Nodup) (he:PE X e te) (hi:X.N[i]?=some x:=by rfl) (hx:Loc X.env.scope x:=by z_go) (hs:swapsWith e (some (.Name x pos')) pos.line X.env=pure false:=by rfl) (hf:X.fn x=true\/X.env.scope.names.lookup x=some .local:=by z_go):PS X (.Assign [.Name x pos'] e pos) (qN te (cT i)):=kA hN hi hx he hs hf
def AL (i:Nat) (te:TE) (ti:TIp):TS:=λD U H=>∃x,U[i]?=some (some x)/\te U H λy H1=>ti x y H1 λz H2=>D.nx (U.set i (some z)) H2
theorem v9 {i:Nat} {op:Operator} {ti:TIp} (hN:X.N.Nodup) (hi:X.N[i]?=some x) (hx:Loc X.env.scope x) (he:PE X e te) (ho:PIp X op ti) (hf:X.fn x=true\/X.env.scope.names.lookup x=some .local:=by z_go) :
  PS X (.AugAssign (.Name x pos') op e pos) (AL i te ti):=by
 intro pins s U H D I h;obtain⟨v,e1,h⟩:=h;obtain⟨m,hn,hl⟩:=I.loc;have vis:Vis X.env.scope x:=by rcases hx with k|k;exact .inl k;exact .inr (.inl k)
 obtain⟨u,r,l⟩:=hl i x v hi e1 vis;refine wpAny_AugAssign_Name ?_
 have go:wpAny (model X.prog X.w) X.A (eval e X.env) (λw s₂=>wpAny (model X.prog X.w) X.A (inplaceOp op u w) (λr s₃=>wpAny (model X.prog X.w) X.A (storeName X.env x r) (λ_=>SP X pins D .next) X.xe s₃) X.xe s₂) X.xe s:=by
  refine thn (he pins s U H _ I h) λw s1 ⟨y,H1,I1,r1,q1⟩=>?_;refine thn (ho pins s1 U H1 v y u w _ I1 r r1 q1) λz s2 ⟨zv,H2,I2,r2,q2⟩=>?_;exact dI I2 hN hi hx r2 (λs3 I3=>⟨_,H2,I3,q2⟩) hf
 rcases l with⟨hk,hm⟩|⟨hk,c,hc,hcell⟩
 ·exact wpAny_loadName_local I.ok.kind hk hn hm go
 rcases hk with hk|hk
 ·exact wpAny_loadName_cell I.ok.kind hk hc hcell go
 rcases hx with k|k
 ·have:X.env.scope.names.lookup x=some .free:=hk;rw[k]at this;cases this
 have:X.env.scope.names.lookup x=some .free:=hk;rw[k]at this;cases this
def ipI (f:Int->Int->Int):TIp:=λx y H Q=>∃i j,x=.int i/\y=.int j/\Q (.int (f i j)) H
theorem wK:PIp X .Add (ipI λi j=>i+j):=by
 intro pins s U H x y v u Q I r1 r2 h;obtain⟨i,j,e1,e2,q⟩:=h;subst e1;subst e2;obtain⟨t,rfl⟩:=r1;obtain⟨t',rfl⟩:=r2;exact iadd_int ⟨.int _,H,I.tok _,⟨_,rfl⟩,q⟩
end
section
variable {X:Cx} {pos:Pos}
def vS (c:TT) (tb:TS):TS:=λD U H=>∃W:Nat->St->Hp->Prop,(∃m,W m U H)/\∀m U H,W m U H ->
 c U H λb H1=>if b=true then ∃N:St->Hp->Prop,(∀σ' H',N σ' H'->∃m',m'<m/\W m' σ' H')/\tb { D with nx:=N,ct:=N,bk:=D.nx } U H1 else D.nx U H1
theorem lR {c:Expr} {body:List Stmt} {tc:TT} {tb:TS} (hp:PassesOwn (model X.prog X.w) X.A X.env X.xe) (hc:PT X c tc) (hb:PSs X body tb):PS X (.While c body [] pos) (vS tc tb):=by
 intro pins s U H D I h;obtain⟨W,⟨m0,w0⟩,turn⟩:=h;refine wpAny_While (codeAny_whileLoop (λn s'=>∃σ' H',Inv X pins σ' H' s'/\W n σ' H') ?_ m0 ⟨U,H,I,w0⟩);rintro n s1 ⟨σ1,H1,I1,w1⟩;refine wpAny_passesOwn hp (thn (hc pins s1 σ1 H1 _ I1 (turn n σ1 H1 w1)) λb s2 ⟨H2,I2,q2⟩=>?_)
 cases b with
 | true =>
  obtain⟨N,hN,q2⟩:=q2;rw[Qv rfl];refine wpAny_passesOwn hp (thn (hb pins s2 σ1 H2 _ I2 q2) λf s3 q3=>?_)
  cases f with
  | next =>
   obtain⟨σ3,H3,I3,n3⟩:=q3;obtain⟨m',hm,w3⟩:=hN σ3 H3 n3;exact⟨m',hm,σ3,H3,I3,w3⟩
  | cont =>
   obtain⟨σ3,H3,I3,n3⟩:=q3;obtain⟨m',hm,w3⟩:=hN σ3 H3 n3;exact⟨m',hm,σ3,H3,I3,w3⟩
  | brk=>exact q3
  | ret v=>exact q3
 | false =>
 rw[Qz Qj];exact wpAny_execs_nil ⟨σ1,H2,I2,q2⟩
end
structure It where
 go:Nat->Hp->Prop
 yld:Nat->Hp->V->Hp->Prop
 stop:Nat->Hp->Prop
def eW (X:Cx) (pins:B1) (H:Hp) (b:Addr):Prop :=
 H b=none/\b≠X.env.locals/\b∉X.fs/\(b∈X.ex\/X.s₀.heap.objs.size<=b)/\(∀x c,X.env.cells.lookup x=some c->c≠b)/\∀p∈X.pn++pins,p.1≠b
theorem Inv.fpOk {pins:B1} {U:St} (I:Inv X pins U H s) (hb:s.heap.objs.size<=b) (hn:H' b=none):eW X pins H' b:=by
 refine⟨hn,Nat.ne_of_gt (Qy I.lt hb),I.nofs hb,.inr (QQ I.sz hb),λx c e z=>?_,λp hp z=>?_⟩
 ·obtain⟨v,q⟩:=I.cell x c e;exact absurd (Qy q.lt (by rw[z];exact hb)) (Nat.lt_irrefl _)
 exact absurd (Qy (Qo (I.pin p hp).1) (by rw[z];exact hb)) (Nat.lt_irrefl _)
structure Turn (P:Program) (w:World) (K:PySem.W.Frag) (tg:Expr) (J:It) (fp:B3) (it:Addr) (tn:Nat->Heap->Prop):Prop where
 mem:it∈fp
 obj:∀i h,tn i h->∀b∈fp,∃o,h.get? b=some o/\∀v,o.data≠.cell v
 keep:∀i h h',tn i h->(∀b∈fp,∀o,h.get? b=some o->h'.get? b=some o)->tn i h'
 item:∀(X:Cx),X.prog=P->X.w=w->X.K=K->X.calm=true->∀(i:Nat) (pins:B1) (s:Shared) (U:St) (H:Hp) (E:B0),Inv X pins U H s->(∀b∈fp,eW X pins H b)->tn i s.heap->J.go i H ->
  wpAny (model P w) X.A (pyNext (.ref it)) (λr s1=>∃u,r=some u /\
   wpAny (model P w) X.A (letOwnedTupleGo tg (.ref it) u) (λ_ s2=>∃x H',Inv X pins U H' s2/\aF x u/\J.yld i H x H'/\tn (i+1) s2.heap/\∀b∈fp,H' b=none) E s1) E s
 done:∀(X:Cx),X.prog=P->X.w=w->X.K=K->X.calm=true->∀(i:Nat) (pins:B1) (s:Shared) (U:St) (H:Hp) (E:B0),Inv X pins U H s->(∀b∈fp,eW X pins H b)->tn i s.heap->J.stop i H ->
  wpAny (model P w) X.A (pyNext (.ref it)) (λr s1=>r=none/\Inv X pins U H s1) E s
 self:∀(A:Around) (i:Nat) (s:Shared) (Q:B0) (E:B0),tn i s.heap->Q (.ref it) s->wpAny (model P w) A (pyIter (.ref it)) Q E s
abbrev TI:=St->Hp->(It->Hp->Prop)->Prop
def PIE (X:Cx) (pins:B1) (U:St) (tg:Expr) (R:It->Hp->Prop) (itv:Value) (s2:Shared):Prop :=
 ∃(it:Addr) (fp:B3) (tn:Nat->Heap->Prop) (J:It) (H':Hp),itv=.ref it/\Inv X pins U H' s2/\Turn X.prog X.w X.K tg J fp it tn/\tn 0 s2.heap/\(∀b∈fp,eW X pins H' b)/\R J H'
def PI (X:Cx) (tg iter:Expr) (wi:TI):Prop :=
 ∀(pins:B1) (s:Shared) (U:St) (H:Hp) (R:It->Hp->Prop),Inv X pins U H s->wi U H R ->
  wpAny (model X.prog X.w) X.A (eval iter X.env) (λv s1=>wpAny (model X.prog X.w) X.A (pyIter v) (PIE X pins U tg R) X.xe s1) X.xe s
theorem sM {M:Model} {s:Shared} {o:Obj} {n:String} {vs:Array Value} {Q:Unit->Shared->Prop} (ho:s.heap.get? it=some o) (hc:o.cls=.type n) (hd:o.data=.fields vs)
  (hn:["enumerate", "zip", "dict_itemiterator", "dict_reverseitemiterator", "odict_iterator", "itertools.zip_longest", "itertools.pairwise"].contains n=false) (hQ:Q () s):wpAny M A (letOwnedTupleGo tg (.ref it) u) Q E s:=by
 unfold letOwnedTupleGo
 cases tg <;> first
  | exact QJ hQ
  | (cases u <;> first
    | exact QJ hQ
    |(refine Qi (wpAny_load ho ?_)
      rw[hc,hd];show wpAny M A (if (["enumerate", "zip", "dict_itemiterator", "dict_reverseitemiterator", "odict_iterator", "itertools.zip_longest", "itertools.pairwise"].contains n&&vs[0]?==some (rawInt _))=true then _ else _) Q E s;rw[Qz (by intro h;rw[hn,Bool.false_and]at h;cases h)]
      exact QJ hQ))
def Itl (K:PySem.W.Frag) (a:Addr):It :=
 ⟨λi H=>∃xs x,SqL K H a xs/\xs[i]?=some x,λi H x H'=>H'=H/\∀xs,SqL K H a xs->xs[i]?=some x,λi H=>∃xs,SqL K H a xs/\xs.length<=i⟩
def Itr (lo:Int) (n:Nat):It:=⟨λi _=>i<n,λi H x H'=>H'=H/\x=.int (lo+i),λi _=>n<=i⟩
theorem pj {P:Program} {w:World} {K:PySem.W.Frag} (a it:Addr):Turn P w K tg (Itl K a) [it] it (λi h=>h.IsListIter it a i) where
 mem:=by simp
 obj:=λi h st b hb=>by
  have e:b=it:=by simpa using hb
  subst e;obtain⟨o,e,c,d⟩:=st;exact⟨o,e,λv z=>by rw[d]at z;cases z⟩
 keep:=λi h h' st k=>st.at λo e=>k it (by simp) o e
 item:=by
  intro X hP hw hK hc i pins s U H E I hf st hg;subst hP hw hK;obtain⟨xs,x,hq,hx⟩:=hg;obtain⟨its,rv,p,hz⟩:=I.list hq;obtain⟨u,hu,ru⟩:=rv.get hx;obtain⟨f0,f1,f2,f3,f4,f5⟩:=hf it (by simp);refine wpAny_pyNext_list_item st p.isList (x:=u) (by simpa using hu) λh' st' sb=>?_;have I1:Inv X pins U H { s with heap:=h' }:=I.turned (t':=s.toks) (λb o hb e=>(sb.2 b hb).trans e) f0 f1 f3 f4 f5;obtain⟨o,e,c,d⟩:=id st';exact⟨u,rfl,sM (s:={ s with heap:=h' }) e c d (by decide) ⟨x,H,I1,ru,⟨rfl,λys hy=>by rw[I.list_inj hy hq];exact hx⟩,st',λb hb=>(hf b hb).1⟩⟩
 done:=by
  intro X hP hw hK hc i pins s U H E I hf st hg;subst hP hw hK;obtain⟨xs,hq,hx⟩:=hg;obtain⟨its,rv,p,hz⟩:=I.list hq;obtain⟨f0,f1,f2,f3,f4,f5⟩:=hf it (by simp);have hl:=rv.length;exact wpAny_pyNext_list_end (I.ok.hd hc) st p.isList (by simp;omega) λh' eb=>⟨rfl,I.turned (t':=s.toks) (λb o hb e=>eb b o hb e) f0 f1 f3 f4 f5⟩
 self:=λ_ _ _ _ _ st h=>wpAny_pyIter_listiter st h
theorem m7 {P:Program} {w:World} {K:PySem.W.Frag} (it:Addr) (lo:Int) (n:Nat):Turn P w K tg (Itr lo n) [it] it (λi h=>IsRangeIter h it (lo+(i:Nat)*1) ((n:Int)-(i:Nat)) 1) where
 mem:=by simp
 obj:=λi h st b hb=>by
  have e:b=it:=by simpa using hb
  subst e
  exact⟨_,st,λv z=>by
   have z':Data.fields _=Data.cell v:=z
   cases z'⟩
 keep:=λi h h' st k=>k it (by simp) _ st
 item:=by
  intro X hP hw hK hc i pins s U H E I hf st hg;subst hP hw hK;obtain⟨f0,f1,f2,f3,f4,f5⟩:=hf it (by simp);have W:=Walks.range (prog:=X.prog) (w:=X.w) (I.ok.hd hc) it lo 1 n;refine W.item i s _ _ hg st λv h' tk hv st' kk=>?_;obtain⟨t,rfl⟩:=hv;have I1:Inv X pins U H { s with heap:=h',toks:=tk }:=I.turned (λb o hb e=>kk b o (by simpa using hb) e) f0 f1 f3 f4 f5;refine⟨_,rfl,sM (s:={ s with heap:=h',toks:=tk }) (n := "range_iterator") st' rfl rfl (by decide) ⟨.int (lo+i),H,I1,⟨t,?_⟩,⟨rfl,rfl⟩,st',λb hb=>(hf b hb).1⟩⟩;rw[Int.mul_one]
 done:=by
  intro X hP hw hK hc i pins s U H E I hf st hg;subst hP hw hK;obtain⟨f0,f1,f2,f3,f4,f5⟩:=hf it (by simp);exact wpAny_pyNext_range_end (I.ok.hd hc) st (by have:n<=i:=hg;omega) λh' eb=>⟨rfl,I.turned (t':=s.toks) (λb o hb e=>eb b o hb e) f0 f1 f3 f4 f5⟩
 self:=λ_ _ _ _ _ st h=>wpAny_pyIter_rangeiter st h
section
variable {X:Cx} {tg:Expr}
def ml (K:PySem.W.Frag) (tl:TE):TI:=λU H R=>tl U H λx H1=>∃a,x=.ref a/\(∃xs,SqL K H1 a xs)/\R (Itl K a) H1
variable {l a iter:Expr}
theorem bK {tl:TE} (hl:PE X l tl):PI X tg l (ml X.K tl):=by
 intro pins s U H R I h;refine thn (hl pins s U H _ I h) λv s1 ⟨x,H1,I1,r1,q1⟩=>?_;obtain⟨a,e,⟨xs,hq⟩,q⟩:=q1;subst e;cases r1;obtain⟨its,rv,p,hz⟩:=I1.list hq;refine wpAny_pyIter_list p.isList ?_;refine⟨s1.heap.objs.size,[s1.heap.objs.size],_,_,H1,rfl,I1.kept (t':=s1.toks) λb o e=>Qf _ e,pj a _,⟨_,QS _ rfl,rfl,rfl⟩,λb hb=>?_,q⟩;have e:b=s1.heap.objs.size:=by simpa using hb
 subst e;exact I1.fpOk (Qh _) (I1.hok.fresh (Qh _))
variable {s:Shared} {pins pl:B1}
theorem lO {U:St} {H:Hp} {R:It->Hp->Prop} {E:B0} {lo hi:Int} {t u v:Tok} {tk:Nat} (I:Inv X pins U H s) (h1:-(2 ^ 62)<=lo) (h2:lo<2 ^ 62) (h3:-(2 ^ 62)<=hi) (h4:hi<2 ^ 62)
  (q:R (Itr lo (hi-lo).toNat) H):wpAny (model X.prog X.w) X.A (pyIter (.ref s.heap.objs.size)) (PIE X pins U tg R) E { s with heap:=s.heap.push { cls:=.type "range", data:=.fields #[.int lo t,.int hi u,.int 1 v] },toks:=tk }:=by
 refine wpAny_pyIter_range (IsRange.new ..) (small_one h1 h2 h3 h4) ?_;have I1:Inv X pins U H { s with heap:=s.heap.push { cls:=.type "range", data:=.fields #[.int lo t,.int hi u,.int 1 v] },toks:=tk }:=I.kept λb o e=>Qf _ e
 refine⟨(s.heap.push { cls:=.type "range", data:=.fields #[.int lo t,.int hi u,.int 1 v] }).objs.size,[(s.heap.push { cls:=.type "range", data:=.fields #[.int lo t,.int hi u,.int 1 v] }).objs.size],_,_,H,rfl,
  I1.kept (t':=tk) λb o e=>Qf _ e,m7 _ lo (hi-lo).toNat,?_,λb hb=>?_,q⟩
 ·have e1:lo+((0:Nat):Int)*1=lo:=by simp
  have e2:(((hi-lo).toNat:Nat):Int)-((0:Nat):Int)=Builtin.Range.rangeSize lo hi 1:=by rw[rangeSize_one];split <;> omega
  show IsRangeIter _ _ (lo+((0:Nat):Int)*1) ((((hi-lo).toNat:Nat):Int)-((0:Nat):Int)) 1;rw[e1,e2];exact QS _ rfl
 have e:b=(s.heap.push { cls:=.type "range", data:=.fields #[.int lo t,.int hi u,.int 1 v] }).objs.size:=by simpa using hb
 subst e;exact I1.fpOk (Qh _) (I1.hok.fresh (Qh _))
def vI (ta:TA):TI:=λU H R=>ta U H λvs H1=>∃j:Int,vs=[.int j]/\-(2 ^ 62)<=j/\j<2 ^ 62/\R (Itr 0 j.toNat) H1
def vH (ta:TA):TI:=λU H R=>ta U H λvs H1=>∃i j:Int,vs=[.int i,.int j]/\(-(2 ^ 62)<=i/\i<2 ^ 62/\-(2 ^ 62)<=j/\j<2 ^ 62)/\R (Itr i (j-i).toNat) H1
theorem bP {ta:TA} {p pos:Pos} (hg:Gl X "range") (hm:X.mg "range" = none) (ha:PA X [a] ta) (hs:starEach [a] X.env=[(false,eval a X.env)]:=by rfl):PI X tg (.Call (.Name "range" p) [a] [] pos) (vI ta):=by
 intro pins s U H R I h;refine Call_ (dy I hg hm boot_range (Xf (thn (ha pos pins s U H _ I h) λus s1 ⟨vs,H1,I1,r1,q1⟩=>?_) hs rfl));obtain⟨j,e,q1,q2,q⟩:=q1;subst e
 cases r1 with
 | cons r rr =>
 cases rr;obtain⟨t,rfl⟩:=r;exact call_range_1 (lO I1 (by omega) (by omega) q1 q2 (by simpa using q))
theorem pI {b:Expr} {ta:TA} {p pos:Pos} (hg:Gl X "range") (hm:X.mg "range" = none) (ha:PA X [a,b] ta) (hs:starEach [a,b] X.env=[(false,eval a X.env),(false,eval b X.env)]:=by rfl) (hs2:starEach [b] X.env=[(false,eval b X.env)]:=by rfl) :
  PI X tg (.Call (.Name "range" p) [a,b] [] pos) (vH ta):=by
 intro pins s U H R I h;refine Call_ (dy I hg hm boot_range (Xf (thn (ha pos pins s U H _ I h) λus s1 ⟨vs,H1,I1,r1,q1⟩=>?_) (by rw[hs,hs2]) (by rw[hs2];rfl)));obtain⟨i,j,e,⟨q1,q2,q3,q4⟩,q⟩:=q1;subst e
 cases r1 with
 | cons r rr =>
 cases rr with
 | cons r' rr =>
 cases rr;obtain⟨t,rfl⟩:=r;obtain⟨t',rfl⟩:=r';exact call_range_2 (lO I1 q1 q2 q3 q4 q)
def xh (wi:TI) (g:TG) (tb:TS):TS:=λD U H=>wi U H λJ H1=>∃W:Nat->Nat->St->Hp->Prop,(∃m,W 0 m U H1)/\∀i m U H,W i m U H ->
 (J.stop i H/\D.nx U H)\/(J.go i H/\∃N:St->Hp->Prop,(∀σ' H',N σ' H'->∃m',m'<m/\W (i+1) m' σ' H')/\∀x H',J.yld i H x H'->g x U H' λσ2 H2=>tb { D with nx:=N,ct:=N,bk:=D.nx } σ2 H2)
def fQ (fp:B3) (h:Heap):B1:=fp.filterMap λb=>(h.get? b).map λo=>(b,o)
variable {fp:B3}
theorem cz {h:Heap} {b:Addr} {o:Obj} (hb:b∈fp) (e:h.get? b=some o):(b,o)∈fQ fp h:=List.mem_filterMap.mpr ⟨b,hb,by rw[e];rfl⟩
theorem pV {h:Heap} {p:Addr × Obj} (hp:p∈fQ fp h):p.1∈fp/\h.get? p.1=some p.2:=by
 obtain⟨b,hb,e⟩:=List.mem_filterMap.mp hp
 cases q:h.get? b with
 | none=>rw[q]at e;cases e
 | some o =>
 rw[q]at e;have e':(b,o)=p:=QY e;subst e';exact⟨hb,q⟩
theorem Inv.pinned {U:St} {H:Hp} (I:Inv X pins U H s) (hf:∀b∈fp,eW X pins H b) (ho:∀b∈fp,∃o,s.heap.get? b=some o/\∀v,o.data≠.cell v):Inv X (pins++fQ fp s.heap) U H s :=
 I.pins_of λp hp=>(Qk.mp hp).elim (λz=>I.pin p (QA _ z)) λz=>by
  obtain⟨hb,e⟩:=pV z;obtain⟨f0,f1,f2,_⟩:=hf p.1 hb;obtain⟨o,e',d⟩:=ho p.1 hb;rw[e]at e';cases e';exact⟨e,f0,f1,f2,d⟩
theorem Inv.unpinned {U:St} {H:Hp} (I:Inv X (pins++pl) U H s):Inv X pins U H s:=I.pins_of λp hp=>I.pin p (QA _ (Q6 _ hp))
theorem ps_for {body:List Stmt} {wi:TI} {g:TG} {tb:TS} {pos:Pos} (hp:PassesOwn (model X.prog X.w) X.A X.env X.xe) (hc:X.calm=true) (hi:PI X tg iter wi) (hg:PG X tg g) (hb:PSs X body tb)
  (hs:∀x,foldedSetIterable iter X.env x=pure x:=by intro _;rfl):PS X (.For tg iter body [] pos) (xh wi g tb):=by
 intro pins s U H D I h;refine wpAny_For (thn (hi pins s U H _ I h) λv s1 h1=>thn h1 λitv s2 h2=>?_) hs;obtain⟨it,fp,tn,J,H2,e,I2,T,st2,f2,W,⟨m0,w0⟩,turn⟩:=h2;subst e
 -- what stays true of the iterator's objects through the loop
 have stat:∀{H':Hp},(∀b∈fp,H' b=none)->∀b∈fp,eW X pins H' b:=λhn b hb=>⟨hn b hb,(f2 b hb).2⟩;refine codeAny_forLoop_any (λn s'=>∃i σ' H',Inv X pins σ' H' s'/\tn i s'.heap/\(∀b∈fp,H' b=none)/\W i n σ' H') ?_ m0 ⟨0,U,H2,I2,st2,λb hb=>(f2 b hb).1,w0⟩;rintro n s3 ⟨i,σ3,H3,I3,st3,fr3,w3⟩;rcases turn i n σ3 H3 w3 with⟨stop,qn⟩|⟨go,N,hN,step⟩
 ·refine wpAny_passesOwn hp (thn (T.done X rfl rfl rfl hc i pins s3 σ3 H3 X.xe I3 (stat fr3) st3 stop) λr s4 ⟨hr,I4⟩=>?_);subst hr;exact wpAny_execs_nil ⟨σ3,H3,I4,qn⟩
 refine wpAny_passesOwn hp (thn (T.item X rfl rfl rfl hc i pins s3 σ3 H3 X.xe I3 (stat fr3) st3 go) λr s4 ⟨u,hr,h4⟩=>?_);subst hr;refine wpAny_passesOwn hp (thn h4 λ_ s5 ⟨x,H5,I5,r5,y5,st5,fr5⟩=>?_);have I5':=I5.pinned (stat fr5) (T.obj _ _ st5);refine wpAny_passesOwn hp (thn (hg _ s5 σ3 H5 x u _ I5' r5 (step x H5 y5)) λ_ s6 ⟨σ6,H6,I6,q6⟩=>?_);refine wpAny_passesOwn hp (thn (hb _ s6 σ6 H6 _ I6 q6) λf s7 q7=>?_)
 have again:∀{σ7:St} {H7:Hp},Inv X (pins++fQ fp s5.heap) σ7 H7 s7->N σ7 H7->∃m,m<n/\∃i σ' H',Inv X pins σ' H' s7/\tn i s7.heap/\(∀b∈fp,H' b=none)/\W i m σ' H':=λ{σ7 H7} I7 n7=>by
  obtain⟨m',hm,w7⟩:=hN σ7 H7 n7;refine⟨m',hm,i+1,σ7,H7,I7.unpinned,T.keep _ _ _ st5 λb hb o e=>(I7.pin (b,o) (QA _ (QA _ (cz hb e)))).1,λb hb=>?_,w7⟩;obtain⟨o,e,d⟩:=T.obj _ _ st5 b hb;exact(I7.pin (b,o) (QA _ (QA _ (cz hb e)))).2.1
 cases f with
 | next=>obtain⟨σ7,H7,I7,n7⟩:=q7;exact again I7 n7
 | cont=>obtain⟨σ7,H7,I7,n7⟩:=q7;exact again I7 n7
 | brk=>obtain⟨σ7,H7,I7,q7⟩:=q7;exact⟨σ7,H7,I7.unpinned,q7⟩
 | ret v=>obtain⟨x7,σ7,H7,I7,r7,q7⟩:=q7;exact⟨x7,σ7,H7,I7.unpinned,r7,q7⟩
end
theorem cN {K:PySem.W.Frag} {xs:List V} {g:TG} {tb:TS} {D:Ends} {U:St} (Pv:Nat->St->Hp->Prop) (h0:Pv 0 U H) (hl:∀i U H,i<=xs.length->Pv i U H->SqL K H a xs)
  (hs:∀i x U H,xs[i]?=some x->Pv i U H->g x U H λσ2 H2=>tb { D with nx:=Pv (i+1),ct:=Pv (i+1),bk:=D.nx } σ2 H2) (hd:∀U H,Pv xs.length U H->D.nx U H) :
  ∃W:Nat->Nat->St->Hp->Prop,(∃m,W 0 m U H)/\∀i m U H,W i m U H ->
   ((Itl K a).stop i H/\D.nx U H)\/((Itl K a).go i H/\∃N:St->Hp->Prop,(∀σ' H',N σ' H'->∃m',m'<m/\W (i+1) m' σ' H')/\∀x H',(Itl K a).yld i H x H'->g x U H' λσ2 H2=>tb { D with nx:=N,ct:=N,bk:=D.nx } σ2 H2):=by
 refine⟨λi m U H=>m=xs.length-i/\i<=xs.length/\Pv i U H,⟨xs.length,by simp,Q5 _,h0⟩,?_⟩;rintro i m U H ⟨rfl,hi,p⟩;have q:=hl i U H hi p;by_cases hlt:i<xs.length
 ·refine .inr ⟨⟨xs,xs[i],q,by simp[hlt]⟩,Pv (i+1),λσ' H' p'=>⟨xs.length-(i+1),by omega,rfl,hlt,p'⟩,λx H' y=>?_⟩;obtain⟨e,y⟩:=y;subst e;exact hs i x U _ (y xs q) p
 have e:i=xs.length:=by omega
 subst e;exact .inl ⟨⟨xs,q,Qh _⟩,hd U H p⟩
theorem cZ {lo:Int} {n:Nat} {g:TG} {tb:TS} {D:Ends} {U:St} (Pv:Nat->St->Hp->Prop) (h0:Pv 0 U H)
  (hs:∀i U H,i<n->Pv i U H->g (.int (lo+i)) U H λσ2 H2=>tb { D with nx:=Pv (i+1),ct:=Pv (i+1),bk:=D.nx } σ2 H2) (hd:∀U H,Pv n U H->D.nx U H) :
  ∃W:Nat->Nat->St->Hp->Prop,(∃m,W 0 m U H)/\∀i m U H,W i m U H ->
   ((Itr lo n).stop i H/\D.nx U H)\/((Itr lo n).go i H/\∃N:St->Hp->Prop,(∀σ' H',N σ' H'->∃m',m'<m/\W (i+1) m' σ' H')/\∀x H',(Itr lo n).yld i H x H'->g x U H' λσ2 H2=>tb { D with nx:=N,ct:=N,bk:=D.nx } σ2 H2):=by
 refine⟨λi m U H=>m=n-i/\i<=n/\Pv i U H,⟨n,by simp,Q5 _,h0⟩,?_⟩;rintro i m U H ⟨rfl,hi,p⟩;by_cases hlt:i<n
 ·refine .inr ⟨hlt,Pv (i+1),λσ' H' p'=>⟨n-(i+1),by omega,rfl,hlt,p'⟩,λx H' y=>?_⟩;obtain⟨e,y⟩:=y;subst e y;exact hs i U _ hlt p
 have e:i=n:=by omega
 subst e;exact .inl ⟨Qh _,hd U H p⟩
abbrev R2:=V->V->Hp->VK->Prop
def OpR (X:Cx) (f:Value->Value->Sem Value) (r:R2):Prop :=
 ∀(pins:B1) (s:Shared) (U:St) (H:Hp) (x y:V) (v u:Value) (Q:VK),Inv X pins U H s->aF x v->aF y u->r x y H Q ->
  wpAny (model X.prog X.w) X.A (f v u) (EP X pins U Q) X.xe s
def UnR (X:Cx) (f:Value->Sem Value) (r:V->Hp->VK->Prop):Prop :=
 ∀(pins:B1) (s:Shared) (U:St) (H:Hp) (x:V) (v:Value) (Q:VK),Inv X pins U H s->aF x v->r x H Q ->
  wpAny (model X.prog X.w) X.A (f v) (EP X pins U Q) X.xe s
def cO (X:Cx) (f:Value) (r:List V->Hp->VK->Prop):Prop :=
 ∀(pins:B1) (s:Shared) (U:St) (H:Hp) (xs:List V) (us:List Value) (Q:VK),Inv X pins U H s->aG xs us->r xs H Q ->
  wpAny (model X.prog X.w) X.A (call f us) (EP X pins U Q) X.xe s
def tOp (r:R2) (ta tb:TE):TE:=λU H Q=>ta U H λx H1=>tb U H1 λy H2=>r x y H2 Q
def tUn (r:V->Hp->VK->Prop) (ta:TE):TE:=λU H Q=>ta U H λx H1=>r x H1 Q
def rI (C:Int->Int->Prop) (g:Int->Int->V):R2:=λx y H Q=>∃i j,x=.int i/\y=.int j/\C i j/\Q (g i j) H
def rI0 (g:Int->Int->V):R2:=λx y H Q=>∃i j,x=.int i/\y=.int j/\Q (g i j) H
def rU (g:Int->V):V->Hp->VK->Prop:=λx H Q=>∃i,x=.int i/\Q (g i) H
section
variable {X:Cx} {a b c:Expr} {ta tb tc:TE} {pos:Pos}
variable {f:Value->Value->Sem Value}
theorem wU (ha:PE X a ta) (hb:PE X b tb) {pins:B1} {s:Shared} {U:St} {H:Hp} {R:V->V->Hp->Prop} (I:Inv X pins U H s)
  (h:ta U H λx H1=>tb U H1 λy H2=>R x y H2) {Q:B0}
  (hf:∀v u s2 x y H2,Inv X pins U H2 s2->aF x v->aF y u->R x y H2->wpAny (model X.prog X.w) X.A (f v u) Q X.xe s2) :
  wpAny (model X.prog X.w) X.A (eval a X.env) (λv s₁=>wpAny (model X.prog X.w) X.A (eval b X.env) (λu s₂=>wpAny (model X.prog X.w) X.A (f v u) Q X.xe s₂) X.xe s₁) X.xe s:=by
 refine thn (ha pins s U H _ I h) λv s1 ⟨x,H1,I1,r1,q1⟩=>?_;refine thn (hb pins s1 U H1 _ I1 q1) λu s2 ⟨y,H2,I2,r2,q2⟩=>?_;exact hf v u s2 x y H2 I2 r1 r2 q2
theorem aA {op:Operator} {r:R2} (ho:OpR X (binaryOp op) r) (ha:PE X a ta) (hb:PE X b tb):PE X (.BinOp a op b pos) (tOp r ta tb):=by
 intro pins s U H Q I h;exact wpAny_BinOp (wU ha hb I h λv u s2 x y H2 I2 rx ry q=>ho pins s2 U H2 x y v u Q I2 rx ry q)
theorem rq {op:UnaryOp} {r:V->Hp->VK->Prop} (ho:UnR X (unaryOp op) r) (ha:PE X a ta):PE X (.UnaryOp op a pos) (tUn r ta):=by
 intro pins s U H Q I h;exact UnaryOp_ (thn (ha pins s U H _ I h) λv s1 ⟨x,H1,I1,r1,q1⟩=>ho pins s1 U H1 x v Q I1 r1 q1)
theorem opI {C:Int->Int->Prop} {g:Int->Int->Int}
  (rule:∀(i j:Int) (t u:Tok) (s:Shared) (Q:B0) (E:B0),C i j->Q (.int (g i j) s.toks) { s with toks:=s.toks+1 }->wpAny (model X.prog X.w) X.A (f (.int i t) (.int j u)) Q E s) :
  OpR X f (rI C λi j=>.int (g i j)):=by
 intro pins s U H x y v u Q I rx ry h;obtain⟨i,j,rfl,rfl,hc,q⟩:=h;obtain⟨t,rfl⟩:=rx;obtain⟨t',rfl⟩:=ry;exact rule i j t t' s _ _ hc ⟨.int (g i j),H,I.tok _,⟨_,rfl⟩,q⟩
theorem xD {g:Int->Int->Int}
  (rule:∀(i j:Int) (t u:Tok) (s:Shared) (Q:B0) (E:B0),Q (.int (g i j) s.toks) { s with toks:=s.toks+1 }->wpAny (model X.prog X.w) X.A (f (.int i t) (.int j u)) Q E s) :
  OpR X f (rI0 λi j=>.int (g i j)):=by
 intro pins s U H x y v u Q I rx ry h;obtain⟨i,j,rfl,rfl,q⟩:=h;obtain⟨t,rfl⟩:=rx;obtain⟨t',rfl⟩:=ry;exact rule i j t t' s _ _ ⟨.int (g i j),H,I.tok _,⟨_,rfl⟩,q⟩
theorem wo {g:Int->Int->Bool}
  (rule:∀(i j:Int) (t u:Tok) (s:Shared) (Q:B0) (E:B0),Q (.bool (g i j)) s->wpAny (model X.prog X.w) X.A (f (.int i t) (.int j u)) Q E s) :
  OpR X f (rI0 λi j=>.bl (g i j)):=by
 intro pins s U H x y v u Q I rx ry h;obtain⟨i,j,rfl,rfl,q⟩:=h;obtain⟨t,rfl⟩:=rx;obtain⟨t',rfl⟩:=ry;exact rule i j t t' s _ _ ⟨.bl (g i j),H,I,rfl,q⟩
def BU (i j:Int):Prop:=0<j/\j<1073741824
def BT (i j:Int):Prop:=0<=j/\j<=1000000/\i.natAbs<2 ^ 64
def wX (i j:Int):Prop:=(-(2 ^ 64)<i/\i<2 ^ 64)\/(-(2 ^ 64)<j/\j<2 ^ 64)
theorem wX.ok {i j:Int} (h:wX i j):IntMulOk i j:=by
 rcases h with⟨h1,h2⟩|⟨h1,h2⟩
 ·exact .of_left (intBits_le_64 h1 h2)
 exact .of_right (intBits_le_64 h1 h2)
theorem bX:OpR X (binaryOp .Add) (rI0 λi j=>.int (i+j)):=xD λ_ _ _ _ _ _ _ q=>add_int q
theorem nA:OpR X (binaryOp .Sub) (rI0 λi j=>.int (i-j)):=xD λ_ _ _ _ _ _ _ q=>sub_int q
theorem fT:OpR X (binaryOp .Mult) (rI wX λi j=>.int (i*j)):=opI λ_ _ _ _ _ _ _ hc q=>mul_int q hc.ok
theorem oH:OpR X (binaryOp .FloorDiv) (rI BU λi j=>.int (i / j)):=opI λi j _ _ _ _ _ hc q=>by
 have h1:(0:Int)<j:=hc.1;have h2:j<1073741824:=hc.2;exact floordiv_int (by omega) (by rw[Int.fdiv_eq_ediv_of_nonneg i (by omega)];exact q) (.inl (PyProof.noPylong_small (by omega)))
theorem bh:OpR X (binaryOp .Mod) (rI (λ_ j=>0<j) λi j=>.int (i % j)):=opI λi j _ _ _ _ _ hc q=>by
 have h1:(0:Int)<j:=hc;exact mod_int' (by omega) (by rw[Int.fmod_eq_emod_of_nonneg i (by omega)];exact q)
theorem wg:OpR X (binaryOp .Pow) (rI BT λi j=>.int (i ^ j.toNat)):=opI λ_ _ _ _ _ _ _ hc q=>pow_int_small hc.1 hc.2.1 hc.2.2 q
theorem unI {f:Value->Sem Value} {g:Int->Int}
  (rule:∀(i:Int) (t:Tok) (s:Shared) (Q:B0) (E:B0),Q (.int (g i) s.toks) { s with toks:=s.toks+1 }->wpAny (model X.prog X.w) X.A (f (.int i t)) Q E s) :
  UnR X f (rU λi=>.int (g i)):=by
 intro pins s U H x v Q I rx h;obtain⟨i,rfl,q⟩:=h;obtain⟨t,rfl⟩:=rx;exact rule i t s _ _ ⟨.int (g i),H,I.tok _,⟨_,rfl⟩,q⟩
theorem mZ:UnR X (unaryOp .USub) (rU λi=>.int (-i)):=unI λ_ _ _ _ _ q=>neg_int q
end
noncomputable def tL:V->V->Bool
 | .non,.non=>true|.non,.int _=>true|.int _,.non=>true|.non,.bl _=>true|.bl _,.non=>true|.non,.str _=>true|.str _,.non=>true
 | .int _,.int _=>true|.bl _,.bl _=>true|.str _,.str _=>true|.byt _,.byt _=>true
 | .int _,.str _=>true|.str _,.int _=>true|.bl _,.str _=>true|.str _,.bl _=>true
 | _,_=>false
def rEq:R2:=λx y H Q=>tL x y=true/\Q (.bl (decide (x=y))) H
def rNe:R2:=λx y H Q=>tL x y=true/\Q (.bl (!decide (x=y))) H
theorem o9 {i j:Int}:decide (V.int i=V.int j)=(i==j):=by
 rw[Bool.eq_iff_iff];simp
theorem sX {i j:Bool}:decide (V.bl i=V.bl j)=(i==j):=by
 rw[Bool.eq_iff_iff];simp
theorem o8 {i j:Str}:decide (V.str i=V.str j)=(i==j):=by
 rw[Bool.eq_iff_iff];simp
theorem o_ {i j:Array UInt8}:decide (V.byt i=V.byt j)=(i.toList==j.toList):=by
 rw[Bool.eq_iff_iff];cases i;cases j;simp
section
variable {X:Cx} {a b c:Expr} {ta tb tc:TE} {pos:Pos}
theorem aV {pins:B1} {U:St} {H:Hp} {s:Shared} {Q:VK} {k k':Bool} (I:Inv X pins U H s) (q:Q (.bl k) H) (e:k=k'):EP X pins U Q (.bool k') s:=by
 subst e;exact⟨.bl k,H,I,rfl,q⟩
theorem jo:OpR X (compareOp .Eq) rEq:=by
 intro pins s U H x y v u Q I rx ry h;obtain⟨hs,q⟩:=h
 cases x with
 | non =>
  cases rx
  cases y with
  | non=>cases ry;exact PySem.EqNone.eq_none_none (aV I q (by simp))
  | bl j=>cases ry;exact PySem.EqNone.eq_none_bool (aV I q (by simp))
  | int j=>obtain⟨t',rfl⟩:=ry;exact PySem.EqNone.eq_none_int (aV I q (by simp))
  | str j=>obtain⟨t',rfl⟩:=ry;exact PySem.EqNone.eq_none_str (aV I q (by simp))
  | _=>exact absurd (show false=true from hs) Qj
 | bl i =>
  cases rx
  cases y with
  | non=>cases ry;exact PySem.EqNone.eq_bool_none (aV I q (by simp))
  | bl j=>cases ry;exact eq_bool (aV I q sX)
  | str j=>obtain⟨t',rfl⟩:=ry;exact PySem.EqMixed.eq_bool_str (aV I q (by simp))
  | _=>exact absurd (show false=true from hs) Qj
 | int i =>
  obtain⟨t,rfl⟩:=rx
  cases y with
  | non=>cases ry;exact PySem.EqNone.eq_int_none (aV I q (by simp))
  | int j=>obtain⟨t',rfl⟩:=ry;exact eq_int (aV I q o9)
  | str j=>obtain⟨t',rfl⟩:=ry;exact PySem.EqMixed.eq_int_str (aV I q (by simp))
  | _=>exact absurd (show false=true from hs) Qj
 | str i =>
  obtain⟨t,rfl⟩:=rx
  cases y with
  | non=>cases ry;exact PySem.EqNone.eq_str_none (aV I q (by simp))
  | bl j=>cases ry;exact PySem.EqMixed.eq_str_bool (aV I q (by simp))
  | int j=>obtain⟨t',rfl⟩:=ry;exact PySem.EqMixed.eq_str_int (aV I q (by simp))
  | str j=>obtain⟨t',rfl⟩:=ry;exact eq_str (aV I q o8)
  | _=>exact absurd (show false=true from hs) Qj
 | byt i =>
  obtain⟨t,rfl⟩:=rx
  cases y with
  | byt j=>obtain⟨t',rfl⟩:=ry;exact PySem.W.eq_bytes (aV I q o_)
  | _=>exact absurd (show false=true from hs) Qj
 | _=>cases y <;> exact absurd (show false=true from hs) Qj
theorem u9:OpR X (compareOp .NotEq) rNe:=by
 intro pins s U H x y v u Q I rx ry h;obtain⟨hs,q⟩:=h
 cases x with
 | non =>
  cases rx
  cases y with
  | non=>cases ry;exact PySem.EqNone.ne_none_none (aV I q (by simp))
  | bl j=>cases ry;exact PySem.EqNone.ne_none_bool (aV I q (by simp))
  | int j=>obtain⟨t',rfl⟩:=ry;exact PySem.EqNone.ne_none_int (aV I q (by simp))
  | str j=>obtain⟨t',rfl⟩:=ry;exact PySem.EqNone.ne_none_str (aV I q (by simp))
  | _=>exact absurd (show false=true from hs) Qj
 | bl i =>
  cases rx
  cases y with
  | non=>cases ry;exact PySem.EqNone.ne_bool_none (aV I q (by simp))
  | bl j=>cases ry;exact ne_bool (aV I q (congrArg not sX))
  | str j=>obtain⟨t',rfl⟩:=ry;exact PySem.EqMixed.ne_bool_str (aV I q (by simp))
  | _=>exact absurd (show false=true from hs) Qj
 | int i =>
  obtain⟨t,rfl⟩:=rx
  cases y with
  | non=>cases ry;exact PySem.EqNone.ne_int_none (aV I q (by simp))
  | int j=>obtain⟨t',rfl⟩:=ry;exact ne_int (aV I q (congrArg not o9))
  | str j=>obtain⟨t',rfl⟩:=ry;exact PySem.EqMixed.ne_int_str (aV I q (by simp))
  | _=>exact absurd (show false=true from hs) Qj
 | str i =>
  obtain⟨t,rfl⟩:=rx
  cases y with
  | non=>cases ry;exact PySem.EqNone.ne_str_none (aV I q (by simp))
  | bl j=>cases ry;exact PySem.EqMixed.ne_str_bool (aV I q (by simp))
  | int j=>obtain⟨t',rfl⟩:=ry;exact PySem.EqMixed.ne_str_int (aV I q (by simp))
  | str j=>obtain⟨t',rfl⟩:=ry;exact ne_str (aV I q (congrArg not o8))
  | _=>exact absurd (show false=true from hs) Qj
 | byt i =>
  obtain⟨t,rfl⟩:=rx
  cases y with
  | byt j=>obtain⟨t',rfl⟩:=ry;exact PySem.W.ne_bytes (aV I q (congrArg not o_))
  | _=>exact absurd (show false=true from hs) Qj
 | _=>cases y <;> exact absurd (show false=true from hs) Qj
theorem oF:OpR X (compareOp .Lt) (rI0 λi j=>.bl (decide (i<j))):=wo λ_ _ _ _ _ _ _ q=>lt_int q
theorem oG:OpR X (compareOp .Gt) (rI0 λi j=>.bl (decide (j<i))):=wo λ_ _ _ _ _ _ _ q=>gt_int q
theorem xC:OpR X (compareOp .GtE) (rI0 λi j=>.bl (decide (j<=i))):=wo λ_ _ _ _ _ _ _ q=>ge_int q
theorem wm:OpR X (compareOp .Is) (λx y H Q=>y=.non/\Q (.bl (decide (x=.non))) H):=by
 intro pins s U H x y v u Q I rx ry h;obtain⟨rfl,q⟩:=h;cases ry;refine is_none_gen (aV I q ?_)
 cases x <;> first
  | (cases rx;rfl)
  | (obtain⟨t,rfl⟩:=rx;rfl)
theorem oE:OpR X (compareOp .IsNot) (λx y H Q=>y=.non/\Q (.bl (!decide (x=.non))) H):=by
 intro pins s U H x y v u Q I rx ry h;obtain⟨rfl,q⟩:=h;cases ry;refine isnot_none_gen (aV I q ?_)
 cases x <;> first
  | (cases rx;rfl)
  | (obtain⟨t,rfl⟩:=rx;rfl)
theorem OpR.or {f:Value->Value->Sem Value} {r r':R2} (h:OpR X f r) (h':OpR X f r'):OpR X f (λx y H Q=>r x y H Q\/r' x y H Q):=by
 intro pins s U H x y v u Q I rx ry q;rcases q with q|q
 ·exact h pins s U H x y v u Q I rx ry q
 exact h' pins s U H x y v u Q I rx ry q
variable {op:CmpOp}
theorem bi (b:Expr) (h:op≠.In:=by decide) (h2:op≠.NotIn:=by decide):behindInMarks op b=false:=by
 have e1:(op==CmpOp.In)=false:=by cases op <;> first|rfl|exact absurd rfl h
 have e2:(op==CmpOp.NotIn)=false:=by cases op <;> first|rfl|exact absurd rfl h2
 cases b <;> simp[behindInMarks,e1,e2]
theorem oB {r:R2} (ho:OpR X (compareOp op) r) (ha:PE X a ta) (hb:PE X b tb) (hm:behindInMarks op b=false):PE X (.Compare a [op] [b] pos) (tOp r ta tb):=by
 intro pins s U H Q I h;exact wpAny_Compare1 (wU ha hb I h λv u s2 x y H2 I2 rx ry q=>ho pins s2 U H2 x y v u Q I2 rx ry q) hm
def gQ (t:TE):TT:=λU H Q=>t U H λx H'=>∃k,x=.bl k/\Q k H'
theorem aH {r:R2} (ho:OpR X (compareOp op) r) (ha:PE X a ta) (hb:PE X b tb) (hm:behindInMarks op b=false):PT X (.Compare a [op] [b] pos) (gQ (tOp r ta tb)):=by
 intro pins s U H Q I h
 refine wpAny_isTrue_Compare1 (thn (ha pins s U H _ I h) λv s1 ⟨x,H1,I1,r1,q1⟩=>thn (hb pins s1 U H1 _ I1 q1) λu s2 ⟨y,H2,I2,r2,q2⟩ =>
  thn (ho pins s2 U H2 x y v u _ I2 r1 r2 q2) λc s3 ⟨z,H3,I3,r3,k,e,q3⟩=>?_) hm
 subst e;cases r3;exact wpAny_truthy_bool ⟨H3,I3,q3⟩
theorem fX:(sizeLine:Nat)<2 ^ 63:=by rw[sizeLine_eq];decide
theorem dj:OpR X (binaryOp .Add) (λx y H Q=>∃i j,x=.str i/\y=.str j/\i.length+j.length<=sizeLine/\Q (.str (i++j)) H):=by
 intro pins s U H x y v u Q I rx ry h;obtain⟨i,j,rfl,rfl,hz,q⟩:=h;obtain⟨t,rfl⟩:=rx;obtain⟨t',rfl⟩:=ry;exact add_str (λt' tk=>⟨.str (i++j),H,I.tok _,⟨_,rfl⟩,q⟩) hz
theorem dE {x:V} {us:List Value} (r:aG [x] us):∃u,us=[u]/\aF x u:=by
 cases r with
 | cons r1 r2=>cases r2;exact⟨_,rfl,r1⟩
theorem i7 {x y:V} {us:List Value} (r:aG [x,y] us):∃u w',us=[u,w']/\aF x u/\aF y w':=by
 cases r with
 | cons r1 r2 =>
 cases r2 with
 | cons r3 r4=>cases r4;exact⟨_,_,rfl,r1,r3⟩
theorem qu (hc:X.calm=true):cO X (.builtin "max") (λxs H Q=>∃i j,xs=[.int i,.int j]/\Q (.int (if j>i then j else i)) H):=by
 intro pins s U H xs us Q I r h;obtain⟨i,j,rfl,q⟩:=h;obtain⟨u,w',rfl,⟨t,rfl⟩,⟨t',rfl⟩⟩:=i7 r;refine max_two_ints (I.ok.hd hc) λh' tk k=>⟨_,H,I.kept k,?_,q⟩;by_cases hj:j>i
 ·rw[Qv hj,Qv hj];exact⟨_,rfl⟩
 rw[Qz hj,Qz hj];exact⟨_,rfl⟩
theorem qt (hc:X.calm=true):cO X (.builtin "min") (λxs H Q=>∃i j,xs=[.int i,.int j]/\Q (.int (if j<i then j else i)) H):=by
 intro pins s U H xs us Q I r h;obtain⟨i,j,rfl,q⟩:=h;obtain⟨u,w',rfl,⟨t,rfl⟩,⟨t',rfl⟩⟩:=i7 r;refine min_two_ints (I.ok.hd hc) λh' tk k=>⟨_,H,I.kept k,?_,q⟩;by_cases hj:j<i
 ·rw[Qv hj,Qv hj];exact⟨_,rfl⟩
 rw[Qz hj,Qz hj];exact⟨_,rfl⟩
theorem f9:cO X (.type "int") (λxs H Q=>(∃i,xs=[.int i]/\Q (.int i) H)\/∃k,xs=[.bl k]/\Q (.int (if k then 1 else 0)) H):=by
 intro pins s U H xs us Q I r h;rcases h with⟨i,rfl,q⟩|⟨k,rfl,q⟩
 ·obtain⟨u,rfl,t,rfl⟩:=dE r;exact call_int_int ⟨.int i,H,I,⟨_,rfl⟩,q⟩
 obtain⟨u,rfl,r1⟩:=dE r;cases r1;exact call_int_bool ⟨.int (if k then 1 else 0),H,I.tok _,⟨_,rfl⟩,q⟩
end
structure ObjM (h:Heap) (x dx C:Addr) (mA:B2):Prop where
 obj:h.get? x=some (PySem.W.instObj C dx)
 ns:h.Ns1 dx mA
 ne:dx≠x
variable {mA:B2}
theorem jt (n:h.Ns1 dx mA):∃od,h.get? dx=some od/\∀name,PySem.W.lookIn name od=some (mA name):=by
 obtain⟨o,es,ep,ho,hd,hk,_,hm⟩:=n;refine⟨o,ho,λname=>?_⟩;have e:=hm name;unfold nsFind findBy at e;rw[<-Array.find?_toList]at e;unfold PySem.W.lookIn;rw[hd];dsimp only
 split
 ·rename_i y q
  rw[q]at e;exact congrArg some e
 rename_i q
 rw[q]at e
 have a:es.toList.any (·.refKey)=false:=by
  rw[List.any_eq_false];intro y hy;obtain⟨z,t,hkey⟩:=hk y (Array.mem_toList_iff.mp hy);simp[DictEntry.refKey,hkey]
 have a':¬es.toList.any (·.refKey)=true:=by rw[a];exact Qj
 rw[Qz a'];exact congrArg some e
theorem ObjM.look {x:Addr} (I:ObjM h x dx C mA):∃od,PySem.W.InstAt h x (PySem.W.instObj C dx) C (some od)/\∀name,PySem.W.lookIn name od=some (mA name) :=
 let ⟨od,ho,hl⟩:=jt I.ns
 ⟨od,⟨I.obj,rfl,rfl,ho⟩,hl⟩
section
variable {prog:Program} {w:World} {A:Around} {E:B0} {s:Shared} {K:PySem.W.Frag} {x dx C f:Addr} {mA:B2} {name:Str} {v:Value}
end
theorem eU.some_of {v:V} {o:Option Value} (r:eU (some v) o):∃u,o=some u/\aF v u:=by
 cases o with
 | none=>exact(show False from r).elim
 | some u=>exact⟨u,rfl,r⟩
section
variable {P:Program} {w:World} {H H':Hp} {h h':Heap} {a C dx:Addr} {fs fs':List (Str × V)}
theorem ut (hok:HOk P w H h) (e:H a=some (.ins C dx fs)):∃mA,ObjM h a dx C mA/\(∀f,eU (fs.lookup f) (mA f))/\PySem.Within mA (fs.map (·.1))/\fs.length<=1000/\H dx=some (.own a):=by
 obtain⟨d,z,ne,ob,mA,n,r,q⟩:=(show aX P w H h a (.ins C dx fs) from hok a _ e);exact⟨mA,⟨ob,n,ne⟩,r,q,z,d⟩
end
structure Cls (K:PySem.W.Frag) (C:Addr):Prop where
 pg:PySem.W.plainGet K C Str.empty=true
 hd:PySem.W.hasDictIn K C=true
 po:PySem.W.plainOver K C=true
 sa:PySem.W.findIn K (.ref C) "__setattr__" = some (some (.builtin "object.__setattr__"))
theorem Cls.get {K:PySem.W.Frag} (c:Cls K C) (f:Str):PySem.W.plainGet K C f=true:=c.pg
structure Con (K:PySem.W.Frag) (C:Addr) (f:Str) (v:V) (u:Value):Prop where
 at_:PySem.W.findIn K (.ref C) f=some (some u)
 rel:aF v u
 get:PySem.W.specialIn K u "__get__" = some none
 cp:PySem.W.copiedNames.contains f=false
structure Meth (K:PySem.W.Frag) (C:Addr) (m:Str) (f:Addr):Prop where
 at_:PySem.W.findIn K (.ref C) m=some (some (.ref f))
 fn:PySem.W.isFn K (.ref f)=true
 kp:PySem.W.keepIn K (.ref f)=true
section
variable {X:Cx} {pins:B1} {U:St} {H:Hp} {s:Shared} {a C dx:Addr} {fs:List (Str × V)} {f:Str} {v:V} {A:Around} {E:B0}
end
section
variable {X:Cx} {o e value:Expr} {f:Str} {pos pos' tpos:Pos} {ta tv:TE}
end
section
variable {X:Cx} {pins:B1} {U:St} {H:Hp} {s:Shared} {A:Around} {E:B0} {Q:B0} {c:Value} {b:Bool}
inductive TyOf (K:PySem.W.Frag) (H:Hp):V->Value->Prop where
 | non:TyOf K H .non (.type "NoneType")
 | bl (x:Bool):TyOf K H (.bl x) (.type "bool")
 | int (i:Int):TyOf K H (.int i) (.type "int")
 | str (x:Str):TyOf K H (.str x) (.type "str")
 | flt (x:UInt64):TyOf K H (.flt x) (.type "float")
 | lst {a:Addr} {xs:List V} (e:H a=some (.lst xs)):TyOf K H (.ref a) (.type "list")
 | frz {a:Addr} {o:Obj} {xs:List V} (e:H a=some (.frz o (.lst xs))):TyOf K H (.ref a) (.type "list")
 | tup {a:Addr} {xs:List V} (e:H a=some (.tup xs)):TyOf K H (.ref a) (.type "tuple")
 | dK {a:Addr} {kvs:List (Key × V)} (e:H a=some (.dK kvs)):TyOf K H (.ref a) (.type "dict")
 | dT {a:Addr} {kvs:List (List Key × V)} (e:H a=some (.dT kvs)):TyOf K H (.ref a) (.type "dict")
 | ins {a C dx:Addr} {fs:List (Str × V)} (e:H a=some (.ins C dx fs)) (cl:Cls K C) (ha:PySem.W.findIn K (.ref C) "__class__" = some (some (.builtin "object.__class__")))
   (hn:PySem.W.specialIn K (.builtin "object.__class__") "__get__" = some (some (.builtin "getset_descriptor.__get__"))) (htk:PySem.W.takesIn K (.builtin "object.__class__")=some true)
   (hm:PySem.W.mroIn K C (.type "object")=some true):TyOf K H (.ref a) (.ref C)
theorem qc {x:V} {u t:Value} (I:Inv X pins U H s) (rx:aF x u) (ty:TyOf X.K H x t) (e:PySem.W.kitOne X.K t c=some b) (h:∀tk,Q (.bool b) { s with toks:=tk }) :
  wpAny (model X.prog X.w) A (call (.builtin "isinstance") [u,c]) Q E s:=by
 cases ty with
 | non=>cases (show u=Value.none from rx);exact Xn PySem.W.kitx_none I.kIn True.intro e (λz=>nomatch z) h
 | bl y=>cases (show u=Value.bool y from rx);exact Xn PySem.W.kitx_bool I.kIn True.intro e (λz=>nomatch z) h
 | int i=>obtain⟨t,q⟩:=(show ∃t,u=Value.int i t from rx);cases q;exact Xn PySem.W.kitx_int I.kIn True.intro e (λz=>nomatch z) h
 | str y=>obtain⟨t,q⟩:=(show ∃t,u=Value.str y t from rx);cases q;exact Xn PySem.W.kitx_str I.kIn True.intro e (λz=>nomatch z) h
 | flt y=>obtain⟨t,q⟩:=(show ∃t,u=Value.float y t from rx);cases q;exact Xn PySem.W.kitx_float I.kIn True.intro e (λz=>nomatch z) h
 | @lst a xs ea =>
  cases (show u=Value.ref a from rx);obtain⟨_,_,n,_,h1⟩:=(show aX X.prog X.w H s.heap a (.lst xs) from I.hok a _ ea);exact Xn PySem.W.kitx_list I.kIn ⟨_,h1,rfl⟩ e (λz=>nomatch z) h
 | @frz a ob xs ea =>
  cases (show u=Value.ref a from rx);obtain⟨_,_,_,n,_,h1⟩:=(show aX X.prog X.w H s.heap a (.frz ob (.lst xs)) from I.hok a _ ea);exact Xn PySem.W.kitx_list I.kIn ⟨_,h1,rfl⟩ e (λz=>nomatch z) h
 | @tup a xs ea =>
  cases (show u=Value.ref a from rx);obtain⟨_,_,_,p⟩:=(show aX X.prog X.w H s.heap a (.tup xs) from I.hok a _ ea);obtain⟨o,h1,h2,_⟩:=p;exact Xn PySem.W.kitx_tuple I.kIn ⟨o,h1,h2⟩ e (λz=>nomatch z) h
 | @dK a kvs ea =>
  cases (show u=Value.ref a from rx);obtain⟨_,_,vs,_,p⟩:=(show aX X.prog X.w H s.heap a (.dK kvs) from I.hok a _ ea);obtain⟨o,es,ep,h1,h2,_⟩:=p;exact Xn PySem.W.kitx_dict I.kIn ⟨o,h1,h2.1⟩ e (λz=>nomatch z) h
 | @dT a kvs ea =>
  cases (show u=Value.ref a from rx);obtain⟨_,_,xs,_,o,es,ep,h1,h2,_⟩:=(show aX X.prog X.w H s.heap a (.dT kvs) from I.hok a _ ea);exact Xn PySem.W.kitx_dict I.kIn ⟨o,h1,h2.1⟩ e (λz=>nomatch z) h
 | @ins a C dx fs ea cl ha hn htk hm =>
 cases (show u=Value.ref a from rx);obtain⟨mA,O,_⟩:=ut I.hok ea;obtain⟨od,J,_⟩:=O.look;exact Xn (PySem.W.kitx_own (cl.get _) cl.hd ha hn htk hm) I.kIn J e (λz=>nomatch z) h
end
structure Room (k:Nat) (A:Around):Prop where
 hd:A.handled=none
 dp:A.depth+3*k+5<recursionLimit
 un:A.units+16*k+200<cLine
theorem Room.mono {j k:Nat} (r:Room k A) (h:j<=k):Room j A:=⟨r.hd,by have:=r.dp;omega,by have:=r.un;omega⟩
theorem Room.deeper {k:Nat} (r:Room (k+1) A) (env:Env):Room k (A.deeper env) :=
 ⟨r.hd,by have:=r.dp;show A.depth+1+3*k+5<_;omega,by have:=r.un;show A.units+3+16*k+200<_;omega⟩
theorem Room.depth {k:Nat} (r:Room k A):A.depth<recursionLimit:=by have:=r.dp;omega
theorem Room.units {k:Nat} (r:Room k A):A.units+64<cLine:=by have:=r.un;omega
def pB:TA:=λ_ H Q=>Q [] H
def gR (ta:TE) (tr:TA):TA:=λU H Q=>ta U H λx H1=>tr U H1 λxs H2=>Q (x::xs) H2
section
variable {X:Cx} {e:Expr} {es:List Expr} {te:TE} {t:TA} {pos:Pos}
theorem ae:PA X [] pB:=λ_ _ _ _ H Q I h=>Calls.spliced_nil ⟨[],H,I,.nil,h⟩
theorem aa (ha:PE X e te) (hr:PA X es t) (hs:starEach (e::es) X.env=(false,eval e X.env)::starEach es X.env:=by rfl):PA X (e::es) (gR te t):=by
 intro pos pins s U H Q I h;rw[hs];show wpAny _ _ (spliced ((false,eval e X.env)::backTo pos (starEach es X.env))) _ _ s;refine Calls.spliced_cons (thn (ha pins s U H _ I h) λu s1 ⟨x,H1,I1,r1,q1⟩=>?_);exact thn (hr pos pins s1 U H1 _ I1 q1) λus s2 ⟨xs,H2,I2,r2,q2⟩=>⟨x::xs,H2,I2,.cons r1 r2,q2⟩
def w9 (t:TA):TE:=λU H Q=>t U H λxs H1=>xs.length<=sizeLine/\∀p,H1 p=none->Q (.ref p) (upd H1 p (.tup xs))
def tJ (t:TA):TE:=λU H Q=>t U H λxs H1=>xs.length<=sizeLine/\∀p,H1 p=none->Q (.ref p) (upd H1 p (.lst xs))
theorem pe_tup {x1} (h:PA X es t):PE X (.Tuple es x1 pos) (w9 t):=by
 intro pins s U H Q I hq;refine wpAny_Tuple_spliced (thn (h pos pins s U H _ I hq) λus s1 ⟨xs,H1,I1,r,z,q⟩=>⟨by rw[<-r.length];exact z,?_⟩);have hf:H1 s1.heap.objs.size=none:=I1.hok.fresh (Qh _);refine⟨.ref s1.heap.objs.size,upd H1 s1.heap.objs.size (.tup xs),I1.laid (t':=s1.toks) (λb u e=>Qf _ e) (Qh _) ?_,rfl,q _ hf⟩;exact⟨z,us,r,⟨_,QS _ rfl,rfl,_,rfl⟩⟩
theorem pe_lst (h:PA X es t):PE X (.List es pos) (tJ t):=by
 intro pins s U H Q I hq;refine wpAny_List_spliced (thn (h pos pins s U H _ I hq) λus s1 ⟨xs,H1,I1,r,z,q⟩=>⟨by rw[<-r.length];exact z,?_⟩);have hf:H1 s1.heap.objs.size=none:=I1.hok.fresh (Qh _);refine⟨.ref s1.heap.objs.size,upd H1 s1.heap.objs.size (.lst xs),I1.laid (t':=s1.toks) (λb u e=>Qf _ e) (Qh _) ?_,rfl,q _ hf⟩;exact⟨z,us,0,r,QS _ rfl⟩
end
abbrev Sp:=List V->Hp->VK->XK->Prop
abbrev CXT:=List Env->Hp->Shared->XK->B0
structure Env0 (P:Program) (w:World) (K:PySem.W.Frag) (mg:B2) (base:Heap) (A:Around) (outer:List Env) (s:Shared) (H:Hp):Prop where
 frames:A.frames=some outer
 mod:Mod K mg base
 bs:∀b o,base.get? b=some o->s.heap.get? b=some o/\H b=none
 bsz:base.objs.size<=s.heap.objs.size
 funs:s.heap.FunFrames base outer
 frf:∀b∈frs outer,H b=none
 hok:HOk P w H s.heap
 bare:AllBare s.gens
def CE (outer:List Env) (P:Program) (w:World) (H:Hp) (s:Shared) (Q:VK) (u:Value) (s':Shared):Prop :=
 ∃v H',s'.os=s.os/\AllBare s'.gens/\Un (frs outer) [] H H' s.heap s'.heap/\HOk P w H' s'.heap/\aF v u/\Q v H'
def CR (CX:CXT) (outer:List Env) (P:Program) (w:World) (H:Hp) (s:Shared) (Q:VK) (E:XK) (r:Result) (s':Shared):Prop :=
 match r with
 | .ok (.ret u)=>CE outer P w H s Q u s'
 | .ok _=>False
 | .error e=>CX outer H s E e s'
structure FnOk (P:Program) (w:World) (K:PySem.W.Frag) (mg:B2) (base:Heap) (CX:CXT) (k:Nat) (f:Addr) (fd:FuncData) (ps:List Str) (sp:Sp):Prop where
 len:∀vs H Q E,sp vs H Q E->vs.length=ps.length
 run:∀(A:Around) (outer:List Env) (s:Shared) (H:Hp) (args:Args) (us:List Value) (vs:List V) (Q:VK) (E:XK),Room k A->Env0 P w K mg base A outer s H->BindsTo s fd args (ps.zip us)->aG vs us->sp vs H Q E ->
  codeAny (model P w) A (.call (.ref f) args) (CR CX outer P w H s Q E) s
section
variable {X:Cx} {pins:B1} {U:St} {H:Hp} {s s':Shared}
theorem Inv.env0 (I:Inv X pins U H s):Env0 X.prog X.w X.K X.mg X.base X.A X.stack s H :=
 ⟨I.ok.frames,I.ok.mod,I.bs,QQ I.ok.bsz I.sz,I.stack,I.stkFree,I.hok,I.bare⟩
theorem Inv.after {Q:VK} {u:Value} (I:Inv X pins U H s) (h:CE X.stack X.prog X.w H s Q u s'):EP X pins U Q u s':=by
 obtain⟨v,H',os,bare,un,hok,r,q⟩:=h;obtain⟨hh,g,d,t,os'⟩:=s';obtain rfl:os'=s.os:=os;exact⟨v,H',I.call (h':=hh) (g':=g) (d':=d) (t':=t) (ch:=[]) un hok bare (λb z=>absurd z (by simp)),r,q⟩
end
def ja (sp:Sp) (dvs:List V) (E:XK) (t:TA):TE:=λU H Q=>t U H λvs H1=>sp (vs++dvs) H1 Q E
def dY (K:PySem.W.Frag) (fd:FuncData) (ps:List Str) (ds:List Value):Prop :=
 ∀(s:Shared) (us:List Value),K.In s.heap->(us++ds).length=ps.length->BindsTo s fd ⟨us,[]⟩ (ps.zip (us++ds))
variable {ps N:List Str}
theorem dY.all {K:PySem.W.Frag} {fd:FuncData} (h:∀us:List Value,us.length=ps.length->bindArgs fd ⟨us,[]⟩=pure (ps.zip us)):dY K fd ps []:=λs us _ hl=>by
 rw[Xa]at hl ⊢;exact .of_eq (h us hl)
def eV (CX:CXT) (X:Cx) (E:XK):Prop:=∀(pins:B1) (U:St) (H:Hp) (s:Shared) (e:Value) (s':Shared),Inv X pins U H s->CX X.stack H s E e s'->X.xe e s'
section
variable {X:Cx} {CX:CXT} {k:Nat} {f C:Addr} {fd:FuncData} {ps:List Str} {sp:Sp} {dvs:List V} {ds:List Value} {E:XK} {x m:Str} {p pos apos:Pos} {e o:Expr} {es:List Expr} {ta:TE} {t:TA}
theorem vZ {pins:B1} {U:St} {H:Hp} {s:Shared} {Q:VK} {us:List Value} {vs:List V} (F:FnOk X.prog X.w X.K X.mg X.base CX k f fd ps sp) (hr:Room k X.A) (hb:dY X.K fd ps ds) (hd:aG dvs ds) (hx:eV CX X E)
  (I:Inv X pins U H s) (r:aG vs us) (h:sp (vs++dvs) H Q E):wpAny (model X.prog X.w) X.A (call (.ref f) us) (EP X pins U Q) X.xe s:=by
 have r2:aG (vs++dvs) (us++ds):=r.append hd;have hl:(us++ds).length=ps.length:=by rw[<-r2.length];exact F.len _ _ _ _ h
 refine wpAny_call (codeAny_mono (F.run X.A X.stack s H ⟨us,[]⟩ (us++ds) (vs++dvs) Q E hr I.env0 (hb s us I.kIn hl) r2 h) λr s' hq=>?_)
 cases r with
 | error e=>exact hx pins U H s e s' I hq
 | ok fl =>
 cases fl with
 | ret u=>exact I.after hq
 | next=>exact False.elim hq
 | brk=>exact False.elim hq
 | cont=>exact False.elim hq
theorem oC (F:FnOk X.prog X.w X.K X.mg X.base CX k f fd ps sp) (hr:Room k X.A) (hg:Gl X x) (hm:X.mg x=some (.ref f)) (hk:PySem.W.keepIn X.K (.ref f)=true) (hb:dY X.K fd ps ds) (hd:aG dvs ds) (hx:eV CX X E)
  (ha:PA X (e::es) t) (hdb:(x==("__debug__" : Str))=false:=by decide) (he:starEach (e::es) X.env=(false,eval e X.env)::starEach es X.env:=by rfl) (hpl:(backTo pos (starEach es X.env)).any (·.1)=false:=by rfl) :
  PE X (.Call (.Name x p) (e::es) [] pos) (ja sp dvs E t):=by
 intro pins s U H Q I h;refine wpAny_Call_Name_kw (d9 I hg hm ?_ hdb);refine PySem.W.callWith_K (h₀:=X.base) I.ok.mod.kin hk (thn (ha pos pins s U H _ I h) λus s1 ⟨vs,H1,I1,r,q⟩=>⟨I1.kIn,?_⟩) he hpl;exact vZ F hr hb hd hx I1 r q
structure Mk (K:PySem.W.Frag) (C f:Addr):Prop where
 makes:PySem.W.makesIn K C=true
 init:PySem.W.findIn K (.ref C) "__init__" = some (some (.ref f))
 fn:PySem.W.isFn K (.ref f)=true
 kp:PySem.W.keepIn K (.ref C)=true
end
section
variable {X:Cx} {CX:CXT} {k:Nat} {f C:Addr} {fd:FuncData} {ps ks:List Str} {sp:Sp} {E:XK} {x m:Str} {p pos apos kpos:Pos} {e o:Expr} {es:List Expr} {kws:List Keyword} {te ta:TE} {t tk:TA} {nm:Option Str}
structure KBinds (K:PySem.W.Frag) (fd:FuncData) (ps ks:List Str) (g:List Value->List Value->List Value) (gV:List V->List V->List V):Prop where
 to:∀(s:Shared) (us ws:List Value),K.In s.heap->(g us ws).length=ps.length->BindsTo s fd ⟨us,ks.zip ws⟩ (ps.zip (g us ws))
 rel:∀{vs:List V} {us:List Value} {zs:List V} {ws:List Value},aG vs us->aG zs ws->aG (gV vs zs) (g us ws)
variable {g:List Value->List Value->List Value} {gV:List V->List V->List V}
end
structure FnScope (N P:List Str) (sc:Scope):Prop where
 kind:sc.kind=.function
 co:sc.isCoroutine=false
 gen:sc.isGenerator=false
 nd:N.Nodup
 pre:N.take P.length=P
 par:∀x∈P,sc.names.lookup x=some .local\/sc.names.lookup x=some .cell
 nofree:∀y∈sc.names,y.2≠.free
theorem jD {kindOf:Str->Option NameKind} {x:Str}:∀{binds:List (Str × Value)} {m:B2},(∀v,(x,v)∉binds)->bindL kindOf binds m x=m x
 | [],_,_=>rfl
 | (n,v)::r,m,h=>by
  unfold bindL;rw[jD λw hw=>h w (Qs _ hw)]
  split
  ·have:x≠n:=by rintro rfl;exact h v Q4
   simp[this]
  rfl
theorem jF {kindOf:Str->Option NameKind} {x:Str}:∀{binds:List (Str × Value)} {m:B2},(∀v,(x,v)∉binds)->bindC kindOf binds m x=m x
 | [],_,_=>rfl
 | (n,v)::r,m,h=>by
  unfold bindC;rw[jF λw hw=>h w (Qs _ hw)]
  split
  ·rfl
  have:x≠n:=by rintro rfl;exact h v Q4
  simp[this]
theorem jE {kindOf:Str->Option NameKind} {x:Str} {v:Value}:∀{P:List Str} {vs:List Value} {i:Nat} {m:B2},P.Nodup->P[i]?=some x->vs[i]?=some v->kindOf x=some .local ->
  bindL kindOf (P.zip vs) m x=some v
 | [],_,_,_,_,h,_,_=>by simp at h
 | _::_,[],_,_,_,_,h,_=>by simp at h
 | p::P,w::vs,0,m,nd,h1,h2,hk=>by
  simp at h1 h2;subst h1;subst h2;show bindL kindOf ((p,w)::P.zip vs) m p=_;unfold bindL;rw[jD λv hv=>(Xb.mp nd).1 (List.of_mem_zip hv).1,Qv hk];simp
 | p::P,w::vs,i+1,m,nd,h1,h2,hk=>by
  show bindL kindOf ((p,w)::P.zip vs) m x=_;unfold bindL;exact jE (i:=i) (Xb.mp nd).2 (by simpa using h1) (by simpa using h2) hk
theorem jG {kindOf:Str->Option NameKind} {x:Str} {v:Value}:∀{P:List Str} {vs:List Value} {i:Nat} {m:B2},P.Nodup->P[i]?=some x->vs[i]?=some v->kindOf x≠some .local ->
  bindC kindOf (P.zip vs) m x=some v
 | [],_,_,_,_,h,_,_=>by simp at h
 | _::_,[],_,_,_,_,h,_=>by simp at h
 | p::P,w::vs,0,m,nd,h1,h2,hk=>by
  simp at h1 h2;subst h1;subst h2;show bindC kindOf ((p,w)::P.zip vs) m p=_;unfold bindC;rw[jF λv hv=>(Xb.mp nd).1 (List.of_mem_zip hv).1,Qz hk];simp
 | p::P,w::vs,i+1,m,nd,h1,h2,hk=>by
  show bindC kindOf ((p,w)::P.zip vs) m x=_;unfold bindC;exact jG (i:=i) (Xb.mp nd).2 (by simpa using h1) (by simpa using h2) hk
def start (N:List Str) (vs:List V):St:=vs.map some++List.replicate (N.length-vs.length) none
noncomputable def cxOf (CX:CXT) (P:Program) (w:World) (K:PySem.W.Frag) (mg:B2) (base:Heap) (N:List Str) (qual:Str) (scope:Scope) (f:Addr) (cd:Value) (A:Around) (outer:List Env) (s:Shared) (H:Hp) (E:XK):Cx where
 prog:=P
 w:=w
 K:=K
 mg:=mg
 base:=base
 A:=A.deeper (envOfC qual scope s.heap.objs.size f cd)
 N:=N
 s₀:=s
 H₀:=H
 env:=envOfC qual scope s.heap.objs.size f cd
 outer:=outer
 stack:=envOfC qual scope s.heap.objs.size f cd::outer
 ex:=[]
 calm:=true
 fn:=λ_=>true
 pn:=[]
 xe:=λe s'=>wpAny (model P w) (A.deeper (envOfC qual scope s.heap.objs.size f cd)) (leaving (envOfC qual scope s.heap.objs.size f cd) e) (λ_ s''=>CX outer H s E e s'') (λe' s''=>CX outer H s E e' s'') s'
variable {sc scope:Scope}
theorem mJ {n:Nat} {x:Str} (h:sc.names.lookup x=some .cell):∃c,(cellsFrom n sc.names []).lookup x=some c:=by
 have q:=PySem.W.cellsFrom_some sc.names n [] (.inl h);exact Option.isSome_iff_exists.mp q
theorem qe {CX:CXT} {P:Program} {w:World} {K:PySem.W.Frag} {mg:B2} {base:Heap} {qual:Str} {outer:List Env} {E:XK} {us:List Value} {vs:List V}
  (S:FnScope N ps scope) (hd:A.handled=none) (e0:Env0 P w K mg base A outer s H) (hl:vs.length=ps.length) (r:aG vs us)
  (x:InCallC s s.heap.objs.size (bindL (envOfC qual scope s.heap.objs.size f cd).kindOf (ps.zip us) λ_=>none) (cellsFrom (s.heap.objs.size+1) scope.names []) (bindC (envOfC qual scope s.heap.objs.size f cd).kindOf (ps.zip us) λ_=>none) s1) :
  Inv (cxOf CX P w K mg base N qual scope f cd A outer s H E) [] (start N vs) H s1:=by
 have hpl:ps.length<=N.length:=by have:=congrArg List.length S.pre;rw[QF]at this;omega
 obtain⟨h1,tk,rfl,hk⟩:=x.done;have noA:∀b:Addr,b∉(cxOf CX P w K mg base N qual scope f cd A outer s H E).ex:=λb z=>absurd (show b∈([]:B3) from z) (by simp)
 refine⟨⟨e0.mod,S.kind,rfl,rfl,Qh _,λy z c h1 h2=>?_,λy hy=>?_,λy c _ h=>?_,λ_=>hd,Around.frames_deeper e0.frames,.inr ⟨rfl,rfl⟩,λb z=>absurd z (noA b),e0.bs,e0.bsz,λb _ _=>noA b,λb z=>absurd z (noA b),e0.funs,e0.frf⟩,
  rfl,e0.bare,Un.kept hk,⟨_,x.toInCall.ns,λi y v h1 h2 h3=>?_⟩,λy c h=>⟨_,x.cell y c h⟩,e0.hok.fresh (Qh _),λy c h=>?_,λp hp=>absurd (show p∈([]:B1) from hp) (by simp),e0.hok.kept hk,?_⟩
 ·exact name_of_addr x.apart (PySem.mem_of_lookup h1) (PySem.mem_of_lookup h2)
 ·have hy:scope.names.lookup y=some .cell\/scope.names.lookup y=some .free:=hy;rcases hy with hy|hy
  ·exact mJ hy
  exact absurd rfl (S.nofree _ (PySem.mem_of_lookup hy))
 ·exact Nat.le_of_lt (x.above y c (PySem.mem_of_lookup h))
 ·have hi:i<vs.length:=by
   unfold start at h2;by_cases hi:i<vs.length
   ·exact hi
   rw[QK (by simpa using hi)]at h2;rw[List.getElem?_replicate]at h2
   split at h2 <;> cases h2
  have ha:vs[i]?=some v:=by
   unfold start at h2;rw[QT (by simpa using hi),Qe]at h2
   cases e:vs[i]? with
   | none=>rw[e]at h2;cases h2
   | some a=>rw[e]at h2;cases h2;rfl
  obtain⟨u,hu,rv⟩:=r.get ha
  have hp:ps[i]?=some y:=by
   rw[<-S.pre,List.getElem?_take_of_lt (by omega)];exact h1
  have ndP:ps.Nodup:=by rw[<-S.pre];exact S.nd.sublist (List.take_sublist _ _)
  refine⟨u,rv,?_⟩;rcases S.par y (Qn hp) with k|k
  ·exact .inl ⟨k,jE ndP hp hu k⟩
  obtain⟨c,e⟩:=mJ (n:=s.heap.objs.size+1) k;refine .inr ⟨.inl k,c,e,?_⟩;have q:=x.cell y c e;rw[jG ndP hp hu (by show scope.names.lookup y≠_;rw[k];decide)]at q;exact q
 ·exact e0.hok.fresh (Nat.le_of_lt (x.above y c (PySem.mem_of_lookup h)))
 unfold start;show _=N.length;rw[Qd,Qa,List.length_replicate];omega
theorem mt {CX:CXT} {P:Program} {w:World} {K:PySem.W.Frag} {mg:B2} {base:Heap} {k:Nat} {name qual:Str} {params:Arguments} {body:List Stmt} {kV:Value} {an od:Option Addr}
  {osl:Array (Option Value)} {sp:Sp} (lk:K.lookup f=some ⟨oc,od,.func (PySem.W.fnOf name qual params body scope dV kV doc pm an cdv ct),osl⟩) (hcd:PySem.W.codeIn K cdv qual=true) (S:FnScope N ps scope)
  (len:∀vs H Q E,sp vs H Q E->vs.length=ps.length)
  (hbody:∀(A:Around) (outer:List Env) (s:Shared) (H:Hp) (vs:List V) (Q:VK) (E:XK),Room k (A.deeper (envOfC qual scope s.heap.objs.size f cdv))->sp vs H Q E ->
   ∃t,PSs (cxOf CX P w K mg base N qual scope f cdv A outer s H E) body t/\t { nx:=λ_ H'=>Q .non H',rt:=Q } (start N vs) H) :
  FnOk P w K mg base CX (k+1) f (PySem.W.fnOf name qual params body scope dV kV doc pm an cdv ct) ps sp:=by
 refine⟨len,λA outer s H args us vs Q E hr e0 hb r hsp=>?_⟩;have hl:=len _ _ _ _ hsp;have KX:K.In s.heap:=e0.mod.kin.keeps λb o e=>(e0.bs b o e).1;have lim:s.heap.NoLimit:=e0.mod.nolimit.keeps λb o e=>(e0.bs b o e).1
 have hkind:∀y∈ps.zip us,scope.names.lookup y.1=some .local\/(scope.names.lookup y.1=some .cell/\((cellsFrom (s.heap.objs.size+1) scope.names []).lookup y.1).isSome=true):=λ⟨n,v⟩ hy=>by
  rcases S.par n (List.of_mem_zip hy).1 with q|q
  ·exact .inl q
  exact .inr ⟨q,PySem.W.cellsFrom_some _ _ _ (.inl q)⟩
 refine codeAny_call_function hr.depth (KX _ _ lk) rfl S.co S.gen rfl (PySem.W.codeRec_of KX hcd) (hb _ _ _ _ ?_);refine wpAny_newFunctionEnv_cells S.kind hkind λenv he s1 x=>?_;subst he;refine⟨lim.keeps x.toInCall.keep,codeAny_func ?_⟩;obtain⟨t,ht,hq⟩:=hbody A outer s H vs Q E (hr.deeper _) hsp;have I:Inv (cxOf CX P w K mg base N qual scope f cdv A outer s H E) [] (start N vs) H s1:=qe S hr.hd e0 hl r x;refine Xg (ht [] s1 (start N vs) H _ I hq) (λfl s' hs=>?_) λe s' hs=>hs
 have fin:∀{σ':St} {H':Hp} {v:V} {u:Value},Inv (cxOf CX P w K mg base N qual scope f cdv A outer s H E) [] σ' H' s'->aF v u->Q v H'->CE outer P w H s Q u s' :=
  λ{σ' H' v u} J rv q=>⟨v,H',J.os,J.bare,J.base,J.hok,rv,q⟩
 cases fl with
 | ret u =>
  obtain⟨v,σ',H',J,rv,q⟩:=hs;exact fin J rv q
 | next =>
  obtain⟨σ',H',J,q⟩:=hs;exact fin (v:=V.non) (u:=Value.none) J rfl q
 | brk =>
  obtain⟨_,_,_,q⟩:=hs;exact False.elim q
 | cont =>
 obtain⟨_,_,_,q⟩:=hs;exact False.elim q
section
variable {X:Cx} {x:Str} {p pos:Pos} {e:Expr} {es:List Expr} {t:TA} {id T:String} {r:List V->Hp->VK->Prop}
def tCB (r:List V->Hp->VK->Prop) (t:TA):TE:=λU H Q=>t U H λvs H1=>r vs H1 Q
theorem am (hc:cO X (.builtin id) r) (hg:Gl X x) (hm:X.mg x=none) (hv:bootBuiltins x=some (.builtin id)) (ha:PA X (e::es) t) (hn:x ≠ "__name__" := by decide) (hdb:(x==("__debug__" : Str))=false:=by decide)
  (he:starEach (e::es) X.env=(false,eval e X.env)::starEach es X.env:=by rfl) (hpl:(backTo pos (starEach es X.env)).any (·.1)=false:=by rfl):PE X (.Call (.Name x p) (e::es) [] pos) (tCB r t):=by
 intro pins s U H Q I h;refine wpAny_Call_Name_kw (dy I hg hm hv ?_ hn hdb);exact PyProof.Rows.callWith_builtin1 (thn (ha pos pins s U H _ I h) λus s1 ⟨vs,H1,I1,r1,q1⟩=>hc pins s1 U H1 vs us Q I1 r1 q1) he hpl
theorem bZ (hc:cO X (.type T) r) (hg:Gl X x) (hm:X.mg x=none) (hv:bootBuiltins x=some (.type T)) (ha:PA X (e::es) t) (hn:x ≠ "__name__" := by decide) (hdb:(x==("__debug__" : Str))=false:=by decide)
  (he:starEach (e::es) X.env=(false,eval e X.env)::starEach es X.env:=by rfl) (hpl:(backTo pos (starEach es X.env)).any (·.1)=false:=by rfl):PE X (.Call (.Name x p) (e::es) [] pos) (tCB r t):=by
 intro pins s U H Q I h;refine wpAny_Call_Name_kw (dy I hg hm hv ?_ hn hdb);exact Xf (thn (ha pos pins s U H _ I h) λus s1 ⟨vs,H1,I1,r1,q1⟩=>hc pins s1 U H1 vs us Q I1 r1 q1) he hpl
end
end L2
namespace HT
open PySem PyProof.Rows
section
open PySem.SeqAt
open PySem.AutoSeq1 (wpAny_loadPart')
open PySem.MeetsSeq PySem.MeetsSeq2 PySem.MeetsSeq3
end
section
variable {prog:Program} {w:World} {A:Around} {E:B0} {s:Shared}
def sIx (n d:Nat):Option Int->Nat
 | none=>d
 | some v=>if v<0 then (v+(n:Int)).toNat else min v.toNat n
theorem lM (n d:Nat):sIx n d none=d:=rfl
theorem oz (n d k:Nat):sIx n d (some (k:Int))=min k n:=by
 show (if (k:Int)<0 then ((k:Int)+(n:Int)).toNat else min (k:Int).toNat n)=min k n;rw[Qz (by omega),QZ]
end
end HT
namespace L2
open PySem PySem.Spec PyProof.Rows
abbrev TO:=St->Hp->(Option Int->Hp->Prop)->Prop
def PO (X:Cx) (e:Option Expr) (t:TO):Prop :=
 ∀(pins:B1) (s:Shared) (U:St) (H:Hp) (Q:Option Int->Hp->Prop),Inv X pins U H s->t U H Q ->
  wpAny (model X.prog X.w) X.A (evalPart e X.env) (λu s'=>∃o H',Inv X pins U H' s'/\IsPart u o/\Q o H') X.xe s
def n_:TO:=λ_ H Q=>Q none H
def uN (t:TE):TO:=λU H Q=>t U H λx H1=>∃i,x=.int i/\Q (some i) H1
section
variable {X:Cx} {e:Expr} {te:TE} {lo hi:Option Expr} {tl th:TO} {pos p2:Pos}
theorem di:PO X none n_:=by
 intro pins s U H Q I h;rw[evalPart_none];exact QJ ⟨none,H,I,.none,h⟩
theorem dh (h:PE X e te):PO X (some e) (uN te):=by
 intro pins s U H Q I hw;rw[evalPart_some];refine thn (h pins s U H _ I hw) λu s1 ⟨x,H1,I1,r1,q1⟩=>?_;obtain⟨i,rfl,q⟩:=q1;obtain⟨t,rfl⟩:=r1;exact⟨some i,H1,I1,.int i t,q⟩
def SlR (X:Cx) (r:V->Option Int->Option Int->Hp->VK->Prop):Prop :=
 ∀(pins:B1) (s:Shared) (U:St) (H:Hp) (x:V) (v vl vu:Value) (lo hi:Option Int) (sl:Addr) (Q:VK),Inv X pins U H s->aF x v->s.heap.IsSliceOf sl vl vu .none->IsPart vl lo->IsPart vu hi->r x lo hi H Q ->
  ∃T id,typeLookup (.type T) "__getitem__" = pure (some (.builtin id))/\s.TypeIs v T/\wpAny (model X.prog X.w) X.A (getItem v (.ref sl)) (EP X pins U Q) X.xe s
def tSl (r:V->Option Int->Option Int->Hp->VK->Prop) (te:TE) (tl th:TO):TE:=λU H Q=>te U H λx H1=>tl U H1 λl H2=>th U H2 λu H3=>r x l u H3 Q
theorem cM {r:V->Option Int->Option Int->Hp->VK->Prop} (hr:SlR X r) (he:PE X e te) (hl:PO X lo tl) (hu:PO X hi th):PE X (.Subscript e (.Slice lo hi none p2) pos) (tSl r te tl th):=by
 intro pins s U H Q I h;refine Subscript_ (thn (he pins s U H _ I h) λv s1 ⟨x,H1,I1,r1,q1⟩=>?_);refine wpAny_Slice (thn (hl pins s1 U H1 _ I1 q1) λvl s2 ⟨l,H2,I2,pl,q2⟩=>thn (hu pins s2 U H2 _ I2 q2) λvu s3 ⟨u,H3,I3,pu,q3⟩=>?_);rw[evalPart_none];refine QJ ?_;have I4:Inv X pins U H3 { s3 with heap:=s3.heap.push { cls:=.type "slice", data:=.fields #[vl,vu,.none] } }:=I3.kept (t':=s3.toks) λb ob q=>Qf _ q;obtain⟨T,id,hT,ht,hg⟩:=hr pins { s3 with heap:=s3.heap.push { cls:=.type "slice", data:=.fields #[vl,vu,.none] } } U H3 x v vl vu l u s3.heap.objs.size Q I4 r1 (Heap.IsSliceOf.new ..) pl pu q3;show wpAny (model X.prog X.w) X.A (subscriptTail e (.Slice lo hi none p2) v (.ref s3.heap.objs.size)) (EP X pins U Q) X.xe { s3 with heap:=s3.heap.push { cls:=.type "slice", data:=.fields #[vl,vu,.none] } };exact tail_any (ops:=[.ref s3.heap.objs.size,v]) ht hT hg (by with_unfolding_all rfl)
def iX (xs:List V) (lo hi:Option Int):List V:=(xs.drop (HT.sIx xs.length 0 lo)).take (HT.sIx xs.length xs.length hi-HT.sIx xs.length 0 lo)
theorem mF (xs:List V) (lo hi:Option Int):(iX xs lo hi).length<=xs.length:=by
 unfold iX;rw[QF,Xd];omega
end
def ixN (n:Nat) (i:Int):Option Nat:=if 0<=i then (if i<n then some i.toNat else none) else if -(n:Int)<=i then some (i+n).toNat else none
def atI {α:Type} (xs:List α) (i:Int):Option α:=(ixN xs.length i).bind λj=>xs[j]?
theorem gK {n:Nat} {i:Int} {j:Nat} (h:ixN n i=some j):seqIndex? i n=some j/\j<n/\-(n:Int)<=i/\i<n:=by
 unfold ixN at h;by_cases h0:0<=i
 ·rw[Qv h0]at h;by_cases h1:i<n
  ·rw[Qv h1]at h;have e:i.toNat=j:=QY h;exact⟨by rw[seqIndex_of h0 h1,e],by omega,by omega,h1⟩
  rw[Qz h1]at h;cases h
 rw[Qz h0]at h;by_cases h1:-(n:Int)<=i
 ·rw[Qv h1]at h;have e:(i+n).toNat=j:=QY h;exact⟨by rw[seqIndex_neg (by omega) h1,e],by omega,h1,by omega⟩
 rw[Qz h1]at h;cases h
theorem kS {α:Type} {xs:List α} {i:Int} {v:α} (h:atI xs i=some v):∃j,seqIndex? i xs.length=some j/\xs[j]?=some v/\j<xs.length/\-(xs.length:Int)<=i/\i<xs.length:=by
 unfold atI at h
 cases e:ixN xs.length i with
 | none=>rw[e]at h;cases h
 | some j =>
 rw[e]at h;obtain⟨h1,h2,h3,h4⟩:=gK e;exact⟨j,h1,h,h2,h3,h4⟩
theorem aU {α:Type} {xs:List α} {j:Nat} {v:α} (h:xs[j]?=some v):atI xs (j:Int)=some v:=by
 have hj:j<xs.length:=(Qc.mp h).1
 have e:ixN xs.length (j:Int)=some j:=by
  unfold ixN;rw[Qv (by omega),Qv (by omega)];simp
 unfold atI;rw[e];exact h
def uG (b:Expr):Prop:=∀o i,subscripted b false o i=operate [o,i] (getItem o i)
def IxR (X:Cx) (r:R2):Prop :=
 ∀(value slice:Expr) (pins:B1) (s:Shared) (U:St) (H:Hp) (x y:V) (v u:Value) (Q:VK),Inv X pins U H s->aF x v->aF y u->r x y H Q ->
  subscripted slice false v u=operate [v,u] (getItem v u)->wpAny (model X.prog X.w) X.A (subscriptTail value slice v u) (EP X pins U Q) X.xe s
def MtR (X:Cx) (id:String) (r:V->List V->Hp->VK->Prop):Prop :=
 ∀(pins:B1) (s:Shared) (U:St) (H:Hp) (x:V) (xs:List V) (v:Value) (us:List Value) (Q:VK),Inv X pins U H s->aF x v->aG xs us->r x xs H Q ->
  wpAny (model X.prog X.w) X.A (call (.builtin id) (v::us)) (EP X pins U Q) X.xe s
section
variable {X:Cx} {a b:Expr} {ta tb:TE} {pos:Pos}
theorem au {r:R2} (hr:IxR X r) (ha:PE X a ta) (hb:PE X b tb) (hs:uG b:=by exact λ_ _=>rfl):PE X (.Subscript a b pos) (tOp r ta tb):=by
 intro pins s U H Q I h;exact Subscript_ (wU ha hb I h λv u s2 x y H2 I2 rx ry q=>hr a b pins s2 U H2 x y v u Q I2 rx ry q (hs _ _))
def lP (K:PySem.W.Frag):R2:=λx y H Q=>∃p xs i v,x=.ref p/\y=.int i/\SqL K H p xs/\atI xs i=some v/\Q v H
def pG (K:PySem.W.Frag):R2:=λx y H Q=>∃p xs i v,x=.ref p/\y=.int i/\SqT K H p xs/\atI xs i=some v/\Q v H
def tO:R2:=λx y H Q=>∃z i c,x=.str z/\y=.int i/\z.length<=sizeLine/\atI z.cps.toList i=some c/\Q (.str ⟨#[c]⟩) H
theorem aM:IxR X (lP X.K):=by
 intro value slice pins s U H x y v u Q I rx ry h hs;obtain⟨p,xs,i,z,rfl,rfl,hq,he,q⟩:=h;cases rx;obtain⟨t,rfl⟩:=ry;obtain⟨its,r,pl,hz⟩:=I.list hq;obtain⟨j,h1,h2,h3,h4,h5⟩:=kS he;obtain⟨w,ew,rw'⟩:=r.get h2;have hl:=r.length;have hn:=fX;have fin:EP X pins U Q w s:=⟨z,H,I,rw',q⟩;by_cases h0:0<=i
 ·have hj:i.toNat=j:=by
   rw[seqIndex_of h0 h5]at h1;exact QY h1
  exact item_listR pl.isList h0 (by omega) (by rw[hj];simpa using ew) fin hs
 have hj:(i+(its.toArray.size:Int)).toNat=j:=by
  rw[seqIndex_neg (by omega) h4]at h1;rw[Qg,<-hl];exact QY h1
 exact subscriptTail_builtinR (x:=w) pl.isList.typeIs slot_list_getitem.lookup
  (wpAny_getItem_list_neg (Q:=λr s'=>r=w/\EP X pins U Q r s') pl.isList (by omega) (by rw[Qg] <;> omega) (by omega) (by rw[hj];simpa using ew) ⟨rfl,fin⟩) hs
theorem aW:IxR X (pG X.K):=by
 intro value slice pins s U H x y v u Q I rx ry h hs;obtain⟨p,xs,i,z,rfl,rfl,hq,he,q⟩:=h;cases rx;obtain⟨t,rfl⟩:=ry;obtain⟨its,r,pl,hz⟩:=I.tuple hq;obtain⟨j,h1,h2,h3,h4,h5⟩:=kS he;obtain⟨w,ew,rw'⟩:=r.get h2;have hl:=r.length;have hn:=fX;have fin:EP X pins U Q w s:=⟨z,H,I,rw',q⟩
 exact subscriptTail_builtinR (x:=w) pl.typeIs slot_tuple_getitem.lookup
  (getItem_tuple (j:=j) (Q:=λr s'=>r=w/\EP X pins U Q r s') pl (by omega) (by omega) (by rw[Qg,<-hl];exact h1) (by simpa using ew) ⟨rfl,fin⟩) hs
theorem dS:IxR X tO:=by
 intro value slice pins s U H x y v u Q I rx ry h hs;obtain⟨z,i,c,rfl,rfl,hz,he,q⟩:=h;obtain⟨t,rfl⟩:=rx;obtain⟨t',rfl⟩:=ry;obtain⟨j,h1,h2,h3,h4,h5⟩:=kS he;have hl:z.cps.toList.length=z.length:=by simp[Str.length]
 rw[hl]at h1 h4 h5;have hn:=fX
 exact tail_any (typeIs_str s z t) slot_str_getitem.lookup (getItem_str (c:=c) (by
  have e1:decide (i < -(2 ^ 63:Int))=false:=QE (by omega);have e2:decide (i>=2 ^ 63)=false:=QE (by omega)
  rw[e1,e2,Bool.or_false]) (by rw[h1];simpa using h2) ⟨.str ⟨#[c]⟩,H,I.tok _,⟨_,rfl⟩,q⟩) hs
theorem nH (its:List Value) (n j:Nat) (u:Value):Obj.mapSeq (·.setIfInBounds j u) { cls:=.type "list", data:=.seq its.toArray n }={ cls:=.type "list", data:=.seq (its.set j u).toArray n }:=by
 simp[Obj.mapSeq]
variable {s:Shared} {pins:B1}
theorem Inv.lst {U:St} {H:Hp} {p:Addr} {xs:List V} (I:Inv X pins U H s) (h:H p=some (.lst xs)) :
  ∃(its:List Value) (n:Nat),aG xs its/\s.heap.get? p=some { cls:=.type "list", data:=.seq its.toArray n }/\xs.length<=sizeLine:=by
 obtain⟨z,its,n,r,e⟩:=I.hok p _ h;exact⟨its,n,r,e,z⟩
theorem Inv.lstUpd {U:St} {H:Hp} {p:Addr} {xs ys:List V} {its its':List Value} {n n':Nat} {f:Obj->Obj} (I:Inv X pins U H s) (h:H p=some (.lst xs))
  (ho:s.heap.get? p=some { cls:=.type "list", data:=.seq its.toArray n }) (hf:f { cls:=.type "list", data:=.seq its.toArray n }={ cls:=.type "list", data:=.seq its'.toArray n' }) (r:aG ys its') (hz:ys.length<=sizeLine) (t:Nat) :
  Inv X pins U (upd H p (.lst ys)) { s with heap:=s.heap.update p f,toks:=t }:=by
 have e:(s.heap.update p f).get? p=some { cls:=.type "list", data:=.seq its'.toArray n' }:=by
  rw[Xu f ho (by rw[hf] <;> rfl),hf]
 refine I.write (x:=p) (e:=p) (by rw[h];trivial) (.inl rfl) (λb u hb q=>(Qw _ _ (Xz hb)).trans q) ⟨_,e⟩ ?_;exact⟨hz,its',n',r,e⟩
def uZ:V->V->V->Hp->(Hp->Prop)->Prop:=λo i v H Q=>∃p xs k j,o=.ref p/\i=.int k/\H p=some (.lst xs)/\ixN xs.length k=some j/\Q (upd H p (.lst (xs.set j v)))
theorem lD:AG X uZ:=by
 intro pins s U H o i v ov iv u Q I ro ri rv h;obtain⟨p,xs,k,j,rfl,rfl,hp,hj,q⟩:=h;cases ro;obtain⟨t,rfl⟩:=ri;obtain⟨its,n,r,ho,hz⟩:=I.lst hp;obtain⟨h1,h2,h3,h4⟩:=gK hj;have hl:=r.length;have hn:=fX
 have I':Inv X pins U (upd H p (.lst (xs.set j v))) { s with heap:=s.heap.update p (Obj.mapSeq (·.setIfInBounds j u)) } :=
  I.lstUpd hp ho (nH its n j u) (r.set rv j) (by rw[Xv];exact hz) s.toks
 by_cases h0:0<=k
 ·have hk:k.toNat=j:=by
   rw[seqIndex_of h0 h4]at h1;exact QY h1
  exact PySem.W.ki_setAt ho h0 (by omega) (by rw[Qg,<-hl];exact h4) (by rw[hk];exact⟨_,I',q⟩)
 have hk:(k+(its.toArray.size:Int)).toNat=j:=by
  rw[seqIndex_neg (by omega) h3]at h1;rw[Qg,<-hl];exact QY h1
 exact PySem.W.ki_setBack ho (by omega) (by rw[Qg,<-hl];exact h3) (by omega) (by rw[hk];exact⟨_,I',q⟩)
theorem uV (i:Int) (n:Nat):max 0 (min (if i<0 then i+(n:Int) else i) (n:Int))=(((if i<0 then (i+(n:Int)).toNat else min i.toNat n):Nat):Int):=by
 by_cases h:i<0
 ·rw[Qv h,Qv h,Int.min_eq_left (by omega)];omega
 obtain⟨k,rfl⟩:=Int.eq_ofNat_of_zero_le (Int.not_lt.mp h);rw[Qz h,Qz h,QZ];omega
theorem jU (lo hi:Option Int) (n:Nat):(sliceBounds lo hi none n).1=((HT.sIx n 0 lo:Nat):Int)/\(sliceBounds lo hi none n).2.1=((HT.sIx n n hi:Nat):Int)/\(sliceBounds lo hi none n).2.2=1:=by
 refine⟨?_,?_,rfl⟩
 ·cases lo with
  | none=>simp[sliceBounds,HT.sIx]
  | some i =>
   simp only[sliceBounds,HT.sIx,Option.getD_none,show (1:Int)>0 by decide,if_true];exact uV i n
 cases hi with
 | none=>simp[sliceBounds,HT.sIx]
 | some i =>
 simp only[sliceBounds,HT.sIx,Option.getD_none,show (1:Int)>0 by decide,if_true];exact uV i n
theorem iP (its:List Value) (lo hi:Option Int):slicePick its.toArray lo hi none=((its.drop (HT.sIx its.length 0 lo)).take (HT.sIx its.length its.length hi-HT.sIx its.length 0 lo)).toArray:=by
 obtain⟨h1,h2,h3⟩:=jU lo hi its.toArray.size;unfold slicePick;rw[h1,h2,h3];simp only[sliceRange_one,pick_run,Qg] <;> rfl
def xt (K:PySem.W.Frag):V->Option Int->Option Int->Hp->VK->Prop:=λx lo hi H Q=>∃a xs,x=.ref a/\SqL K H a xs/\∀p,H p=none->Q (.ref p) (upd H p (.lst (iX xs lo hi)))
theorem jW:SlR X (xt X.K):=by
 intro pins s U H x v vl vu lo hi sl Q I rx hs pl pu h;obtain⟨a,xs,rfl,hx,q⟩:=h;cases rx;obtain⟨its,r,ht,hz⟩:=I.list hx;have hlen:=r.length;refine⟨"list", _,slot_list_getitem.lookup,ht.isList.typeIs,?_⟩;refine wpAny_getItem_list_slice ht.isList hs pl pu .none (by simp) ?_ (by rw[Qg] <;> omega);rw[iP,<-hlen];refine⟨.ref s.heap.objs.size,_,I.laid (t':=s.toks) (o:=.lst (iX xs lo hi)) (λb ob q=>Qf _ q) (Qh _) ?_,rfl,q _ (I.hok.fresh (Qh _))⟩;exact⟨QQ (mF xs lo hi) hz,_,0,(r.drop (HT.sIx xs.length 0 lo)).take (HT.sIx xs.length xs.length hi-HT.sIx xs.length 0 lo),QS _ rfl⟩
def bI:V->Bool
 | .non=>true
 | .bl _=>true
 | .int _=>true
 | .str _=>true
 | _=>false
def eqV:V->V->Bool
 | .non,.non=>true
 | .bl a,.bl b=>a==b
 | .bl a,.int b=>(if a then 1 else 0)==b
 | .int a,.bl b=>a==(if b then 1 else 0)
 | .int a,.int b=>a==b
 | .str a,.str b=>a==b
 | _,_=>false
variable {u v:Value}
theorem iD {A:Around} {s:Shared} {y x:V} (ry:aF y u) (rx:aF x v) (fy:bI y=true) (fx:bI x=true):SeqAt.EqAt A s u v (eqV y x):=by
 cases y with
 | non =>
  cases ry
  cases x with
  | non=>cases rx;exact SeqAt.EqAt.same _
  | bl b=>cases rx;exact SeqAt.EqAt.none_bool b
  | int b=>obtain⟨t,rfl⟩:=rx;exact SeqAt.EqAt.none_int b t
  | str b=>obtain⟨t,rfl⟩:=rx;exact SeqAt.EqAt.none_str b t
  | _=>exact absurd (show false=true from fx) Qj
 | bl a =>
  cases ry
  cases x with
  | non=>cases rx;exact SeqAt.EqAt.bool_none a
  | bl b=>cases rx;exact SeqAt.EqAt.bool_bool a b
  | int b=>obtain⟨t,rfl⟩:=rx;exact SeqAt.EqAt.bool_int a b t
  | str b=>obtain⟨t,rfl⟩:=rx;exact SeqAt.EqAt.bool_str a b t
  | _=>exact absurd (show false=true from fx) Qj
 | int a =>
  obtain⟨t',rfl⟩:=ry
  cases x with
  | non=>cases rx;exact SeqAt.EqAt.int_none a t'
  | bl b=>cases rx;exact SeqAt.EqAt.int_bool a t' b
  | int b=>obtain⟨t,rfl⟩:=rx;exact SeqAt.EqAt.int_int a t' b t
  | str b=>obtain⟨t,rfl⟩:=rx;exact SeqAt.EqAt.int_str a t' b t
  | _=>exact absurd (show false=true from fx) Qj
 | str a =>
  obtain⟨t',rfl⟩:=ry
  cases x with
  | non=>cases rx;exact SeqAt.EqAt.str_none a t'
  | bl b=>cases rx;exact SeqAt.EqAt.str_bool a t' b
  | int b=>obtain⟨t,rfl⟩:=rx;exact SeqAt.EqAt.str_int a t' b t
  | str b=>obtain⟨t,rfl⟩:=rx;exact SeqAt.EqAt.str_str a t' b t
  | _=>exact absurd (show false=true from fx) Qj
 | _=>exact absurd (show false=true from fy) Qj
def eqU (x:V) (u:Value):Bool:=match u with
 | .none=>eqV .non x
 | .bool b=>eqV (.bl b) x
 | .int i _=>eqV (.int i) x
 | .str z _=>eqV (.str z) x
 | _=>false
theorem sV {x y:V} (r:aF y u) (f:bI y=true):eqU x u=eqV y x:=by
 cases y with
 | non=>cases r;rfl
 | bl b=>cases r;rfl
 | int i=>obtain⟨t,rfl⟩:=r;rfl
 | str z=>obtain⟨t,rfl⟩:=r;rfl
 | _=>exact absurd (show false=true from f) Qj
theorem fI {x:V}:∀{xs:List V} {us:List Value},aG xs us->xs.all bI=true->us.any (eqU x)=xs.any λy=>eqV y x
 | _,_,.nil,_=>rfl
 | y::xs,u::us,.cons r t,f=>by
  rw[List.all_cons,Xp]at f;rw[List.any_cons,List.any_cons,sV r f.1,fI t f.2]
theorem dR {A:Around} {s:Shared} {x:V} {v:Value} (rx:aF x v) (fx:bI x=true):∀{xs:List V} {us:List Value},aG xs us->xs.all bI=true->∀u∈us,SeqAt.EqAt A s u v (eqU x u)
 | _,_,.nil,_=>λu hu=>by cases hu
 | y::xs,u::us,.cons r t,f=>λu' hu=>by
  rw[List.all_cons,Xp]at f;rcases Qu.mp hu with rfl|hu
  ·rw[sV r f.1];exact iD r rx f.1 fx
  exact dR rx fx t f.2 u' hu
def inV (x:V) (xs:List V):Bool:=xs.any λy=>eqV y x
def rIn (K:PySem.W.Frag) (neg:Bool):R2:=λx y H Q=>∃p xs,y=.ref p/\(SqL K H p xs\/SqT K H p xs)/\bI x=true/\xs.all bI=true/\Q (.bl (if neg then !inV x xs else inV x xs)) H
theorem fU:OpR X (compareOp .In) (rIn X.K false):=by
 intro pins s U H x y v u Q I rx ry h;obtain⟨p,xs,rfl,hq,fx,fs,q⟩:=h;cases ry;rcases hq with hq|hq
 ·obtain⟨its,r,pl,hz⟩:=I.list hq;refine SeqAt.in_listAt (eqU x) pl.isList (λw hw=>dR rx fx r fs w (by simpa using hw)) ⟨.bl _,H,I,rfl,?_⟩;rw[show its.toArray.any (eqU x)=its.any (eqU x) by simp,fI r fs];exact q
 obtain⟨its,r,pl,hz⟩:=I.tuple hq;refine SeqAt.in_tupleAt (eqU x) pl (λw hw=>dR rx fx r fs w (by simpa using hw)) ⟨.bl _,H,I,rfl,?_⟩;rw[show its.toArray.any (eqU x)=its.any (eqU x) by simp,fI r fs];exact q
theorem fm:OpR X (compareOp .NotIn) (rIn X.K true):=by
 intro pins s U H x y v u Q I rx ry h;obtain⟨p,xs,rfl,hq,fx,fs,q⟩:=h;cases ry;rcases hq with hq|hq
 ·obtain⟨its,r,pl,hz⟩:=I.list hq;refine SeqAt.notIn_listAt (eqU x) pl.isList (λw hw=>dR rx fx r fs w (by simpa using hw)) ⟨.bl _,H,I,rfl,?_⟩;rw[show its.toArray.any (eqU x)=its.any (eqU x) by simp,fI r fs];exact q
 obtain⟨its,r,pl,hz⟩:=I.tuple hq;refine SeqAt.notIn_tupleAt (eqU x) pl (λw hw=>dR rx fx r fs w (by simpa using hw)) ⟨.bl _,H,I,rfl,?_⟩;rw[show its.toArray.any (eqU x)=its.any (eqU x) by simp,fI r fs];exact q
theorem ao:cO X (.builtin "len") (λxs H Q=>∃p ys,xs=[.ref p]/\(SqL X.K H p ys\/SqT X.K H p ys)/\Q (.int ys.length) H):=by
 intro pins s U H xs us Q I r h;obtain⟨p,ys,rfl,hq,q⟩:=h;obtain⟨u,rfl,rx⟩:=dE r;cases rx;have hn:=fX;rcases hq with hq|hq
 ·obtain⟨its,r',pl,hz⟩:=I.list hq;have hlen:=r'.length;exact Calls.call_len_list pl.isList (by simp only[Qg] <;> omega) ⟨.int ys.length,H,I.tok _,⟨s.toks+1,by rw[Qg,hlen]⟩,q⟩
 obtain⟨its,r',pl,hz⟩:=I.tuple hq;have hlen:=r'.length;exact len_tuple pl (by simp only[Qg] <;> omega) ⟨.int ys.length,H,I.tok _,⟨s.toks+1,by rw[Qg,hlen]⟩,q⟩
theorem kM:cO X (.builtin "len") (λxs H Q=>∃z,xs=[.str z]/\z.length<=sizeLine/\Q (.int z.length) H):=by
 intro pins s U H xs us Q I r h;obtain⟨z,rfl,hz,q⟩:=h;obtain⟨u,rfl,t,rfl⟩:=dE r;have hn:=fX;exact len_str (by omega) ⟨.int z.length,H,I.tok _,⟨_,rfl⟩,q⟩
theorem dB:cO X (.type "list") (λxs H Q=>∃p ys,xs=[.ref p]/\(SqL X.K H p ys\/SqT X.K H p ys)/\∀l,H l=none->Q (.ref l) (upd H l (.lst ys))):=by
 intro pins s U H xs us Q I r h;obtain⟨p,ys,rfl,hq,q⟩:=h;obtain⟨u,rfl,rx⟩:=dE r;cases rx
 have fin:∀(its:List Value),aG ys its->ys.length<=sizeLine->∀(h':Heap) (c':Nat),(∀b o',s.heap.get? b=some o'->h'.get? b=some o') ->
   h'.get? s.heap.objs.size=some { cls:=.type "list", dict:=none,data:=.seq its.toArray c',slots:=#[] }->EP X pins U Q (.ref s.heap.objs.size) { s with heap:=h' }:=λits r' hz h' c' kp e =>
  ⟨.ref s.heap.objs.size,_,I.laid (t':=s.toks) kp (Qh _) (show aX X.prog X.w _ h' _ (.lst ys) from⟨hz,its,c',r',e⟩),rfl,q _ (I.hok.fresh (Qh _))⟩
 rcases hq with hq|hq
 ·obtain⟨its,r',pl,hz⟩:=I.list hq;have hlen:=r'.length;obtain⟨o,ho,hc,n,hd⟩:=pl.isList;exact call_list_seq p (.inl rfl) ho hc hd (λh' c' kp e=>fin its r' hz h' c' kp e) (by simp only[Qg] <;> omega)
 obtain⟨its,r',pl,hz⟩:=I.tuple hq;have hlen:=r'.length;obtain⟨o,ho,hc,n,hd⟩:=pl;exact call_list_seq p (.inr rfl) ho hc hd (λh' c' kp e=>fin its r' hz h' c' kp e) (by simp only[Qg] <;> omega)
def tyV (K:PySem.W.Frag) (T:String) (x:V) (H:Hp):Prop:=match x with
 | .str _=>T = "str"
 | .int _=>T = "int"
 | .ref p=>(T = "list" /\ ∃xs,SqL K H p xs)\/(T = "tuple" /\ ∃o,K.lookup p=some o/\o.cls=.type "tuple" /\ o.dict=none) \/
   (T = "dict" /\ ((∃kvs,H p=some (.dK kvs))\/∃kvs,H p=some (.dT kvs)))\/(T = "set" /\ ∃S n,H p=some (.set S n))
 | _=>False
theorem qG {U:St} {H:Hp} {T:String} {x:V} (I:Inv X pins U H s) (r:aF x v) (ty:tyV X.K T x H) :
  s.TypeIs v T/\∀a,v=.ref a->∃ob,s.heap.get? a=some ob/\ob.dict=none:=by
 cases x with
 | str z =>
  obtain⟨t,rfl⟩:=r;cases (show T = "str" from ty);exact⟨typeIs_str s z t,λ_ e=>nomatch e⟩
 | int i =>
  obtain⟨t,rfl⟩:=r;cases (show T = "int" from ty);exact⟨typeIs_int s i t,λ_ e=>nomatch e⟩
 | ref p =>
  cases r;rcases ty with⟨rfl,xs,hq⟩|⟨rfl,o,hk,hc,hd⟩|⟨rfl,hk⟩|⟨rfl,S,n,hk⟩
  ·obtain⟨its,_,pl,_⟩:=I.list hq;refine⟨pl.isList.typeIs,λa e=>?_⟩;cases e;obtain⟨o,n,e,c,hd,_⟩:=pl;exact⟨o,e,hd⟩
  ·refine⟨⟨o,I.kIn p o hk,hc⟩,λa e=>?_⟩;cases e;exact⟨o,I.kIn _ o hk,hd⟩
  ·have z:∃o,s.heap.get? p=some o/\o.ExactDict:=by
    rcases hk with⟨kvs,hk⟩|⟨kvs,hk⟩
    ·obtain⟨_,_,_,_,o,_,_,e,ex,_⟩:=I.hok p _ hk;exact⟨o,e,ex⟩
    obtain⟨_,_,_,_,o,_,_,e,ex,_⟩:=I.hok p _ hk;exact⟨o,e,ex⟩
   obtain⟨o,e,ex⟩:=z;refine⟨⟨o,e,ex.1⟩,λa e2=>?_⟩;cases e2;exact⟨o,e,ex.2.1⟩
  obtain⟨o,_,_,_,e,ex,_⟩:=I.hok p _ hk;refine⟨⟨o,e,ex.1⟩,λa e2=>?_⟩;cases e2;exact⟨o,e,ex.2.1⟩
 | _=>exact False.elim ty
def xk (K:PySem.W.Frag) (T:String) (r:V->List V->Hp->VK->Prop) (to:TE):TE:=λU H Q=>to U H λx H1=>tyV K T x H1/\r x [] H1 Q
def tBM (K:PySem.W.Frag) (T:String) (r:V->List V->Hp->VK->Prop) (to:TE) (t:TA):TE:=λU H Q=>to U H λx H1=>tyV K T x H1/\t U H1 λxs H2=>r x xs H2 Q
variable {o e:Expr} {es:List Expr} {to:TE} {t:TA} {name:Str} {apos cpos:Pos} {T id:String} {r:V->List V->Hp->VK->Prop}
theorem rK (pa:PlainAttrs T) (slot:Slot T name id) (hty:typeOf (.builtin id)=pure (.type "method_descriptor")) (hm:MtR X id r) (ho:PE X o to)
  (hbase:attributeBase o name X.env (eval o X.env)=eval o X.env:=by rfl) (hline:(apos.endLine==cpos.line)=true:=by rfl):PE X (.Call (.Attribute o name apos) [] [] cpos) (xk X.K T r to):=by
 intro pins s U H Q I h;refine wpAny_Call_method0_late hbase hline (thn (ho pins s U H _ I h) λv s1 ⟨x,H1,I1,r1,ty,q1⟩=>?_);obtain⟨h1,h2⟩:=qG I1 r1 ty;exact⟨T,id,pa,slot,hty,h1,h2,Calls.callWith_builtin rfl (PySem.evalArgs_none (hm pins s1 U H1 x [] v [] Q I1 r1 .nil q1))⟩
theorem cE (pa:PlainAttrs T) (slot:Slot T name id) (hty:typeOf (.builtin id)=pure (.type "method_descriptor")) (hm:MtR X id r) (ho:PE X o to) (ha:PA X (e::es) t)
  (hbase:attributeBase o name X.env (eval o X.env)=eval o X.env:=by rfl)
  (hfew:((backTo cpos (starEach (e::es) X.env)).all (fun x=>!x.1)&&(backToKw cpos (keywordEach [] X.env)).all (fun x=>x.1.isSome)
   && decide ((e::es).length+([]:List Keyword).length+(if ([]:List Keyword).isEmpty then 0 else 1)<30))=true:=by rfl)
  (hline:(apos.endLine==cpos.line)=true:=by rfl) (hs:starEach (e::es) X.env=(false,eval e X.env)::starEach es X.env:=by rfl) (hplain:(backTo cpos (starEach es X.env)).any (·.1)=false:=by rfl) :
  PE X (.Call (.Attribute o name apos) (e::es) [] cpos) (tBM X.K T r to t):=by
 intro pins s U H Q I h;refine wpAny_Call_method_late hbase hfew hline rfl (thn (ho pins s U H _ I h) λv s1 ⟨x,H1,I1,r1,ty,q1⟩=>?_);obtain⟨h1,h2⟩:=qG I1 r1 ty;refine⟨T,id,pa,slot,hty,h1,h2,?_⟩;have hA:=ha cpos pins s1 U H1 _ I1 q1;rw[hs]at hA ⊢;refine Calls.callWith_builtin (by show (false || (backTo cpos (starEach es X.env)).any (·.1))=false;rw[hplain] <;> rfl) (Calls.evalArgs_plain ?_);exact thn hA λus s2 ⟨vs,H2,I2,r2,q2⟩=>hm pins s2 U H2 x vs v us Q I2 r1 r2 q2
end
def MtM (X:Cx) (id:String) (r:V->List V->Hp->VK->Prop):Prop :=
 ∀(pins:B1) (s:Shared) (U:St) (H:Hp) (x:V) (xs:List V) (v:Value) (us:List Value) (Q:VK),Inv X pins U H s->aF x v->aG xs us->r x xs H Q ->
  wpAny (model X.prog X.w) X.A (call (.builtin id) (v::us)) (EP X pins U Q) X.xe s
theorem aG.one:∀{x:V} {us:List Value},aG [x] us->∃u,us=[u]/\aF x u
 | _,_,.cons r .nil=>⟨_,rfl,r⟩
theorem aG.zero:∀{us:List Value},aG [] us->us=[]
 | _,.nil=>rfl
theorem aG.dropLast {xs:List V} {us:List Value} (h:aG xs us):aG xs.dropLast us.dropLast:=by
 induction h with
 | nil=>exact .nil
 | cons r t ih =>
 cases t with
 | nil=>exact .nil
 | cons q t'=>exact .cons r ih
theorem aG.eraseIdx:∀{xs:List V} {us:List Value} (i:Nat),aG xs us->aG (xs.eraseIdx i) (us.eraseIdx i)
 | _,_,_,.nil=>.nil
 | _,_,0,.cons _ t=>t
 | _,_,i+1,.cons r t=>.cons r (aG.eraseIdx i t)
theorem aG.reverse {xs:List V} {us:List Value} (h:aG xs us):aG xs.reverse us.reverse:=by
 induction h with
 | nil=>exact .nil
 | cons r t ih=>rw[List.reverse_cons,List.reverse_cons];exact aG.append ih (.cons r .nil)
theorem nQ {α:Type} (l:List α):l.eraseIdx (l.length-1)=l.dropLast:=by
 induction l with
 | nil=>rfl
 | cons a r ih =>
 cases r with
 | nil=>rfl
 | cons b r =>
 have e:(a::b::r).length-1=((b::r).length-1)+1:=by
  have h1:(a::b::r).length=r.length+2:=rfl;have h2:(b::r).length=r.length+1:=rfl;omega
 rw[e,List.eraseIdx_cons_succ,ih]
 all_goals rfl
theorem ju {α:Type}:∀(l:List α) (i:Nat),(l.eraseIdx i).length<=l.length
 | [],_=>Qh _
 | _::_,0=>Nat.le_succ _
 | _::r,i+1=>Nat.succ_le_succ (ju r i)
section
variable {X:Cx} {pins:B1} {U:St} {H:Hp} {s:Shared} {l b:Addr} {xs ys zs:List V}
theorem Inv.lset {its its':List Value} {n:Nat} {f:Array Value->Array Value} {t':Nat} (I:Inv X pins U H s) (hH:H l=some (.lst xs))
  (e:s.heap.get? l=some { cls:=.type "list", data:=.seq its.toArray n }) (hf:f its.toArray=its'.toArray) (hv:aG ys its') (hz:ys.length<=sizeLine) :
  Inv X pins U (upd H l (.lst ys)) { s with heap:=s.heap.update l (Obj.mapSeq f),toks:=t' }:=by
 have q:=PySem.IsL.update e f;rw[hf]at q;refine I.write (x:=l) (e:=l) (by rw[hH];exact trivial) (.inl rfl) (λb' u hb hu=>(Qw s.heap (Obj.mapSeq f) (Xz hb)).trans hu) ⟨_,q⟩ ?_;exact⟨hz,its',_,hv,q⟩
theorem Inv.lnew {its:List Value} {t':Nat} (I:Inv X pins U H s) (hv:aG ys its) (hz:ys.length<=sizeLine) :
  Inv X pins U (upd H s.heap.objs.size (.lst ys)) { s with heap:=s.heap.push { cls:=.type "list", data:=.seq its.toArray },toks:=t' } :=
 I.laid (λ_ _ q=>Qf _ q) (Qh _) ⟨hz,its,0,hv,QS _ rfl⟩
theorem Inv.fresh (I:Inv X pins U H s):H s.heap.objs.size=none:=I.hok.fresh (Qh _)
theorem Inv.lstM (I:Inv X pins U H s) (hH:H l=some (.lst xs)):xs.length<=sizeLine/\∃(its:List Value) (n:Nat),aG xs its/\xs.length=its.length/\s.heap.get? l=some { cls:=.type "list", data:=.seq its.toArray n }:=by
 obtain⟨z,its,n,r,e⟩:=I.hok l _ hH;exact⟨z,its,n,r,r.length,e⟩
end
section
variable {X:Cx}
def oA:V->List V->Hp->VK->Prop:=λx vs H Q=>∃l xs y,x=.ref l/\vs=[y]/\H l=some (.lst xs)/\xs.length<sizeLine/\Q .non (upd H l (.lst (xs++[y])))
theorem bA:MtM X "list.append" oA:=by
 intro pins s U H x vs v us Q I rx rv h;obtain⟨l,xs,y,rfl,rfl,hH,hz,q⟩:=h;cases rx;obtain⟨u,rfl,ru⟩:=rv.one;obtain⟨z,its,n,r,hl,e⟩:=I.lstM hH;refine call_meets F.slot_list_append ⟨_,e,rfl⟩ F.entry_list_append (F.args_list_append_2 _ _) (PySem.list_append l its.toArray n u (by rw[Qg];omega)) ⟨e,?_⟩;refine⟨.non,_,I.lset (its':=its++[u]) hH e (by simp) (r.append (.cons ru .nil)) ?_,rfl,q⟩;rw[Qd,List.length_singleton];omega
def AM:V->List V->Hp->VK->Prop:=λx vs H Q=>∃l xs y,x=.ref l/\vs=[]/\H l=some (.lst xs)/\xs[xs.length-1]?=some y/\Q y (upd H l (.lst xs.dropLast))
theorem sj:MtM X "list.pop" AM:=by
 intro pins s U H x vs v us Q I rx rv h;obtain⟨l,xs,y,rfl,rfl,hH,hy,q⟩:=h;cases rx;have hus:=rv.zero;subst hus;obtain⟨z,its,n,r,hl,e⟩:=I.lstM hH;obtain⟨u,hu,ru⟩:=r.get hy
 have hy':its.toArray[its.toArray.size-1]?=some u:=by
  show its.toArray[its.length-1]?=some u;rw[<-Qx,<-hl];exact hu
 refine call_meets F.slot_list_pop ⟨_,e,rfl⟩ F.entry_list_pop (F.args_list_pop_1 _) (MeetsSeq.list_pop_last l its.toArray n u hy' (by rw[Qg];omega)) ⟨e,?_⟩;refine⟨y,_,I.lset (its':=its.dropLast) hH e ?_ r.dropLast ?_,ru,q⟩
 ·show its.toArray.eraseIdxIfInBounds (its.toArray.size-1)=its.dropLast.toArray;rw[Qg,List.eraseIdxIfInBounds_toArray,nQ]
 rw[List.length_dropLast];omega
def v5:V->List V->Hp->VK->Prop:=λx vs H Q=>∃l xs i k y,x=.ref l/\vs=[.int i]/\H l=some (.lst xs)/\-(2 ^ 63)<=i/\i<2 ^ 63/\seqIndex? i xs.length=some k/\xs[k]?=some y/\Q y (upd H l (.lst (xs.eraseIdx k)))
theorem lX:MtM X "list.pop" v5:=by
 intro pins s U H x vs v us Q I rx rv h;obtain⟨l,xs,i,k,y,rfl,rfl,hH,h1,h2,hk,hy,q⟩:=h;cases rx;obtain⟨u,rfl,ru⟩:=rv.one;obtain⟨t,rfl⟩:=ru;obtain⟨z,its,n,r,hl,e⟩:=I.lstM hH;obtain⟨w,hw,rw'⟩:=r.get hy
 refine call_meets F.slot_list_pop ⟨_,e,rfl⟩ F.entry_list_pop (F.args_list_pop_2 _ _)
  (MeetsSeq.list_pop_at l its.toArray n i t k w (fitsIndex_both h1 h2) (by rw[Qg,<-hl];exact hk) (by rw[<-Qx];exact hw) (by rw[Qg];omega)) ⟨e,?_⟩
 refine⟨y,_,I.lset (its':=its.eraseIdx k) hH e ?_ (r.eraseIdx k) ?_,rw',q⟩
 ·show its.toArray.eraseIdxIfInBounds k=(its.eraseIdx k).toArray;rw[List.eraseIdxIfInBounds_toArray]
 have:=ju xs k;omega
def xw:R2:=λx y H Q=>∃l b xs zs,x=.ref l/\y=.ref b/\H l=some (.lst xs)/\H b=some (.lst zs)/\xs.length+zs.length<=sizeLine/\∀p,H p=none->Q (.ref p) (upd H p (.lst (xs++zs)))
theorem fW:OpR X (binaryOp .Add) xw:=by
 intro pins s U H x y v u Q I rx ry h;obtain⟨l,b,xs,zs,rfl,rfl,hH,hB,hz,q⟩:=h;cases rx;cases ry;obtain⟨z,its,n,r,hl,e⟩:=I.lstM hH;obtain⟨z2,its2,n2,r2,hl2,e2⟩:=I.lstM hB;refine PySem.P.add_list e e2 ?_ (by rw[Qg,Qg];omega);have ea:its.toArray++its2.toArray=(its++its2).toArray:=by simp
 rw[ea];exact⟨.ref _,_,I.lnew (t':=s.toks) (r.append r2) (by rw[Qd];omega),rfl,q _ I.fresh⟩
end
section
variable {prog:Program} {w:World} {A:Around} {E:B0} {s:Shared}
end
section
variable {X:Cx}
end
section
variable {κ:Type} [DecidableEq κ]
def aJ (kvs:List (κ × V)) (k:κ):Option V:=(kvs.find? λkv=>decide (kv.1=k)).map (·.2)
def be (kvs:List (κ × V)) (k:κ) (v:V):List (κ × V) :=
 if (kvs.any λkv=>decide (kv.1=k))=true then kvs.map (λkv=>if kv.1=k then (kv.1,v) else kv) else kvs++[(k,v)]
variable {r kvs:List (κ × V)}
theorem bo {p:κ × V} {k:κ} (e:p.1=k):aJ (p::r) k=some p.2:=by simp[aJ,List.find?_cons,e]
theorem bp {p:κ × V} {k:κ} (e:¬p.1=k):aJ (p::r) k=aJ r k:=by simp[aJ,List.find?_cons,e]
theorem cD (k:κ):∀kvs:List (κ × V),(kvs.any λkv=>decide (kv.1=k))=(aJ kvs k).isSome
 | []=>rfl
 | p::r=>by
  rw[List.any_cons];by_cases e:p.1=k
  ·simp only[bo e,QU e,Bool.true_or,Option.isSome_some]
  rw[bp e,QE e,Bool.false_or];exact cD k r
theorem lc (k j:κ) (y:V):∀kvs:List (κ × V),aJ (kvs.map λkv=>if kv.1=k then (kv.1,y) else kv) j=(aJ kvs j).map λx=>if j=k then y else x
 | []=>rfl
 | p::r=>by
  have ih:=lc k j y r;rw[QL];by_cases h:p.1=k
  ·rw[Qv h];by_cases e:p.1=j
   ·rw[bo (p:=(p.1,y)) e,bo e,Option.map_some,Qv (e.symm.trans h)]
   rw[bp (p:=(p.1,y)) e,bp e,ih]
  rw[Qz h];by_cases e:p.1=j
  ·rw[bo (p:=p) e,bo e,Option.map_some,Qz (λz=>h (e.trans z))]
  rw[bp (p:=p) e,bp e,ih]
theorem i8 (k j:κ) (y:V):∀kvs:List (κ × V),aJ kvs k=none->aJ (kvs++[(k,y)]) j=if j=k then some y else aJ kvs j
 | [],_=>by
  by_cases e:k=j
  ·rw[Qv e.symm];exact bo (p:=(k,y)) e
  rw[Qz (λz=>e z.symm)];exact bp (p:=(k,y)) e
 | p::r,hn=>by
  rw[List.cons_append];have hk:¬p.1=k:=λz=>by rw[bo z]at hn;cases hn
  rw[bp hk]at hn;have ih:=i8 k j y r hn;by_cases e:p.1=j
  ·rw[bo e,bo e,Qz (λz=>hk (e.trans z))]
  rw[bp e,bp e,ih]
theorem b9 (kvs:List (κ × V)) (k j:κ) (y:V):aJ (be kvs k y) j=if j=k then some y else aJ kvs j:=by
 unfold be;by_cases a:(kvs.any λkv=>decide (kv.1=k))=true
 ·rw[Qv a,lc];rw[cD]at a;by_cases e:j=k
  ·obtain⟨x,hx⟩:=Option.isSome_iff_exists.mp a;rw[Qv e,e,hx,Option.map_some,Qv rfl]
  rw[Qz e]
  cases aJ kvs j with
  | none=>rfl
  | some x=>rw[Option.map_some,Qz e]
 rw[Qz a];refine i8 k j y kvs ?_;rw[cD]at a
 cases q:aJ kvs k with
 | none=>rfl
 | some x=>rw[q]at a;exact(a rfl).elim
theorem bC (kvs:List (κ × V)) (k:κ) (v:V):(be kvs k v).length<=kvs.length+1:=by
 unfold be
 split
 ·rw[Qa];omega
 rw[Qd,Xh,List.length_nil];omega
theorem cY {k:κ} (v:V) (h:aJ kvs k=none):be kvs k v=kvs++[(k,v)]:=by
 unfold be;rw[cD,h];exact Qz (by decide)
theorem eU.isSome_eq {o:Option V} {u:Option Value} (r:eU o u):o.isSome=u.isSome:=by
 cases o with
 | none=>cases u with
  | none=>rfl
  | some _=>exact(show False from r).elim
 | some _=>cases u with
  | none=>exact(show False from r).elim
  | some _=>rfl
theorem eU.getD {o:Option V} {u:Option Value} {d:V} {d':Value} (r:eU o u) (rd:aF d d'):aF (o.getD d) (u.getD d'):=by
 cases o with
 | none=>cases u with
  | none=>exact rd
  | some _=>exact(show False from r).elim
 | some _=>cases u with
  | none=>exact(show False from r).elim
  | some _=>exact r
variable {vs:List (κ × Value)}
theorem KV.val (r:KV kvs vs) (k:κ):eU (aJ kvs k) (valueAt vs k):=by
 unfold KV at r
 induction r with
 | nil=>exact True.intro
 | @cons p q ps qs h t ih =>
 obtain⟨h1,h2⟩:=h;by_cases e:p.1=k
 ·have e':q.1=k:=h1.symm.trans e;have b:valueAt (q::qs) k=some q.2:=by simp[valueAt,List.find?_cons,e']
  rw[bo e,b];exact h2
 have e':¬q.1=k:=λz=>e (h1.trans z);have b:valueAt (q::qs) k=valueAt qs k:=by simp[valueAt,List.find?_cons,e']
 rw[bp e,b];exact ih
theorem KV.any (r:KV kvs vs) (k:κ):(kvs.any λkv=>decide (kv.1=k))=vs.any λkv=>decide (kv.1=k):=by
 unfold KV at r
 induction r with
 | nil=>rfl
 | cons h t ih=>rw[List.any_cons,List.any_cons,ih,h.1]
theorem KV.repl (r:KV kvs vs) (k:κ) {y:V} {u:Value} (ry:aF y u) :
  KV (kvs.map λkv=>if kv.1=k then (kv.1,y) else kv) (vs.map λkv=>if kv.1=k then (kv.1,u) else kv):=by
 unfold KV at r ⊢
 induction r with
 | nil=>exact .nil
 | @cons p q ps qs h t ih =>
 rw[QL,QL];refine .cons ?_ ih;obtain⟨h1,h2⟩:=h;by_cases e:p.1=k
 ·rw[Qv e,Qv (h1.symm.trans e)];exact⟨h1,ry⟩
 rw[Qz e,Qz (λz=>e (h1.trans z))];exact⟨h1,h2⟩
theorem KV.put (r:KV kvs vs) (k:κ) {y:V} {u:Value} (ry:aF y u):KV (be kvs k y) (stored vs k u):=by
 unfold be stored;rw[r.any k];by_cases e:(vs.any λkv=>decide (kv.1=k))=true
 ·rw[Qv e,Qv e];exact r.repl k ry
 rw[Qz e,Qz e];exact Paired.snoc r ⟨rfl,ry⟩
theorem KV.length (r:KV kvs vs):kvs.length=vs.length:=Paired.length r
end
variable {u:Value}
theorem gj {P:Program} {w:World} {k:Key} (r:aF (kV k) u):(aZ P w).is k u=true:=by
 cases k with
 | inl i=>obtain⟨t,e⟩:=(show ∃t,u=Value.int i t from r);subst e;exact lY P w i t
 | inr x=>obtain⟨t,e⟩:=(show ∃t,u=Value.str x t from r);subst e;exact gg P w x t
theorem jv {P:Program} {w:World}:∀{ks:List Key} {us:List Value},aG (ks.map kV) us->ItemsAre (aZ P w) ks us
 | [],_,r=>by rw[List.map_nil]at r;cases r;exact .nil
 | k::ks,_,r=>by
  rw[QL]at r
  cases r with
  | cons h t=>exact .cons (gj h) (jv t)
abbrev KT (H:Hp):List (List Key × V)->List (List Key × Addr × Value)->Prop:=Paired λp q=>p.1=q.1/\H q.2.1=some (.tup (p.1.map kV))/\aF p.2 q.2.2
variable {xs:List (List Key × Addr × Value)} {kvs:List (List Key × V)} {H H':Hp}
theorem KT.val (r:KT H kvs xs) (k:List Key):eU (aJ kvs k) ((atKey xs k).map (·.2)):=by
 induction r with
 | nil=>exact True.intro
 | @cons p q ps qs h t ih =>
 obtain⟨h1,_,h2⟩:=h;by_cases e:p.1=k
 ·have e':q.1=k:=h1.symm.trans e;have b:atKey (q::qs) k=some q.2:=by simp[atKey,List.find?_cons,e']
  rw[bo e,b];exact h2
 have e':¬q.1=k:=λz=>e (h1.trans z);have b:atKey (q::qs) k=atKey qs k:=by simp[atKey,List.find?_cons,e']
 rw[bp e,b];exact ih
theorem KT.repl (r:KT H kvs xs) (k:List Key) {y:V} (ry:aF y u) :
  KT H (kvs.map λkv=>if kv.1=k then (kv.1,y) else kv) (xs.map (putAt k u)):=by
 induction r with
 | nil=>exact .nil
 | @cons p q ps qs h t ih =>
 rw[QL,QL];refine .cons ?_ ih;obtain⟨h1,h2,h3⟩:=h;unfold putAt;by_cases e:p.1=k
 ·rw[Qv e,Qv (h1.symm.trans e)];exact⟨h1,h2,ry⟩
 rw[Qz e,Qz (λz=>e (h1.trans z))];exact⟨h1,h2,h3⟩
theorem KT.put (r:KT H kvs xs) (k:List Key) {b:Addr} {y:V} (hb:H b=some (.tup (k.map kV))) (ry:aF y u) :
  KT H (be kvs k y) (storedH xs k b u):=by
 have e:(kvs.any λkv=>decide (kv.1=k))=(atKey xs k).isSome:=by
  rw[cD,(r.val k).isSome_eq,Option.isSome_map]
 unfold be storedH;rw[e];by_cases q:(atKey xs k).isSome=true
 ·rw[Qv q,Qv q];exact r.repl k ry
 rw[Qz q,Qz q];exact Paired.snoc r ⟨rfl,hb,ry⟩
theorem KT.keeps (r:KT H kvs xs) (ht:∀b ys,H b=some (.tup ys)->H' b=some (.tup ys)):KT H' kvs xs :=
 Paired.mapP r λ_ _ z=>⟨z.1,ht _ _ z.2.1,z.2.2⟩
section
variable {P:Program} {w:World} {H:Hp} {h:Heap} {a:Addr}
theorem uX {u:HO} (ok:HOk P w H h) (e:Rd H a u):aX P w H h a u:=e.ok ok
theorem gm {kvs:List (Key × V)} (ok:HOk P w H h) (e:Rd H a (.dK kvs)):kvs.length<=sizeLine/\(a==sysModules)=false/\∃vs,KV kvs vs/\h.DictOf (aZ P w) a vs :=
 show aX P w H h a (.dK kvs) from uX ok e
theorem mB {kvs:List (Key × V)} (ok:HOk P w H h) (e:H a=some (.dK kvs)):kvs.length<=sizeLine/\(a==sysModules)=false/\∃vs,KV kvs vs/\h.DictOf (aZ P w) a vs:=gm ok (.inl e)
theorem fY {ks:List Key} (ok:HOk P w H h) (e:H a=some (.tup (ks.map kV))):(tupleKind (aZ P w)).is h ks a:=by
 obtain⟨_,its,r,o,h1,h2,n,h3⟩:=(show aX P w H h a (.tup (ks.map kV)) from ok a _ e);exact⟨o,its.toArray,n,h1,h2,h3,by simpa using jv r⟩
variable {kvs:List (List Key × V)}
theorem iF (ok:HOk P w H h) (e:Rd H a (.dT kvs)):kvs.length<=sizeLine/\(a==sysModules)=false /\
  ∃xs,KT H kvs xs/\h.DictOfH (tupleKind (aZ P w)) a xs:=by
 obtain⟨z,y,xs,r,o,es,ep,h1,h2,h3,h4,h5⟩:=(show aX P w H h a (.dT kvs) from uX ok e);refine⟨z,y,xs,r,o,es,ep,h1,h2,h3,h4,λx hx=>?_,h5⟩
 have all:∀{l:List (List Key × V)} {m:List (List Key × Addr × Value)},KT H l m->∀x∈m,(tupleKind (aZ P w)).is h x.1 x.2.1:=by
  intro l m q
  induction q with
  | nil=>intro x hx;exact nomatch hx
  | @cons p q ps qs hq t ih =>
  intro x hx;rcases Qu.mp hx with e|hx
  ·subst e;exact fY ok (by rw[<-hq.1];exact hq.2.1)
  exact ih x hx
 exact all r x hx
theorem AB (ok:HOk P w H h) (e:H a=some (.dT kvs)):kvs.length<=sizeLine/\(a==sysModules)=false /\
  ∃xs,KT H kvs xs/\h.DictOfH (tupleKind (aZ P w)) a xs:=iF ok (.inl e)
end
def cq (H:Hp) (a:Addr) (y:V) (r:Option V):Prop :=
 (∃kvs k,Rd H a (.dK kvs)/\y=kV k/\r=aJ kvs k)\/∃kvs k b,Rd H a (.dT kvs)/\y=.ref b/\H b=some (.tup (k.map kV))/\r=aJ kvs k
def eX (H:Hp) (a:Addr) (y v:V) (H':Hp):Prop :=
 (∃kvs k,H a=some (.dK kvs)/\y=kV k/\kvs.length<sizeLine/\H'=upd H a (.dK (be kvs k v))) \/
 ∃kvs k b,H a=some (.dT kvs)/\y=.ref b/\H b=some (.tup (k.map kV))/\kvs.length<sizeLine/\H'=upd H a (.dT (be kvs k v))
theorem cq.k {H:Hp} {a:Addr} {kvs:List (Key × V)} {k:Key} (e:H a=some (.dK kvs)):cq H a (kV k) (aJ kvs k):=.inl ⟨kvs,k,.inl e,rfl,rfl⟩
theorem eX.k {H:Hp} {a:Addr} {kvs:List (Key × V)} {k:Key} {v:V} (e:H a=some (.dK kvs)) (hl:kvs.length<sizeLine):eX H a (kV k) v (upd H a (.dK (be kvs k v))):=.inl ⟨kvs,k,e,rfl,hl,rfl⟩
section
variable {X:Cx} {pins:B1} {U:St} {H:Hp} {s:Shared} {a:Addr} {y v:V} {u r:Value} {o:Option V} {A:Around} {E:B0}
theorem Inv.big (I:Inv X pins U H s):sysModules<s.heap.objs.size:=by
 have h:mainGlobals<s.heap.objs.size:=(I.mod.glob.keeps I.bk).lt;exact Nat.lt_trans (by decide) h
variable {Q:B0}
theorem qp (hu:A.units+1<cLine) (I:Inv X pins U H s) (g:cq H a y (some v)) (ry:aF y u) (h:∀w' s',Inv X pins U H s'->aF v w'->Q w' s') :
  wpAny (model X.prog X.w) A (getItem (.ref a) u) Q E s:=by
 rcases g with⟨kvs,k,e,ey,l⟩|⟨kvs,k,b,e,ey,eb,l⟩
 ·subst ey;obtain⟨z,hd,vs,rel,dd⟩:=gm I.hok e;obtain⟨w',hw,rw'⟩:=eU.some_of (v:=v) (o:=valueAt vs k) (by rw[l];exact rel.val k);exact wpAny_getItem_of (gj ry) dd.mapOf hw (h w' _ (I.tok _) rw')
 subst ey;cases (show u=Value.ref b from ry);obtain⟨z,hd,xs,rel,dd⟩:=iF I.hok e;obtain⟨w',hw,rw'⟩:=eU.some_of (v:=v) (o:=(atKey xs k).map (·.2)) (by rw[l];exact rel.val k);obtain⟨p,hp,hp2⟩:=QX.mp hw;refine wpAny_getItem_heap (tupleKind_room_in1 hu) (fY I.hok eb) dd hp ?_;rw[hp2];exact h w' _ (I.tok _) rw'
theorem BC (hu:A.units+1<cLine) (I:Inv X pins U H s) (g:cq H a y o) (ry:aF y u) (h:∀s',Inv X pins U H s'->Q (.bool o.isSome) s') :
  wpAny (model X.prog X.w) A (compareOp .In u (.ref a)) Q E s:=by
 rcases g with⟨kvs,k,e,ey,l⟩|⟨kvs,k,b,e,ey,eb,l⟩
 ·subst ey;obtain⟨z,hd,vs,rel,dd⟩:=gm I.hok e;refine wpAny_in_of (gj ry) hd dd.mapOf ?_;rw[<-(rel.val k).isSome_eq,<-l];exact h _ (I.tok _)
 subst ey;cases (show u=Value.ref b from ry);obtain⟨z,hd,xs,rel,dd⟩:=iF I.hok e;refine wpAny_in_heap (tupleKind_room_in1 hu) (fY I.hok eb) hd dd ?_;have q:=(rel.val k).isSome_eq;rw[Option.isSome_map]at q;rw[<-q,<-l];exact h _ (I.tok _)
theorem uC (hu:A.units+1<cLine) (I:Inv X pins U H s) (g:cq H a y o) (ry:aF y u) (h:∀s',Inv X pins U H s'->Q (.bool (!o.isSome)) s') :
  wpAny (model X.prog X.w) A (compareOp .NotIn u (.ref a)) Q E s:=by
 rcases g with⟨kvs,k,e,ey,l⟩|⟨kvs,k,b,e,ey,eb,l⟩
 ·subst ey;obtain⟨z,hd,vs,rel,dd⟩:=gm I.hok e;refine wpAny_notIn_of (gj ry) hd dd.mapOf ?_;rw[<-(rel.val k).isSome_eq,<-l];exact h _ (I.tok _)
 subst ey;cases (show u=Value.ref b from ry);obtain⟨z,hd,xs,rel,dd⟩:=iF I.hok e;refine wpAny_notIn_heap (tupleKind_room_in1 hu) (fY I.hok eb) hd dd ?_;have q:=(rel.val k).isSome_eq;rw[Option.isSome_map]at q;rw[<-q,<-l];exact h _ (I.tok _)
theorem gM {h':Heap} {t':Nat} {ob:HO} (I:Inv X pins U H s) (mu:Mut (H a)) (hs:Heap.SameBut a s.heap h') (he:∃q,h'.get? a=some q) (new:aX X.prog X.w (upd H a ob) h' a ob) :
  Inv X pins U (upd H a ob) { s with heap:=h',toks:=t' } :=
 I.write (x:=a) (e:=a) mu (.inl rfl) (λb q hb z=>(hs.2 b hb).trans z) he new
theorem nR {P:Program} {w:World} {H':Hp} {h':Heap} {kvs:List (Key × V)} {vs:List (Key × Value)} (z:kvs.length<=sizeLine) (hd:(a==sysModules)=false) (rel:KV kvs vs) (dd:h'.DictOf (aZ P w) a vs) :
  aX P w H' h' a (.dK kvs):=⟨z,hd,vs,rel,dd⟩
theorem qo {H':Hp} {Q:Unit->Shared->Prop} (hu:A.units+1<cLine) (I:Inv X pins U H s) (g:eX H a y v H') (ry:aF y u) (rv:aF v r) (h:∀s',Inv X pins U H' s'->Q () s') :
  wpAny (model X.prog X.w) A (setItem (.ref a) u r) Q E s:=by
 rcases g with⟨kvs,k,e,ey,l,eH⟩|⟨kvs,k,b,e,ey,eb,l,eH⟩
 ·subst ey eH;obtain⟨z,hd,vs,rel,dd⟩:=mB I.hok e;have hz:vs.length<=sizeLine:=by rw[<-rel.length];exact z
  have hl:(be kvs k v).length<=sizeLine:=by have:=bC kvs k v;omega
  refine wpAny_setItem_pairs (hsz:=hz) (gj ry) dd λh' dd' hs=>h _ ?_;have he:∃q,h'.get? a=some q:=let ⟨q,_,_,hq,_⟩:=dd';⟨q,hq⟩;exact gM I (by rw[e];exact True.intro) hs he (nR hl hd (rel.put k rv) dd')
 subst ey eH;cases (show u=Value.ref b from ry);obtain⟨z,hd,xs,rel,dd⟩:=AB I.hok e;have hz:xs.length<=sizeLine:=by rw[<-Paired.length rel];exact z
 have hl:(be kvs k v).length<=sizeLine:=by have:=bC kvs k v;omega
 refine wpAny_setItem_heap (hsz:=hz) (tupleKind_room_in1 hu) (fY I.hok eb) dd λh' dd' hs=>h _ ?_;obtain⟨q,es,ep,hq,h2,h3,h4,_,h5⟩:=dd';refine gM I (by rw[e];exact True.intro) hs ⟨q,hq⟩ ⟨hl,hd,_,(rel.put k eb rv).keeps λc ys ec=>?_,q,es,ep,hq,h2,h3,h4,h5⟩;rw[af (ie ec e (λz=>nomatch z))];exact ec
end
section
variable {X:Cx} {pins:B1} {U:St} {H:Hp} {s:Shared} {a:Addr} {kvs:List (Key × V)} {k:Key} {u:Value} {A:Around} {E:B0}
end
def AH (i:Expr):Prop:=∀ov iv,subscripted i false ov iv=operate [ov,iv] (getItem ov iv)
variable {Q E:B0} {pos:Pos} {s:Shared}
theorem tK {prog:Program} {w:World} {A:Around} {env:Env} {value slice:Expr} {T id:String}
  (hl:typeLookup (.type T) "__getitem__" = pure (some (.builtin id))) (hs:AH slice)
  (h:wpAny (model prog w) A (eval value env) (λo s₁=>wpAny (model prog w) A (eval slice env) (λi s₂=>s₂.TypeIs o T/\wpAny (model prog w) A (getItem o i) Q E s₂) E s₁) E s) :
  wpAny (model prog w) A (eval (.Subscript value slice pos) env) Q E s:=by
 refine Subscript_ (Xg h (λo s₁ h₁=>Xg h₁ (λi s₂ h₂=>?_) λ_ _ x=>x) λ_ _ x=>x);obtain⟨hT,h₂⟩:=h₂;unfold subscriptTail;refine Qi ?_;rw[getitemInPython_of_ne hT.not_modules];refine Qi (wpAny_specialOf hT hl ?_)
 have fin:wpAny (model prog w) A (subscripted slice false o i) (λr s₃=>wpAny (model prog w) A (letTemporaryGo value o r >>= λ_=>pure r) Q E s₃) E s₂:=by
  rw[hs o i];exact wpAny_operating (Xg h₂ (λr s₃ h₃=>Qi (wpAny_letTemporaryGo (QJ h₃))) λ_ _ x=>x)
 first
  | exact QJ (Qi fin)
  | exact Qi (QJ (Qi fin))
  | exact Qi fin
variable {pins:B1} {X:Cx}
theorem mD {U:St} {a:Addr} {y:V} {o:Option V} (I:Inv X pins U H s) (g:cq H a y o):s.TypeIs (.ref a) "dict" := by
 rcases g with⟨kvs,k,e,_,_⟩|⟨kvs,k,b,e,_,_,_⟩
 ·obtain⟨_,_,vs,_,dd⟩:=gm I.hok e;exact dd.typeIs
 obtain⟨_,_,xs,_,dd⟩:=iF I.hok e;exact dd.typeIs
def uR (td ty:TE):TE:=λU H Q=>td U H λx H1=>ty U H1 λy H2=>∃a v,x=.ref a/\cq H2 a y (some v)/\Q v H2
def xj (ty td:TE):TE:=λU H Q=>ty U H λy H1=>td U H1 λx H2=>∃a o,x=.ref a/\cq H2 a y o/\Q (.bl o.isSome) H2
def oh (ty td:TE):TE:=λU H Q=>ty U H λy H1=>td U H1 λx H2=>∃a o,x=.ref a/\cq H2 a y o/\Q (.bl (!o.isSome)) H2
def uW (td ty tv:TE):TS:=λD U H=>tv U H λv H1=>td U H1 λx H2=>ty U H2 λy H3=>∃a H4,x=.ref a/\eX H3 a y v H4/\D.nx U H4
section
variable {X:Cx} {o i e value:Expr} {pos pos' tpos:Pos} {td ty tv:TE}
theorem cC (hu:X.A.units+1<cLine) (ho:PE X o td) (hi:PE X i ty) (hs:AH i:=by exact λ_ _=>rfl):PE X (.Subscript o i pos) (uR td ty):=by
 intro pins s U H Q I h;refine tK PySem.F.slot_dict_getitem.lookup hs (thn (ho pins s U H _ I h) λu s1 ⟨x,H1,I1,rx,q1⟩=>thn (hi pins s1 U H1 _ I1 q1) λiv s2 ⟨y,H2,I2,ry,a,v,ex,g,q2⟩=>?_);subst ex;obtain rfl:u=Value.ref a:=rx;exact⟨mD I2 g,qp hu I2 g ry λw' s3 I3 rw'=>⟨v,H2,I3,rw',q2⟩⟩
theorem rL (hu:X.A.units+1<cLine) (hi:PE X i ty) (ho:PE X o td):PC X .In i o (xj ty td):=by
 intro pins s U H Q I h;refine thn (hi pins s U H _ I h) λiv s1 ⟨y,H1,I1,ry,q1⟩=>thn (ho pins s1 U H1 _ I1 q1) λu s2 ⟨x,H2,I2,rx,a,ov,ex,g,q2⟩=>?_;subst ex;obtain rfl:u=Value.ref a:=rx;exact BC hu I2 g ry λs3 I3=>⟨.bl ov.isSome,H2,I3,rfl,q2⟩
theorem jk (hu:X.A.units+1<cLine) (hi:PE X i ty) (ho:PE X o td):PC X .NotIn i o (oh ty td):=by
 intro pins s U H Q I h;refine thn (hi pins s U H _ I h) λiv s1 ⟨y,H1,I1,ry,q1⟩=>thn (ho pins s1 U H1 _ I1 q1) λu s2 ⟨x,H2,I2,rx,a,ov,ex,g,q2⟩=>?_;subst ex;obtain rfl:u=Value.ref a:=rx;exact uC hu I2 g ry λs3 I3=>⟨.bl (!ov.isSome),H2,I3,rfl,q2⟩
theorem cR (hu:X.A.units+1<cLine) (ho:PE X o td) (hi:PE X i ty) (hv:PE X value tv) (hs:swapsWith value (some (.Subscript o i pos')) pos.line X.env=pure false) :
  PS X (.Assign [.Subscript o i pos'] value pos) (uW td ty tv):=by
 intro pins s U H D I h;refine wpAny_Assign_Subscript (thn (hv pins s U H _ I h) λr s1 ⟨v,H1,I1,rv,q1⟩=>thn (ho pins s1 U H1 _ I1 q1) λu s2 ⟨x,H2,I2,rx,q2⟩=>thn (hi pins s2 U H2 _ I2 q2) λiv s3 ⟨y,H3,I3,ry,a,H4,ex,g,q3⟩=>?_) hs;subst ex;obtain rfl:u=Value.ref a:=rx;exact qo hu I3 g ry rv λs4 I4=>⟨U,H4,I4,q3⟩
end
theorem mC {P:Program} {w:World} (h:Heap) (hb:sysModules<h.objs.size):aX P w H (h.push { cls:=.type "dict", data:=.dict #[] }) h.objs.size (.dK []) :=
 ⟨Q5 _,beq_eq_false_iff_ne.mpr (Xz (QI hb)),[],.nil,Heap.DictOf.new h⟩
def vU:TE:=λ_ H Q=>∀p,H p=none->Q (.ref p) (upd H p (.dK []))
section
variable {X:Cx} {pos:Pos}
theorem fi:PE X (.Dict [] [] pos) vU:=λpins s U H Q I h =>
 wpAny_Dict_empty ⟨.ref s.heap.objs.size,_,I.laid (a:=s.heap.objs.size) (o:=.dK []) (t':=s.toks) (λ_ _ q=>Qf _ q) (Qh _) (mC s.heap I.big),rfl,h _ (I.hok.fresh (Qh _))⟩
end
def m8:List (TE × TE)->St->Hp->(List (V × V)->Hp->Prop)->Prop
 | [],_,H,Q=>Q [] H
 | (tk,tv)::r,U,H,Q=>tk U H λx H1=>tv U H1 λy H2=>m8 r U H2 λps H3=>Q ((x,y)::ps) H3
abbrev VV:List (V × V)->List (Value × Value)->Prop:=Paired λp q=>aF p.1 q.1/\aF p.2 q.2
def PPs (X:Cx) (pos:Pos) (keys:List (Option Expr)) (values:List Expr) (trs:List (TE × TE)):Prop :=
 ∀(pins:B1) (s:Shared) (U:St) (H:Hp) (Q:List (V × V)->Hp->Prop),Inv X pins U H s->m8 trs U H Q ->
  wpAny (model X.prog X.w) X.A (evalPairs (pairTrees keys values X.env pos)) (λvs s'=>∃ps H',Inv X pins U H' s'/\VV ps vs/\Q ps H') X.xe s
theorem gH:PPs X pos [] [] []:=λpins s U H Q I h=>pairTrees_nil_walk ⟨[],H,I,.nil,h⟩
variable {trs:List (TE × TE)}
theorem fg {k v:Expr} {ks:List (Option Expr)} {vs:List Expr} {tk tv:TE} (hk:PE X k tk) (hv:PE X v tv) (hr:PPs X pos ks vs trs) :
  PPs X pos (some k::ks) (v::vs) ((tk,tv)::trs):=λpins s U H Q I h =>
 pairTrees_cons_walk (thn (hk pins s U H _ I h) λu s1 ⟨x,H1,I1,rx,q1⟩=>thn (hv pins s1 U H1 _ I1 q1) λw2 s2 ⟨y,H2,I2,ry,q2⟩ =>
  thn (hr pins s2 U H2 _ I2 q2) λws s3 ⟨ps,H3,I3,rel,q3⟩=>⟨(x,y)::ps,H3,I3,.cons ⟨rx,ry⟩ rel,q3⟩)
def ii (kvs more:List (Key × V)):List (Key × V):=more.foldl (λacc kv=>be acc kv.1 kv.2) kvs
theorem KV.merge:∀{more:List (Key × V)} {rs:List (Key × Value)} {kvs:List (Key × V)} {vs:List (Key × Value)},KV more rs->KV kvs vs->KV (ii kvs more) (merged vs rs):=by
 intro more rs kvs vs r;unfold KV at r
 induction r generalizing kvs vs with
 | nil=>intro q;exact q
 | @cons p q ps qs h t ih =>
 intro r0
 have e:KV (be kvs p.1 p.2) (stored vs q.1 q.2):=by
  have:=r0.put p.1 h.2;rw[<-h.1];exact this
 exact ih e
theorem eE:∀(more kvs:List (Key × V)),(ii kvs more).length<=kvs.length+more.length
 | [],kvs=>by show kvs.length<=kvs.length+0;omega
 | p::r,kvs=>by
  have h1:=eE r (be kvs p.1 p.2);have h2:=bC kvs p.1 p.2;show (ii (be kvs p.1 p.2) r).length<=_;rw[Xh];omega
theorem iK {P:Program} {w:World}:∀{kvs:List (Key × V)} {ws:List (Value × Value)},VV (kvs.map λkv=>(kV kv.1,kv.2)) ws->∃rs,Carries (aZ P w) ws rs/\KV kvs rs
 | [],_,r=>by rw[List.map_nil]at r;cases r;exact⟨[],True.intro,.nil⟩
 | p::kvs,_,r=>by
  rw[QL]at r
  cases r with
  | @cons a b as bs h t =>
  obtain⟨rs,c,q⟩:=iK (P:=P) (w:=w) t;obtain⟨b1,b2⟩:=b;exact⟨(p.1,b2)::rs,⟨gj h.1,rfl,c⟩,.cons ⟨rfl,h.2⟩ q⟩
def xi (trs:List (TE × TE)):TE:=λU H Q=>∀p,H p=none->m8 trs U (upd H p (.dK [])) λps H2=>H2 p=some (.dK [])/\∃kvs:List (Key × V),ps=kvs.map (λkv=>(kV kv.1,kv.2))/\kvs.length<=15/\Q (.ref p) (upd H2 p (.dK (ii [] kvs)))
theorem gI {keys:List (Option Expr)} {values:List Expr} (h:PPs X pos keys values trs) (hall:keys.all (·.isSome)=true) (hl:keys.length=values.length) (h0:keys≠[])
  (h15:keys.length<=15):PE X (.Dict keys values pos) (xi trs):=by
 intro pins s U H Q I q;have hn:=I.hok.fresh (Qh s.heap.objs.size);have I1:=I.laid (a:=s.heap.objs.size) (o:=.dK []) (h':=s.heap.push { cls:=.type "dict", data:=.dict #[] }) (t':=s.toks) (λ_ _ q=>Qf _ q) (Qh _) (mC s.heap I.big);refine wpAny_Dict_walk (knd:=aZ X.prog X.w) hall hl h0 h15 (thn (h pins _ U _ _ I1 (q _ hn)) λws s2 ⟨ps,H2,I2,rel,e,kvs,ep,lk,q2⟩=>?_);subst ep;obtain⟨rs,c,rk⟩:=iK (P:=X.prog) (w:=X.w) rel;obtain⟨z,hd,vs0,r0,dd⟩:=mB I2.hok e;cases r0;refine⟨rs,c,dd,λh' dd' hs=>⟨.ref s.heap.objs.size,_,?_,rfl,q2⟩⟩
 have hz:(ii [] kvs).length<=sizeLine:=by
  have h1:=eE kvs [];rw[List.length_nil]at h1;rw[sizeLine_eq];omega
 have he:∃q,h'.get? s.heap.objs.size=some q:=let ⟨q,_,_,hq,_⟩:=dd';⟨q,hq⟩;exact gM I2 (by rw[e];exact True.intro) hs he (nR hz hd (rk.merge .nil) dd')
structure M1 (X:Cx) (o:Expr) (m:Str) (apos:Pos) (e:Expr) (cpos:Pos):Prop where
 base:attributeBase o m X.env (eval o X.env)=eval o X.env
 few:((backTo cpos (starEach [e] X.env)).all (λx=>!x.1)&&(backToKw cpos (keywordEach [] X.env)).all (λx=>x.1.isSome)
  && decide (([e]:List Expr).length+([]:List Keyword).length+(if ([]:List Keyword).isEmpty then 0 else 1)<30))=true
 line:(apos.endLine==cpos.line)=true
 trees:backTo cpos (starEach [e] X.env)=[(false,eval e X.env)]
structure M2 (X:Cx) (o:Expr) (m:Str) (apos:Pos) (e f:Expr) (cpos:Pos):Prop where
 base:attributeBase o m X.env (eval o X.env)=eval o X.env
 few:((backTo cpos (starEach [e,f] X.env)).all (λx=>!x.1)&&(backToKw cpos (keywordEach [] X.env)).all (λx=>x.1.isSome)
  && decide (([e,f]:List Expr).length+([]:List Keyword).length+(if ([]:List Keyword).isEmpty then 0 else 1)<30))=true
 line:(apos.endLine==cpos.line)=true
 trees:backTo cpos (starEach [e,f] X.env)=[(false,eval e X.env),(false,eval f X.env)]
def IsD (H:Hp) (a:Addr):Prop:=(∃kvs,Rd H a (.dK kvs))\/∃kvs,Rd H a (.dT kvs)
theorem sD {U:St} {a:Addr} (I:Inv X pins U H s) (d:IsD H a) :
  s.TypeIs (.ref a) "dict" /\ (∀b,Value.ref a=.ref b->∃ob,s.heap.get? b=some ob/\ob.dict=none)/\(a==sysModules)=false:=by
 rcases d with⟨kvs,e⟩|⟨kvs,e⟩
 ·obtain⟨_,hd,vs,_,dd⟩:=gm I.hok e;refine⟨dd.typeIs,λb q=>?_,hd⟩;cases q;obtain⟨ob,_,_,h1,h2,_⟩:=dd;exact⟨ob,h1,h2.2.1⟩
 obtain⟨_,hd,xs,_,dd⟩:=iF I.hok e;refine⟨dd.typeIs,λb q=>?_,hd⟩;cases q;obtain⟨ob,_,_,h1,h2,_⟩:=dd;exact⟨ob,h1,h2.2.1⟩
section
variable {X:Cx} {pins:B1} {U:St} {H:Hp} {s:Shared} {a:Addr} {y d:V} {u r:Value} {o:Option V} {A:Around} {E:B0}
theorem wR {Q:B0} (hu:A.units+1<cLine) (I:Inv X pins U H s) (g:cq H a y o) (ry:aF y u) (h:∀w' s',Inv X pins U H s'->aF (o.getD .non) w'->Q w' s') :
  wpAny (model X.prog X.w) A (call (.builtin "dict.get") [.ref a,u]) Q E s:=by
 rcases g with⟨kvs,k,e,ey,l⟩|⟨kvs,k,b,e,ey,eb,l⟩
 ·subst ey;obtain⟨z,hd,vs,rel,dd⟩:=gm I.hok e;refine call_meetsIn PySem.F.slot_dict_get dd.typeIs PySem.F.entry_dict_get (PySem.F.args_dict_get_2 _ _) (meets_dict_get (aZ X.prog X.w) a (gj ry) hd) ⟨_,dd.mapOf,h _ _ (I.tok _) ?_⟩;rw[l];exact(rel.val k).getD rfl
 subst ey;cases (show u=Value.ref b from ry);obtain⟨z,hd,xs,rel,dd⟩:=iF I.hok e;refine call_meetsIn PySem.F.slot_dict_get dd.typeIs PySem.F.entry_dict_get (PySem.F.args_dict_get_2 _ _) (meetsH_dict_get (tupleKind (aZ X.prog X.w)) a b hd) ⟨tupleKind_room_in1 hu,k,xs,fY I.hok eb,dd,h _ _ (I.tok _) ?_⟩;rw[l];exact(rel.val k).getD rfl
end
def qK (td ty:TE):TE:=λU H Q=>td U H λx H1=>∃a,x=.ref a/\IsD H1 a/\ty U H1 λy H2=>∃o,cq H2 a y o/\Q (o.getD .non) H2
section
variable {X:Cx} {o e f:Expr} {apos cpos:Pos} {td ty tx:TE}
theorem rG (hu:X.A.units+1<cLine) (ho:PE X o td) (he:PE X e ty) (m:M1 X o "get" apos e cpos):PE X (.Call (.Attribute o "get" apos) [e] [] cpos) (qK td ty):=by
 intro pins s U H Q I h;refine wpAny_Call_method m.base m.few m.line PySem.F.plainAttrs_dict PySem.F.slot_dict_get PySem.F.type_dict_get (thn (ho pins s U H _ I h) λu s1 ⟨x,H1,I1,rx,a,ex,d,q1⟩=>?_);subst ex;obtain rfl:u=Value.ref a:=rx;obtain⟨t1,t2,_⟩:=sD I1 d;refine⟨t1,t2,?_⟩;rw[m.trees];refine Calls.callWith_builtin rfl (Calls.evalArgs_plain (Calls.spliced_cons (thn (he pins s1 U H1 _ I1 q1) λiv s2 ⟨y,H2,I2,ry,ov,g,q2⟩=>Calls.spliced_nil ?_)));exact wR hu I2 g ry λw' s3 I3 rw'=>⟨_,H2,I3,rw',q2⟩
end
section
variable {X:Cx} {pins:B1} {U:St} {H:Hp} {s:Shared} {a:Addr} {kvs:List (Key × V)} {A:Around} {E:B0}
end
section
variable {X:Cx} {pins:B1} {U:St} {H:Hp} {s:Shared} {a:Addr} {y:V} {u:Value} {A:Around} {E:B0}
end
end L2
namespace Att
open PySem PySem.W PySem.Calls PyProof.Rows
theorem gy {P:Params} {h:Heap}:∀(ns:List Int) (vs:List Value),WellAll P h vs (ns.map WData.int)->IntsAre vs ns:=by
 intro ns
 induction ns with
 | nil =>
  intro vs w;rw[List.map_nil]at w;cases w;exact .nil
 | cons n ns ih =>
 intro vs w;rw[QL]at w
 cases w with
 | cons a b =>
 cases a;exact .cons _ _ (ih _ b)
theorem pF {l:OpenLaw} {n:Nat} (hn:l.most=some n) {P:Params} {h:Heap} {args:List WData} {vals:List Value}
  (hpre:l.row.toRowW.claim.pre args=true) (hwl:WellAll P h vals args) :
  ∃a vs ns,vals=[Value.ref a]/\args=[WData.list (ns.map WData.int)]/\h.get? a=some { cls:=.type "list", data:=.seq vs.toArray }/\IntsAre vs ns/\ns.length<=n:=by
 have hsh:WShape.hasAll [] args [.list .int]=true:=(pre_splitW hpre).1;have hc:l.pre.holds [] { args:=args }=true:=(pre_splitW hpre).2;obtain⟨d,r,rfl,h1,h2⟩:=hasAllW_cons hsh;obtain rfl:=hasAllW_nil h2;obtain⟨xs,rfl,h3⟩:=hasW_list h1;obtain⟨ns,rfl⟩:=items_int h3
 have hlen:ns.length<=n:=by
  unfold OpenLaw.pre at hc
  have h4:(WTm.not (.lt (.lit (.int (n:Int))) (.len (.arg 0)))).holds [] { args:=[.list (ns.map .int)] }=true:=by
   have h4:=(holds_andW hc).1;rw[hn]at h4;exact h4
  have h5:=condW_of h4 (w_not (w_lt w_lit (w_len_list (w_arg rfl))));rw[Qa]at h5;refine Nat.le_of_not_lt λq=>?_;have q':(n:Int)<((ns.length:Nat):Int):=by omega
  first
   | (rw[QU q']at h5;exact absurd h5 (by decide))
   | (simp at h5;omega)
 cases hwl with
 | cons w1 w2 =>
 cases w2
 cases w1 with
 | list ho hall=>exact⟨_,_,ns,rfl,rfl,ho,gy ns _ hall,hlen⟩
theorem pH (l:OpenLaw) (args:List WData):l.row.toRowW.claim.post args (.bool true) args=true :=
 postW_of (r:=l.row.toRowW) (X:=(true==true))
  (show WShape.has [] (.bool true) .bool=true by first|rfl|decide|simp[WShape.has,WShape.arms,WShape.armsAll])
  (show (WTm.eq .res (.lit (.bool true))).value [] { args:=args,res:=some (.bool true),after:=args }=some (.bool (true==true)) from w_eq_bool (w_res rfl) w_lit) rfl
theorem mR {l:OpenLaw} {n:Nat} {q:Program} {loose:List Str} {XP:B2->Heap->Prop} {YP:World->Heap->Prop} {d:DefRec}
  (hn:l.most=some n) (hdf:d.params.defaults=[])
  (call:∀(w:World) (s₀ s₁:Shared) (mg mb:B2) (fa:Addr) (o:Obj) (pm cd doc:Value) (a:Addr) (vs:List Value) (ns:List Int),
   Ground q loose [] XP w s₀ mg mb s₁.heap->YP w s₁.heap ->
   s₁.heap.get? fa=some o->o.data=.func (docDef d.name d.params d.body d.scope pm cd doc)->s₁.heap.CodeRec cd d.name->mg d.name=some (.ref fa) ->
   s₁.heap.get? a=some { cls:=.type "list", data:=.seq vs.toArray }->IntsAre vs ns->ns.length<=n->s₁.gens=#[] ->
   codeAny (model l.prog w) callerA (.call (.ref fa) ⟨[.ref a],[]⟩) (λr s'=>r=.ok (.ret (.bool true))/\OldK s₁.heap s'.heap/\s'.os=s₁.os/\AllBare s'.gens) s₁) :
  WalkO q loose XP YP l.row.toRowW d [] (λf vs=>PySem.call f vs):=by
 intro w s₀ s₁ mg mb G Y fa o pm cd doc dV kV ho hd hcd hD hmg hg args vals as hpre hlay hrd hwl hlo;obtain rfl:dV=.none:=Dflts.none hD hdf;obtain rfl:kV=.none:=Dflts.noKw hD;obtain⟨a,vs,ns,rfl,rfl,hobj,hints,hlen⟩:=pF hn hpre hwl;refine enter_call (codeAny_mono (call w s₀ s₁ mg mb fa o pm cd doc a vs ns G Y ho (fd_plain hd) hcd hmg hobj hints hlen hg) λr s' hq=>?_);obtain⟨rfl,h2,h3,h4⟩:=hq;exact⟨.inl ⟨.bool true,.bool true,[],rfl,λ_=>rfl,.bool true,pH l _,λ_=>⟨List.Pairwise.nil,λ_ hm=>(nomatch hm)⟩⟩,h2,h3,h4⟩
section
variable {prog:Program} {w:World} {A:Around} {E:B0} {s:Shared} {K:Frag}
end
end Att
namespace L2
open PySem PySem.Spec PyProof.Rows
theorem i6:∀{vs:List Value} {ns:List Int},IntsAre vs ns->aG (ns.map V.int) vs
 | _,_,.nil=>.nil
 | _,_,.cons n t h=>.cons ⟨t,rfl⟩ (i6 h)
end L2
/- THE LAST THEOREM (shape;LID,My.* are yours):
  My.Adr: a structure of the addresses that your layer names (classes,functions);My.Txt K t: a structure (Prop) of the equations over K;
  My.txt_mk:{K} {implicit addresses ..} (e1:nsIn K mainGlobals "law" = some (some (.ref f))) (e2:K.lookup f=some ⟨oc,od,.func (fnOf "law" "law" params body scope dV kV doc pm an cdv ct),sl⟩) (e3:codeIn K cdv "law" = true) ..:∃t,My.Txt K t
(the tactic k_is has no namespace: write k_is) -/
namespace L2
open PySem PySem.Spec PyProof.Rows
abbrev CX0:CXT:=λ_ _ _ _ _ _=>False
abbrev E0:XK:=λ_ _ _=>False
theorem u8 {X:Cx}:eV CX0 X E0:=λ_ _ _ _ _ _ _ h=>h.elim
structure Fun (K:PySem.W.Frag) (x qual:Str) (st:Stmt) (f:Addr) (fd:FuncData):Prop where
 ex:∃(oc:Value) (od:Option Addr) (kV doc pm:Value) (an:Option Addr) (cdv ct:Value) (osl:Array (Option Value)),
  fd=PySem.W.fnOf x qual (ck st) (bM st) (ak st) .none kV doc pm an cdv ct/\K.lookup f=some ⟨oc,od,.func fd,osl⟩/\PySem.W.codeIn K cdv qual=true
 kp:PySem.W.keepIn K (.ref f)=true
section
variable {P:Program} {w:World} {K:PySem.W.Frag} {mg:B2} {base:Heap}
variable {x qual:Str}
theorem Fun.ok {st:Stmt} {f:Addr} {fd:FuncData} {N ps:List Str} {k:Nat} {sp:Sp} (F:Fun K x qual st f fd) (S:FnScope N ps (ak st)) (len:∀vs H Q E,sp vs H Q E->vs.length=ps.length)
  (hbody:∀(cdv:Value) (A:Around) (outer:List Env) (s:Shared) (H:Hp) (vs:List V) (Q:VK) (E:XK),Room k (A.deeper (envOfC qual (ak st) s.heap.objs.size f cdv))->sp vs H Q E ->
   ∃t,PSs (cxOf CX0 P w K mg base N qual (ak st) f cdv A outer s H E).nox (bM st) t/\t { nx:=λ_ H'=>Q .non H',rt:=Q } (start N vs) H):FnOk P w K mg base CX0 (k+1) f fd ps sp:=by
 obtain⟨oc,od,kV,doc,pm,an,cdv,ct,osl,rfl,lk,hcd⟩:=F.ex;refine mt lk hcd S len λA outer s H vs Q E hr hsp=>?_;obtain⟨t,h,q⟩:=hbody cdv A outer s H vs Q E hr hsp;exact⟨t,h.nox,q⟩
theorem Fun.binds {st:Stmt} {f:Addr} {fd:FuncData} {ps:List Str} (F:Fun K x qual st f fd)
  (h:∀(kV doc pm:Value) (an:Option Addr) (cdv ct:Value) (us:List Value),us.length=ps.length->bindArgs (PySem.W.fnOf x qual (ck st) (bM st) (ak st) .none kV doc pm an cdv ct) ⟨us,[]⟩=pure (ps.zip us)):dY K fd ps []:=by
 obtain⟨oc,od,kV,doc,pm,an,cdv,ct,osl,rfl,lk,hcd⟩:=F.ex;exact .all (h kV doc pm an cdv ct)
theorem nP {st:Stmt} {f:Addr} {oc:Value} {od an:Option Addr} {osl:Array (Option Value)} {kV doc pm cdv ct:Value} (l:K.lookup f=some ⟨oc,od,.func (PySem.W.fnOf x qual (ck st) (bM st) (ak st) .none kV doc pm an cdv ct),osl⟩)
  (c:PySem.W.codeIn K cdv qual=true) (k:PySem.W.keepIn K (.ref f)=true):Fun K x qual st f (PySem.W.fnOf x qual (ck st) (bM st) (ak st) .none kV doc pm an cdv ct):=⟨⟨oc,od,kV,doc,pm,an,cdv,ct,osl,rfl,l,c⟩,k⟩
end
theorem cF {A:Around} {k:Nat} (hr:Room k A):A.units+1<cLine:=Nat.lt_of_le_of_lt (Nat.add_le_add_left (by decide:1<=64) _) hr.units
section
variable {X:Cx}
theorem pv (i:Nat) {x:Str} {pos:Pos} (hN:X.N[i]?=some x:=by rfl) (hv:Vis X.env.scope x:=by first|exact Or.inl rfl|exact Or.inr (Or.inl rfl)|exact Or.inr (Or.inr rfl)) (hd:(x==("__debug__" : Str))=false:=by decide)
  (hcd:(x==("__classdict__" : Str))=false:=by decide):PE X (.Name x pos) (cV i):=v_ hN hv hd hcd
end
variable {A B c:Prop}
theorem iteF (h:B):if false=true then A else B:=by
 rw[Qz Qj];exact h
theorem iteT (h:A):if true=true then A else B:=by
 rw[Qv rfl];exact h
theorem sw [Decidable c] (h1:c->A) (h2:¬c->B):if c then A else B:=by
 by_cases h:c
 ·rw[Qv h];exact h1 h
 rw[Qz h];exact h2 h
def ax (H H':Hp):Prop:=∀b o,H b=some o->H' b=some o
theorem ax.refl (H:Hp):ax H H:=λ_ _ h=>h
theorem ax.trans {H H1 H2:Hp} (a:ax H H1) (b:ax H1 H2):ax H H2:=λc o h=>b c o (a c o h)
theorem ax.free {H H':Hp} (e:ax H H') {l:Addr} (h:H' l=Option.none):H l=Option.none:=by
 cases q:H l with
 | none=>rfl
 | some o =>
 rw[e l o q]at h;cases h
theorem ax.seq {K:PySem.W.Frag} {H H':Hp} {a:Addr} {xs:List V} (e:ax H H') (h:SqL K H a xs):SqL K H' a xs:=by
 rcases h with(h|⟨o,h⟩)|h
 ·exact .inl (.inl (e _ _ h))
 ·exact .inl (.inr ⟨o,e _ _ h⟩)
 exact .inr h
section
variable {κ:Type} [DecidableEq κ]
variable {kvs:List (κ × V)}
theorem eZ {k:κ} (h:aJ kvs k=none):¬k∈kvs.map (·.1):=by
 intro m;obtain⟨p,hp,e⟩:=QG.mp m;have q:(kvs.any λkv=>decide (kv.1=k))=true:=List.any_eq_true.mpr ⟨p,hp,QU e⟩;rw[cD,h]at q;exact absurd q (by simp)
theorem tF {k:κ} {v:V} (h:aJ kvs k=some v):k∈kvs.map (·.1):=by
 have q:(kvs.any λkv=>decide (kv.1=k))=true:=by
  rw[cD,h]
  all_goals rfl
 obtain⟨p,hp,e⟩:=List.any_eq_true.mp q;exact QG.mpr ⟨p,hp,of_decide_eq_true e⟩
theorem oK:∀{l:List κ} {k:κ},l.Nodup->¬k∈l->(l++[k]).Nodup
 | [],k,_,_=>by simp
 | a::r,k,h,hk=>by
  obtain⟨h1,h2⟩:=Xb.mp h;show (a::(r++[k])).Nodup;refine Xb.mpr ⟨λm=>?_,oK h2 λm=>hk (Qu.mpr (Or.inr m))⟩;rcases Qk.mp m with q|q
  ·exact h1 q
  exact hk (Qu.mpr (Or.inl (Qp.mp q).symm))
end
section
variable {X:Cx}
end
end L2
set_option maxHeartbeats 4000000
namespace L2
open PySem PySem.Spec PyProof.Rows
def wk:St->St->Prop
 | [],[]=>True
 | none::a,_::b=>wk a b
 | some x::a,y::b=>y=some x/\wk a b
 | _,_=>False
theorem jK:∀{a b:St},wk a b->a.length=b.length
 | [],[],_=>rfl
 | [],_::_,h=>h.elim
 | none::_,[],h=>h.elim
 | some _::_,[],h=>h.elim
 | none::a,_::b,h=>congrArg (·+1) (jK (a:=a) (b:=b) h)
 | some _::a,_::b,h=>congrArg (·+1) (jK (a:=a) (b:=b) h.2)
theorem jL:∀{a b:St},wk a b->∀(i:Nat) (v:V),a[i]?=some (some v)->b[i]?=some (some v)
 | [],[],_,i,v,e=>by simp at e
 | [],_::_,h,_,_,_=>h.elim
 | none::_,[],h,_,_,_=>h.elim
 | some _::_,[],h,_,_,_=>h.elim
 | none::a,y::b,h,0,v,e=>by simp at e
 | none::a,y::b,h,i+1,v,e=>by
  have:=jL (a:=a) (b:=b) h i v (by simpa using e);simpa using this
 | some x::a,y::b,h,0,v,e=>by
  have e':x=v:=by simpa using e
  subst e';rw[h.1];rfl
 | some x::a,y::b,h,i+1,v,e=>by
  have:=jL (a:=a) (b:=b) h.2 i v (by simpa using e);simpa using this
def cr (env:Env):List (Str × NameKind)->List (Str × Addr)->List (Str × Addr)
 | [],acc=>acc
 | (n,k)::r,acc=>cr env r (if (k==.free)=true then (n,(env.cells.lookup n).getD 0)::acc else acc)
theorem iI {env:Env}:∀(ns:List (Str × NameKind)) (acc:List (Str × Addr)),(∀y∈ns,y.2=.free->∃c,env.cells.lookup y.1=some c) ->
  (forIn ns acc (fun x r=>match x with
   | (name,kind)=>if (kind==NameKind.free)=true then (do let c <-cellOf env name;pure (ForInStep.yield ((name,c)::r))) else pure (ForInStep.yield r)):Sem (List (Str × Addr)))=pure (cr env ns acc)
 | [],acc,_=>rfl
 | (n,k)::r,acc,h=>by
  rw[List.forIn_cons];have ih:=λa=>iI (env:=env) r a λy hy=>h y (Qs _ hy);by_cases hk:(k==NameKind.free)=true
  ·obtain⟨c,hc⟩:=h (n,k) Q4 (by simpa using hk);have e1:cellOf env n=pure c:=by unfold cellOf;rw[hc]
   simp only[hk,if_true,e1,pure_bind];unfold cr;simp only[hk,if_true,hc,Option.getD_some];exact ih _
  simp only[hk,if_false,pure_bind];unfold cr;simp only[hk,if_false];exact ih _
variable {env:Env} {scope:Scope}
theorem iJ (h:∀y∈scope.names,y.2=.free->∃c,env.cells.lookup y.1=some c):closureFor scope env=pure (cr env scope.names []):=by
 have e:=iI scope.names [] h;unfold closureFor
 first
  | (rw[show (forIn scope.names ([]:List (Str × Addr)) _:Sem (List (Str × Addr)))=pure (cr env scope.names []) from e];rfl)
  | (simp only[bind_pure];exact e)
  | exact(congrArg (· >>= pure) e)
theorem f8 {env:Env}:∀(ns:List (Str × NameKind)) (acc:List (Str × Addr)) (n:Str) (a:Addr),(n,a)∈cr env ns acc->(n,a)∈acc\/(a=(env.cells.lookup n).getD 0/\(n,NameKind.free)∈ns)
 | [],acc,n,a,h=>.inl h
 | (m,k)::r,acc,n,a,h=>by
  unfold cr at h;by_cases hk:(k==NameKind.free)=true
  ·rw[Qv hk]at h;rcases f8 r _ n a h with q|⟨q1,q2⟩
   ·rcases Qu.mp q with q|q
    ·cases q;have hk':k=.free:=by simpa using hk
     subst hk';exact .inr ⟨rfl,Q4⟩
    exact .inl q
   exact .inr ⟨q1,Qs _ q2⟩
  rw[Qz hk]at h;rcases f8 r _ n a h with q|⟨q1,q2⟩
  ·exact .inl q
  exact .inr ⟨q1,Qs _ q2⟩
theorem jC {env:Env}:∀(ns:List (Str × NameKind)) (acc:List (Str × Addr)) (p:Str × Addr),p∈acc->p∈cr env ns acc
 | [],_,_,h=>h
 | (m,k)::r,acc,p,h=>by
  unfold cr;refine jC r _ p ?_
  split
  ·exact Qs _ h
  exact h
theorem iH {env:Env}:∀(ns:List (Str × NameKind)) (acc:List (Str × Addr)) (n:Str),(n,NameKind.free)∈ns->(n,(env.cells.lookup n).getD 0)∈cr env ns acc
 | [],_,_,h=>nomatch h
 | (m,k)::r,acc,n,h=>by
  unfold cr;rcases Qu.mp h with q|q
  ·cases q;refine jC r _ _ ?_;rw[Qv (by rfl)];exact Q4
  exact iH r _ n q
theorem du {α β:Type} [BEq α] [LawfulBEq α]:∀{l:List (α × β)} {x:α} {y:β},l.lookup x=some y->(x,y)∈l
 | [],_,_,h=>by simp at h
 | (a,b)::r,x,y,h=>by
  rw[QV]at h;by_cases e:(x==a)=true
  ·rw[e]at h;have e':x=a:=by simpa using e
   have h':b=y:=by simpa using h
   subst e' h';exact Q4
  have e2:(x==a)=false:=by simpa using e
  rw[e2]at h;exact Qs _ (du (by simpa using h))
theorem eB {α β:Type} [BEq α] [LawfulBEq α]:∀{l:List (α × β)} {x:α} {y:β},(x,y)∈l->∃z,l.lookup x=some z
 | [],_,_,h=>nomatch h
 | (a,b)::r,x,y,h=>by
  rw[QV];by_cases e:(x==a)=true
  ·rw[e];exact⟨b,rfl⟩
  have e2:(x==a)=false:=by simpa using e
  rw[e2];rcases Qu.mp h with q|q
  ·cases q;simp at e
  exact eB q
variable {x:Str} {ns:List (Str × NameKind)}
theorem tf {c:Addr} (h:(cr env ns []).lookup x=some c) (hall:∀y∈ns,y.2=.free->∃c,env.cells.lookup y.1=some c):env.cells.lookup x=some c:=by
 rcases f8 ns [] x c (du h) with q|⟨q1,q2⟩
 ·nomatch q
 obtain⟨c',hc⟩:=hall _ q2 rfl;have hc':env.cells.lookup x=some c':=hc;rw[hc']at q1;rw[hc',q1];rfl
theorem pd {env:Env} (h:(x,NameKind.free)∈ns):∃c,(cr env ns []).lookup x=some c:=eB (iH ns [] x h)
noncomputable def Cx.block (X:Cx) (N:List Str) (scope:Scope) (C:Addr) (s:Shared) (H:Hp) (fp:B3):Cx :=
 { X with N:=N,s₀:=s,H₀:=H,env:=compEnvC scope (cr X.env scope.names []) C X.env,outer:=X.stack,ex:=fp,fn:=λ_=>false,pn:=[],xe:=λ_ _=>False }
theorem km {k:NameKind} (h:(relabel scope env).names.lookup x=some k):∃k',scope.names.lookup x=some k'/\(k=k'\/(k'=.free/\k=.cell)):=by
 unfold relabel at h;generalize scope.names=ns at h
 induction ns with
 | nil=>simp at h
 | cons p r ih =>
 obtain⟨n,k0⟩:=p;rw[QL]at h;by_cases e:(x==n)=true
 ·refine⟨k0,by rw[QV,e],?_⟩;by_cases c:(k0==NameKind.free&&env.scope.kind==.function&&env.kindOf n==some .cell)=true
  ·have h1:some NameKind.cell=some k:=by
    have h2:=h;simp only[c,if_true]at h2;rw[QV,e]at h2;exact h2
   have h3:k0=.free:=by
    simp only[Xp,beq_iff_eq]at c;exact c.1.1
   exact .inr ⟨h3,(QY h1).symm⟩
  have h1:some k0=some k:=by
   have h2:=h;simp only[c,Xx,if_false]at h2;rw[QV,e]at h2;exact h2
  exact .inl (QY h1).symm
 have e2:(x==n)=false:=by simpa using e
 rw[QV,e2];refine ih ?_;by_cases c:(k0==NameKind.free&&env.scope.kind==.function&&env.kindOf n==some .cell)=true
 ·have h2:=h;simp only[c,if_true]at h2;rw[QV,e2]at h2;exact h2
 have h2:=h;simp only[c,Xx,if_false]at h2;rw[QV,e2]at h2;exact h2
theorem ko (h:scope.names.lookup x=some .free):(relabel scope env).names.lookup x=some .cell\/(relabel scope env).names.lookup x=some .free:=by
 unfold relabel;show List.lookup x (scope.names.map _)=_\/List.lookup x (scope.names.map _)=_;generalize scope.names=ns at h
 induction ns with
 | nil=>simp at h
 | cons p r ih =>
 obtain⟨n,k0⟩:=p;rw[QL];by_cases e:(x==n)=true
 ·rw[QV,e]at h;have h':k0=.free:=by simpa using h
  subst h';by_cases c:(NameKind.free==NameKind.free&&env.scope.kind==.function&&env.kindOf n==some .cell)=true
  ·left
   simp only[c,if_true];rw[QV,e]
  right
  simp only[c,Xx,if_false];rw[QV,e]
 have e2:(x==n)=false:=by simpa using e
 rw[QV,e2]at h;have h3:=ih h;by_cases c:(k0==NameKind.free&&env.scope.kind==.function&&env.kindOf n==some .cell)=true
 ·simp only[c,if_true];rw[QV,e2];exact h3
 simp only[c,Xx,if_false];rw[QV,e2];exact h3
def uH (X:Cx) (ifs:List Expr) (t:TT):Prop :=
 ∀(pins:B1) (s:Shared) (U:St) (H:Hp) (Q:Bool->Hp->Prop),Inv X pins U H s->t U H Q ->
  wpAny (model X.prog X.w) X.A (forIn ifs true λc r=>if r=true then do let ok <-isTrue c X.env (eval c X.env);pure (ForInStep.yield ok) else pure (ForInStep.yield r)) (TP X pins U Q) X.xe s
def jP:TT:=λ_ H Q=>Q true H
theorem fh {X:Cx}:uH X [] jP:=λ_ _ _ H _ I h=>wpAny_tests_nil ⟨H,I,h⟩
theorem hX {X:Cx} {c:Expr} {t:TT} (h:PT X c t):uH X [c] t:=λpins s U H Q I hw=>wpAny_tests_one (h pins s U H Q I hw)
theorem fF {prog:Program} {w:World} {A:Around} {R:Result->Shared->Prop} {s:Shared} {elt target iter:Expr} {ifs:List Expr} {pos:Pos} {it acc:Value} (I:Nat->Shared->Prop)
  (turn:∀n s,I n s->wpAny (model prog w) A (pyNext it) (fun r s1=>match r with
   | none=>R (.ok .next) s1
   | some v=>wpAny (model prog w) A (letOwnedTupleGo target it v) (λ_ s2=>wpAny (model prog w) A (assign target env v) (λ_ s3 =>
     wpAny (model prog w) A (forIn ifs true λc r=>if r=true then do let ok <-isTrue c env (eval c env);pure (ForInStep.yield ok) else pure (ForInStep.yield r)) (λok s4 =>
      if ok=true then wpAny (model prog w) A (eval elt env) (λx s5 =>
       wpAny (model prog w) A (call (.builtin "list.append") [acc,x]) (λ_ s6=>∃m,m<n/\I m s6) (λ_ _=>False) s5) (λ_ _=>False) s4
      else ∃m,m<n/\I m s4) (λ_ _=>False) s3) (λ_ _=>False) s2) (λ_ _=>False) s1) (λ_ _=>False) s)
  (n:Nat) (h:I n s):codeAny (model prog w) A (.compLoop (.ListComp elt [⟨target,iter,ifs,0⟩] scope pos) 0 it acc env) R s:=by
 refine codeAny_loop rfl I (λn s hI=>?_) n h;show wpAny _ A ((compTurn (.ListComp elt [⟨target,iter,ifs,0⟩] scope pos) 0 it acc env).onRaise (λx=>do noteFrame x env;theTreesLotGoes x)) _ _ s;refine wpAny_noted ?_;rw[compTurn_list];have no:∀{E:B0},∀e s',(λ(_:Value) (_:Shared)=>False) e s'->E e s':=λ_ _ z=>False.elim z;refine Qi (wpAny_standAt (Qi (Xg (turn n s hI) (λr s1 h1=>?_) no)))
 cases r with
 | none=>exact QJ h1
 | some v =>
 refine Qi (Xg h1 (λ_ s2 h2=>?_) no);refine Qi (Xg h2 (λ_ s3 h3=>Qi (Xg h3 (λok s4 h4=>?_) no)) no)
 cases ok with
 | false=>exact QJ ⟨rfl,h4⟩
 | true =>
 exact Qi (Qi (Xg h4 (λx s5 h5=>Qi (Xg h5 (λ_ s6 h6=>QJ (QJ ⟨rfl,h6⟩)) no)) no))
def bE (tgs:List Str) (cap:List (Str × Nat)) (U:St):St:=tgs.map (λ_=>none)++cap.map λc=>(U[c.2]?).join
def i_ (wi:TI) (g:TG) (tt:TT) (te:TE) (f:St->St):TE:=λU H Q=>wi U H λJ H1=>∀D,H1 D=none->∃W:Nat->Nat->Hp->List V->Prop,(∃m,W 0 m (upd H1 D (.lst [])) []) /\
 ∀i m H ys,W i m H ys->H D=some (.lst ys)/\((J.stop i H/\Q (.ref D) H)\/(J.go i H/\∀x H',J.yld i H x H'->g x (f U) H' λσ2 H2=>wk (f U) σ2/\tt σ2 H2 λb H3 =>
  if b=true then te σ2 H3 λv H4=>H4 D=some (.lst ys)/\ys.length<sizeLine/\∃m',m'<m/\W (i+1) m' (upd H4 D (.lst (ys++[v]))) (ys++[v])
  else ∃m',m'<m/\W (i+1) m' H3 ys))
structure BlockOk (X:Cx) (scope:Scope) (tgs:List Str) (cap:List (Str × Nat)):Prop where
 kind:scope.kind=.function
 nocell:(scope.names.all λy=>!(y.2==NameKind.cell))=true
 names:(scope.names.all λy=>!(y.2==NameKind.local) || (scope.names.lookup y.1==some .local))=true
 free:(scope.names.all λy=>!(y.2==NameKind.free) || (X.env.scope.names.lookup y.1==some .cell) || (X.env.scope.names.lookup y.1==some .free))=true
 caps:(cap.all λc=>decide (X.N[c.2]?=some c.1)&&(scope.names.lookup c.1==some .free)&&(decide (X.env.scope.names.lookup c.1=some .cell) || decide (X.env.scope.names.lookup c.1=some .free)))=true
 tgl:(tgs.all λx=>(scope.names.lookup x==some .local))=true
section
variable {X:Cx} {scope:Scope} {tgs:List Str} {cap:List (Str × Nat)}
theorem BlockOk.cellAt (B:BlockOk X scope tgs cap) (ok:X.Ok):∀y∈scope.names,y.2=.free->∃c,X.env.cells.lookup y.1=some c:=λy hy hk=>by
 have q:=Xi.mp B.free y hy;rw[hk]at q;refine ok.has y.1 ?_;simp only[beq_self_eq_true,Bool.not_true,Bool.false_or,Bool.or_eq_true,beq_iff_eq]at q;exact q
theorem BlockOk.noc (B:BlockOk X scope tgs cap):∀y∈scope.names,y.2≠.cell:=λy hy hk=>by
 have q:=Xi.mp B.nocell y hy;rw[hk]at q;simp at q
theorem BlockOk.locs (B:BlockOk X scope tgs cap):∀y∈scope.names,y.2=.local->scope.names.lookup y.1=some .local:=λy hy hk=>by
 have q:=Xi.mp B.names y hy;rw[hk]at q;simpa using q
variable {pins:B1}
theorem Inv.enter {U:St} {H:Hp} {s:Shared} {h1:Heap} {tk:Nat} {fp:B3} (B:BlockOk X scope tgs cap) (I:Inv X pins U H s) (hfp:∀b∈fp,eW X pins H b) (hlt:∀b∈fp,b<s.heap.objs.size)
  (hns:h1.Ns s.heap.objs.size (λ_=>none)) (old:∀b o,s.heap.get? b=some o->h1.get? b=some o) :
  Inv (X.block (tgs++cap.map (·.1)) scope s.heap.objs.size s H fp) [] (bE tgs cap U) H { s with heap:=h1,toks:=tk }:=by
 have cellsIn:∀x c,(cr X.env scope.names []).lookup x=some c->X.env.cells.lookup x=some c:=λx c e=>tf e (B.cellAt I.ok)
 have kindIn:∀x,((relabel scope X.env).names.lookup x=some .cell\/(relabel scope X.env).names.lookup x=some .free)->(x,NameKind.free)∈scope.names:=λx hx=>by
  have go:∀k,(relabel scope X.env).names.lookup x=some k->(k=.cell\/k=.free)->(x,NameKind.free)∈scope.names:=λk hk hc=>by
   obtain⟨k',e1,e2⟩:=km hk;have m:=du e1;rcases e2 with e2|⟨e2,_⟩
   ·subst e2;rcases hc with z|z
    ·exact absurd z (B.noc _ m)
    subst z;exact m
   subst e2;exact m
  rcases hx with h|h
  ·exact go _ h (.inl rfl)
  exact go _ h (.inr rfl)
 have nocl:∀x c,X.env.cells.lookup x=some c->c≠s.heap.objs.size:=λx c e=>by
  obtain⟨v,q⟩:=I.cell x c e;exact QI q.lt
 refine⟨⟨I.ok.mod,?_,I.ok.glob,I.ok.blt,Qh _,λx y c e1 e2=>I.ok.inj x y c (cellsIn x c e1) (cellsIn y c e2),λx hx=>?_,λx c hf _=>absurd (show false=true from hf) Qj,I.ok.hd,I.ok.frames,.inl rfl,
  λb hb=>⟨QI (hlt b hb),λx c e=>?_⟩,I.bs,QQ I.ok.bsz I.sz,λb o e hb=>?_,λb hb hf=>?_,I.stack,I.stkFree⟩,
  rfl,I.bare,Un.kept old,⟨_,hns,λi x v h2 h3 h4=>?_⟩,λx c e=>?_,?_,λx c e=>I.freeC x c (cellsIn x c e),λp hp=>absurd (show p∈([]:B1) from hp) (by simp),I.hok.kept old,?_⟩
 ·exact B.kind
 ·exact pd (kindIn x hx)
 ·exact(hfp b hb).2.2.2.2.1 x c (cellsIn x c e)
 ·-- no object of the base is an iterator of ours
  rcases(hfp b hb).2.2.2.1 with z|z
  ·exact I.ok.noex b o e z
  have q:=I.ok.bs b o e;exact absurd (Qy (Qo q.1) z) (Nat.lt_irrefl _)
 ·have hf':b∈frs X.stack:=hf;rcases Qu.mp (I.stkSub b hf') with z|z
  ·exact(hfp b hb).2.1 z
  exact(hfp b hb).2.2.1 z
 ·-- a name that is known: one of the captured ones
  have hi:tgs.length<=i:=by
   by_cases hl:i<tgs.length
   ·exfalso;unfold bE at h3;rw[QT (by simpa using hl),Qe]at h3
    cases e:tgs[i]? with
    | none=>rw[e]at h3;cases h3
    | some z=>rw[e]at h3;cases h3
   exact om2 hl
  unfold bE at h3;rw[QK (by simpa using hi),Qa,Qe]at h3;have h2':(tgs++cap.map (·.1))[i]?=some x:=h2;rw[QK hi,Qe]at h2'
  cases e:cap[i-tgs.length]? with
  | none=>rw[e]at h2';cases h2'
  | some c =>
  rw[e]at h2' h3;have hx:c.1=x:=by simpa using h2'
  have hv:(U[c.2]?).join=some v:=by simpa using h3
  have hm:c∈cap:=Qn e;have q:=Xi.mp B.caps c hm;simp only[Xp,decide_eq_true_eq,beq_iff_eq,Bool.or_eq_true]at q;obtain⟨⟨q1,q2⟩,q3⟩:=q
  have hσ:U[c.2]?=some (some v):=by
   cases z:U[c.2]? with
   | none=>rw[z]at hv;cases hv
   | some o =>
   rw[z]at hv;have:o=some v:=by simpa using hv
   rw[this]
  obtain⟨m,_,hl⟩:=I.loc
  obtain⟨u,r,l⟩:=hl c.2 c.1 v q1 hσ (by
   rcases q3 with z|z
   ·exact .inr (.inl z)
   exact .inr (.inr z))
  subst hx;refine⟨u,r,.inr ⟨ko q2,?_⟩⟩
  have nl:¬X.env.kindOf c.1=some .local:=λz=>by
   rcases q3 with y|y
   ·have:X.env.kindOf c.1=some .cell:=y;rw[this]at z;cases z
   have:X.env.kindOf c.1=some .free:=y;rw[this]at z;cases z
  rcases l with⟨l1,_⟩|⟨_,d,l2,l3⟩
  ·exact absurd l1 nl
  obtain⟨d',e'⟩:=pd (env:=X.env) (du q2);have:d=d':=QY (l2.symm.trans (cellsIn _ _ e'));subst this;obtain⟨oc,ho,hd⟩:=l3;exact⟨d,e',oc,old d oc ho,hd⟩
 ·obtain⟨v,oc,ho,hd⟩:=I.cell x c (cellsIn x c e);exact⟨v,oc,old c oc ho,hd⟩
 ·exact I.hok.fresh (Qh _)
 unfold bE;show _=(tgs++cap.map (·.1)).length;simp
theorem Inv.leave {U σ':St} {H H':Hp} {s s':Shared} {h2:Heap} {fp:B3} {N:List Str} (I:Inv X pins U H s) (hfp:∀b∈fp,eW X pins H b)
  (J:Inv (X.block N scope s.heap.objs.size s H fp) [] σ' H' s') (hs:Heap.SameBut s.heap.objs.size s'.heap h2):Inv X pins U H' { s' with heap:=h2 }:=by
 have u:Un (frs X.stack) fp H H' s.heap s'.heap:=J.base;have ne:∀b o,s.heap.get? b=some o->b≠s.heap.objs.size:=λb o e=>QI (Qo e);have hf:H' s.heap.objs.size=none:=J.free;have k:∀b o,b≠s.heap.objs.size->s'.heap.get? b=some o->h2.get? b=some o:=λb o hb e=>(hs.2 b hb).trans e
 have u2:Un (frs X.stack) fp H H' s.heap h2 :=
  ⟨λb o e n h1 h3=>k b o (ne b o e) (u.keep b o e n h1 h3),λb o e n h1 h3=>let ⟨sl,q⟩:=u.slot b o e n h1 h3;⟨sl,k b _ (ne b o e) q⟩,u.free,λb o e h3=>let ⟨o',q⟩:=u.there b o e h3;⟨o',k b o' (ne b o e) q⟩,u.tups,u.frzs,u.tbls⟩
 have hok:HOk X.prog X.w H' h2:=λb ob e=>(J.hok b ob e).stay (λc v hc q=>k c v (by
  rcases hc with z|z
  ·subst z;intro y;rw[y,hf]at e;cases e
  intro y
  rw[y,hf]at z;cases z) q) (λ_ q=>q) λ_ _ q=>q
 exact Inv.call' I (s':={ s' with heap:=h2 }) J.os u2 hok J.bare λb hb=>by
  obtain⟨f0,f1,f2,f3,f4,f5⟩:=hfp b hb;exact⟨f3,f1,f4,f5⟩
theorem lV {elt tg iter:Expr} {ifs:List Expr} {pos:Pos} {wi:TI} {g:TG} {tt:TT} {te:TE} (hc:X.calm=true) (B:BlockOk X scope tgs cap) (hi:PI X tg iter wi)
  (hg:∀C s H fp,PG (X.block (tgs++cap.map (·.1)) scope C s H fp) tg g) (ht:∀C s H fp,uH (X.block (tgs++cap.map (·.1)) scope C s H fp) ifs tt) (he:∀C s H fp,PE (X.block (tgs++cap.map (·.1)) scope C s H fp) elt te)
  (hs:∀x,foldedSetIterable iter X.env x=pure x:=by intro _;rfl):PE X (.ListComp elt [⟨tg,iter,ifs,0⟩] scope pos) (i_ wi g tt te (bE tgs cap)):=by
 intro pins s U H Q I h;rw[eval_ListComp];refine wpAny_comprehension_free (use:=none) rfl hs (iJ (B.cellAt I.ok)) B.kind B.locs (thn (hi pins s U H _ I h) λv s1 h1=>thn h1 λitv s2 h2=>?_);obtain⟨it,fp,tn,J,H2,e,I2,T,st2,f2,q⟩:=h2;subst e;have lt2:∀b∈fp,b<s2.heap.objs.size:=λb hb=>let ⟨o,e,_⟩:=T.obj _ _ st2 b hb;Qo e;have hD:H2 s2.heap.objs.size=none:=I2.hok.fresh (Qh _);obtain⟨W,⟨m0,w0⟩,turn⟩:=q s2.heap.objs.size hD;refine wpAny_newObj_type ?_;have I3:Inv X pins U (upd H2 s2.heap.objs.size (.lst [])) { s2 with heap:=s2.heap.push { cls:=.type "list", dict:=none,data:=.seq ([]:List Value).toArray } }:=I2.lnew (t':=s2.toks) (ys:=[]) (its:=[]) .nil (Q5 _);have st3:tn 0 (s2.heap.push { cls:=.type "list", dict:=none,data:=.seq ([]:List Value).toArray }):=T.keep _ _ _ st2 λb _ o e=>Qf _ e;have nD:∀b∈fp,b≠s2.heap.objs.size:=λb hb=>QI (lt2 b hb);have f3:∀b∈fp,eW X pins (upd H2 s2.heap.objs.size (.lst [])) b:=λb hb=>⟨by rw[af (nD b hb)];exact(f2 b hb).1,(f2 b hb).2⟩;generalize hs3:({ s2 with heap:=s2.heap.push { cls:=.type "list", dict:=none,data:=.seq ([]:List Value).toArray } }:Shared)=s3 at I3 st3 ⊢;have st3':tn 0 s3.heap:=by rw[<-hs3];exact st3
 have lt3:∀b∈fp,b<s3.heap.objs.size:=λb hb=>let ⟨o,e,_⟩:=T.obj _ _ st3' b hb;Qo e;generalize hH3:upd H2 s2.heap.objs.size (.lst [])=H3 at I3 f3 w0;generalize s2.heap.objs.size=D at *;refine wpAny_newFunctionEnv B.noc (by intro y hy;simp at hy) (λh1 hns hsb=>?_) B.kind;have old:∀b o,s3.heap.get? b=some o->h1.get? b=some o:=λb o e=>hsb.extBut b o (QI (Qo e)) (Qf _ e);have I4:=Inv.enter (tk:=s3.toks+([]:List (Str × Value)).length) (h1:=h1) B I3 f3 lt3 hns old;have st4:tn 0 h1:=T.keep _ _ _ st3' λb _ o e=>old b o e
 have fpB:∀{H':Hp},(∀b∈fp,H' b=none)->∀b∈fp,eW (X.block (tgs++cap.map (·.1)) scope s3.heap.objs.size s3 H3 fp) [] H' b:=λ{H'} hn b hb =>
  ⟨hn b hb,QI (lt3 b hb),I4.ok.exfs b hb,.inl hb,λx c e=>(I4.ok.exf b hb).2 x c e,λp hp=>absurd (show p∈([]:B1) from hp) (by simp)⟩
 have loop:codeAny (model X.prog X.w) X.A (.compLoop (.ListComp elt [⟨tg,iter,ifs,0⟩] scope pos) 0 (.ref it) (.ref D) (compEnvC scope (cr X.env scope.names []) s3.heap.objs.size X.env))
   (compPost (model X.prog X.w) X.A X.xe none (EP X pins U Q) (.ref D) s3.heap.objs.size) { s3 with heap:=h1,toks:=s3.toks+([]:List (Str × Value)).length }:=by
  refine fF (λn s'=>∃i H' ys,Inv (X.block (tgs++cap.map (·.1)) scope s3.heap.objs.size s3 H3 fp) [] (bE tgs cap U) H' s'/\tn i s'.heap/\(∀b∈fp,H' b=none)/\W i n H' ys) ?_ m0 ⟨0,H3,[],I4,st4,λb hb=>(f3 b hb).1,w0⟩;rintro n s5 ⟨i,H5,ys,I5,st5,fr5,w5⟩;obtain⟨hl,ht5⟩:=turn i n H5 ys w5;rcases ht5 with⟨stop,qd⟩|⟨go,step⟩
  ·refine thn (T.done (X.block (tgs++cap.map (·.1)) scope s3.heap.objs.size s3 H3 fp) rfl rfl rfl hc i [] s5 _ H5 _ I5 (fpB fr5) st5 stop) λr s6 ⟨hr,I6⟩=>?_;subst hr;obtain⟨m6,n6,_⟩:=I6.loc;exact⟨m6,n6,λh' hs'=>⟨.ref D,H5,Inv.leave I3 f3 I6 hs',rfl,qd⟩⟩
  refine thn (T.item (X.block (tgs++cap.map (·.1)) scope s3.heap.objs.size s3 H3 fp) rfl rfl rfl hc i [] s5 _ H5 _ I5 (fpB fr5) st5 go) λr s6 ⟨u,hr,h6⟩=>?_;subst hr;refine thn h6 λ_ s7 ⟨x,H7,I7,r7,y7,st7,fr7⟩=>?_;have I7':=I7.pinned (fpB fr7) (T.obj _ _ st7)
  have again:∀{σ8:St} {H8:Hp} {s8:Shared} {ys8:List V},Inv (X.block (tgs++cap.map (·.1)) scope s3.heap.objs.size s3 H3 fp) ([]++fQ fp s7.heap) σ8 H8 s8->wk (bE tgs cap U) σ8->(∃m',m'<n/\W (i+1) m' H8 ys8) ->
    ∃m,m<n/\∃i H' ys,Inv (X.block (tgs++cap.map (·.1)) scope s3.heap.objs.size s3 H3 fp) [] (bE tgs cap U) H' s8/\tn i s8.heap/\(∀b∈fp,H' b=none)/\W i m H' ys:=λ{σ8 H8 s8 ys8} I8 k8 ⟨m',hm,w8⟩=>by
   refine⟨m',hm,i+1,H8,ys8,I8.unpinned.weak (jK k8) (jL k8),T.keep _ _ _ st7 λb hb o e=>(I8.pin (b,o) (QA _ (QA _ (cz hb e)))).1,λb hb=>?_,w8⟩;obtain⟨o,e,d⟩:=T.obj _ _ st7 b hb;exact(I8.pin (b,o) (QA _ (QA _ (cz hb e)))).2.1
  refine thn (hg _ _ _ _ _ s7 _ H7 x u _ I7' r7 (step x H7 y7)) λ_ s8 ⟨σ8,H8,I8,k8,q8⟩=>?_;refine thn (ht _ _ _ _ _ s8 σ8 H8 _ I8 q8) λok s9 ⟨H9,I9,q9⟩=>?_
  cases ok with
  | false =>
   rw[Qz Qj]at q9 ⊢;exact again I9 k8 q9
  | true =>
  rw[Qv rfl]at q9 ⊢;refine thn (he _ _ _ _ _ s9 σ8 H9 _ I9 q9) λy sA ⟨yv,HA,IA,rA,hA,zA,qA⟩=>?_;exact thn (bA _ sA σ8 HA (.ref D) [yv] (.ref D) [y] (λv H'=>v=.non/\∃m',m'<n/\W (i+1) m' H' (ys++[yv])) IA rfl (.cons rA .nil) ⟨D,ys,yv,rfl,rfl,hA,zA,rfl,qA⟩) λ_ sB ⟨_,HB,IB,_,_,qB⟩=>again IB k8 qB
 exact codeAny_compStart_list loop (T.self _ 0 _ _ _ st4 loop)
theorem jj {X:Cx} {scope:Scope} {elt iter:Expr} {p pos:Pos} {wi:TI} {te:TE} (x:Str) (cap:List (Str × Nat)) (hi:PI X (.Name x p) iter wi) (he:∀C s H fp,PE (X.block ([x]++cap.map (·.1)) scope C s H fp) elt te) (hc:X.calm=true:=by rfl) (B:BlockOk X scope [x] cap:=by exact⟨rfl,rfl,rfl,rfl,rfl,rfl⟩) (hN:([x]++cap.map (·.1)).Nodup:=by decide +kernel) (hg:([x]++cap.map (·.1)).Nodup->∀C s H fp,PG (X.block ([x]++cap.map (·.1)) scope C s H fp) (.Name x p) (cT 0):=by intro h _ _ _ _;exact ce (i:=0) h rfl (by z_go)) (hs:∀x,foldedSetIterable iter X.env x=pure x:=by intro _;rfl):PE X (.ListComp elt [⟨.Name x p,iter,[],0⟩] scope pos) (i_ wi (cT 0) jP te (bE [x] cap)):=lV hc B hi (hg hN) (λ_ _ _ _=>fh) he hs
end
def Itf (n:Nat) (f:Nat->V):It:=⟨λi _=>i<n,λi H x H'=>H'=H/\x=f i,λi _=>i=n⟩
def gc (z:Str) (i:Nat):V:=.str ⟨#[z.cps.getD i 0]⟩
section
variable {X:Cx} {x:Str} {px:Pos}
def BB (tl:TE):TI:=λU H R=>tl U H λv H1=>∃z:Str,v=.str z/\R (Itf z.cps.size (gc z)) H1
end
section
variable {X:Cx}
def xr:V->Option Int->Option Int->Hp->VK->Prop:=λx lo hi H Q=>∃z:Str,x=.str z/\z.length<=sizeLine/\Q (.str (Txt.slice z lo hi)) H
theorem jV:SlR X xr:=by
 intro pins s U H x v vl vu lo hi sl Q I rx hs pl pu h;obtain⟨z,e,hz,q⟩:=h;subst e;obtain⟨t,e⟩:=rx;subst e;refine⟨"str", _,F.slot_str_getitem.lookup,typeIs_str _ _ _,?_⟩;have fin:∀(t':Tok) (k:Nat),EP X pins U Q (.str (Txt.slice z lo hi) t') { s with toks:=k }:=λt' k=>⟨.str _,H,I.tok k,⟨t',rfl⟩,q⟩
 cases pl with
 | none =>
  cases pu with
  | none=>exact wpAny_getItem_str_slice (l:=none) (u:=none) (st:=none) hs rfl (post_val_or_str ⟨QQ (Txt.slice_le z _ _) hz,fin⟩)
  | int j uj=>exact wpAny_getItem_str_slice (l:=none) (u:=some (j,uj)) (st:=none) hs rfl (post_val_or_str ⟨QQ (Txt.slice_le z _ _) hz,fin⟩)
 | int i ui =>
 cases pu with
 | none=>exact wpAny_getItem_str_slice (l:=some (i,ui)) (u:=none) (st:=none) hs rfl (post_val_or_str ⟨QQ (Txt.slice_le z _ _) hz,fin⟩)
 | int j uj=>exact wpAny_getItem_str_slice (l:=some (i,ui)) (u:=some (j,uj)) (st:=none) hs rfl (post_val_or_str ⟨QQ (Txt.slice_le z _ _) hz,fin⟩)
theorem de:∀{ys:List Str} {us:List Value},aG (ys.map V.str) us->StrsAre us ys
 | [],_,r=>by
  rw[List.map_nil]at r;cases r;exact .nil
 | y::ys,_,r=>by
  rw[QL]at r
  cases r with
  | cons r1 r2 =>
  obtain⟨t,e⟩:=r1;subst e;exact .cons y t (de r2)
def u4 (K:PySem.W.Frag):V->List V->Hp->VK->Prop:=λx vs H Q=>∃(z:Str) (l:Addr) (ys:List Str),x=.str z/\vs=[.ref l]/\SqL K H l (ys.map V.str)/\(ys.map (·.length)).sum+ys.length*z.length<=16777216/\Q (.str (Txt.join z ys)) H
theorem uk:MtR X "str.join" (u4 X.K):=by
 intro pins s U H x vs v us Q I rx rv h;obtain⟨z,l,ys,e1,e2,hl,hz,q⟩:=h;subst e1 e2;obtain⟨t,e⟩:=rx;subst e;obtain⟨u,e,ru⟩:=rv.one;subst e;cases ru;obtain⟨its,r,pl,_⟩:=I.list hl;exact join_list pl.isList (by simpa using de r) hz λt' k=>⟨.str _,H,I.tok k,⟨t',rfl⟩,q⟩
theorem qi (ys:List Str):(Txt.join Str.empty ys).cps.toList=(ys.map (·.cps.toList)).flatten:=by
 unfold Txt.join;rw[PySem.StrLaws.glued_eq_join]
 induction ys with
 | nil=>rfl
 | cons y r ih =>
 cases r with
 | nil=>simp[Str.join]
 | cons y2 r2 =>
 show (y++Str.empty++Str.join Str.empty (y2::r2)).cps.toList=_;rw[QL,List.flatten_cons,<-ih];show (y.cps++Str.empty.cps++(Str.join Str.empty (y2::r2)).cps).toList=_;simp[Str.empty]
end
inductive EqD (K:PySem.W.Frag) (H:Hp):Nat->V->V->Bool->Prop
 | flat {n:Nat} {x y:V}:bI x=true->bI y=true->EqD K H n x y (eqV x y)
 | same {n:Nat} {a:Addr}:EqD K H n (.ref a) (.ref a) true
 | lists {n:Nat} {a b:Addr} {xs ys:List V} {e:Nat->Bool}:SqL K H a xs->SqL K H b ys->xs.length=ys.length->(∀(j:Nat) x y,xs[j]?=some x->ys[j]?=some y->EqD K H n x y (e j))->a≠b ->
   EqD K H (n+1) (.ref a) (.ref b) ((List.range xs.length).all e)
 | tups {n:Nat} {a b:Addr} {xs ys:List V} {e:Nat->Bool}:SqT K H a xs->SqT K H b ys->(∀(j:Nat) x y,xs[j]?=some x->ys[j]?=some y->EqD K H n x y (e j))->a≠b ->
   EqD K H (n+1) (.ref a) (.ref b) ((List.range (min xs.length ys.length)).all e&&xs.length==ys.length)
theorem EqD.at {X:Cx} {pins:B1} {U:St} {H:Hp} {s:Shared} (I:Inv X pins U H s) {n:Nat} {x y:V} {b:Bool} (h:EqD X.K H n x y b) :
  ∀{A:Around} {u v:Value},A.units+n<cLine->aF x u->aF y v->SeqAt.EqAt A s u v b:=by
 induction h with
 | flat fx fy=>intro A u v _ rx ry;exact iD rx ry fx fy
 | same =>
  intro A u v _ rx ry;cases rx;cases ry;exact SeqAt.EqAt.same _
 | @lists n a c xs ys e ha hb hl hi hne ih =>
  intro A u v hu rx ry;cases rx;cases ry;obtain⟨its,r1,p1,_⟩:=I.list ha;obtain⟨its2,r2,p2,_⟩:=I.list hb;have l1:=r1.length;have l2:=r2.length;refine SeqAt.EqAt.of_refs hne ?_
  have q:=SeqAt.RcAt.lists (A:=A) (e:=e) p1.isList p2.isList (by rw[Qg,Qg];exact om7 hl l1 l2) (by exact om8 hu) λj h1 h2=>by
   rw[Qg]at h1 h2;have e1:xs[j]?=some xs[j]:=Qb (by exact om9 hl l1 l2 h1);have e2:ys[j]?=some ys[j]:=Qb (by exact Bz hl l1 l2 h1);obtain⟨w1,g1,rr1⟩:=r1.get e1;obtain⟨w2,g2,rr2⟩:=r2.get e2
   have g1':its.toArray[j]=w1:=by
    have:=(Qc.mp g1).2;simpa using this
   have g2':its2.toArray[j]=w2:=by
    have:=(Qc.mp g2).2;simpa using this
   rw[g1',g2'];exact ih j _ _ e1 e2 (by show A.units+1+n<cLine;exact Ak hu) rr1 rr2
  rw[Qg,<-l1]at q;exact q
 | @tups n a c xs ys e ha hb hi hne ih =>
 intro A u v hu rx ry;cases rx;cases ry;obtain⟨its,r1,p1,_⟩:=I.tuple ha;obtain⟨its2,r2,p2,_⟩:=I.tuple hb;have l1:=r1.length;have l2:=r2.length;refine SeqAt.EqAt.of_refs hne ?_
 have q:=SeqAt.RcAt.tuples (A:=A) (e:=e) (show s.heap.IsTuple a its.toArray from p1) (show s.heap.IsTuple c its2.toArray from p2) (by exact om8 hu) λj h1 h2=>by
  rw[Qg]at h1 h2;have e1:xs[j]?=some xs[j]:=Qb (by exact tY l1 h1);have e2:ys[j]?=some ys[j]:=Qb (by exact tY l2 h2);obtain⟨w1,g1,rr1⟩:=r1.get e1;obtain⟨w2,g2,rr2⟩:=r2.get e2
  have g1':its.toArray[j]=w1:=by
   have:=(Qc.mp g1).2;simpa using this
  have g2':its2.toArray[j]=w2:=by
   have:=(Qc.mp g2).2;simpa using this
  rw[g1',g2'];exact ih j _ _ e1 e2 (by show A.units+1+n<cLine;exact Ak hu) rr1 rr2
 rw[Qg,Qg,<-l1,<-l2]at q;exact q
section
variable {X:Cx}
theorem EqD.items {pins:B1} {U:St} {H:Hp} {s:Shared} (I:Inv X pins U H s) {n:Nat} {A:Around} (hu:A.units+1+n<cLine) {xs ys:List V} {its its2:List Value} (r1:aG xs its) (r2:aG ys its2) {e:Nat->Bool}
  (h:∀(j:Nat) x y,xs[j]?=some x->ys[j]?=some y->EqD X.K H n x y (e j)) (j:Nat) (h1:j<its.toArray.size) (h2:j<its2.toArray.size):SeqAt.EqAt A.in1 s its.toArray[j] its2.toArray[j] (e j):=by
 have l1:=r1.length;have l2:=r2.length;rw[Qg]at h1 h2;have e1:xs[j]?=some xs[j]:=Qb (by exact zW h1 l1);have e2:ys[j]?=some ys[j]:=Qb (by exact zW h2 l2);obtain⟨w1,g1,rr1⟩:=r1.get e1;obtain⟨w2,g2,rr2⟩:=r2.get e2
 have g1':its.toArray[j]=w1:=by
  have:=(Qc.mp g1).2;simpa using this
 have g2':its2.toArray[j]=w2:=by
  have:=(Qc.mp g2).2;simpa using this
 rw[g1',g2'];exact EqD.at I (h j _ _ e1 e2) (by show A.units+1+n<cLine;exact hu) rr1 rr2
def q_ (K:PySem.W.Frag) (neg:Bool):R2:=λx y H Q=>∃a b xs ys e,x=.ref a/\y=.ref b/\SqL K H a xs/\SqL K H b ys/\(∀(j:Nat) x y,xs[j]?=some x->ys[j]?=some y->EqD K H 8 x y (e j)) /\
 Q (.bl (if neg then !(xs.length==ys.length&&(List.range xs.length).all e) else (xs.length==ys.length&&(List.range xs.length).all e))) H
def xv (K:PySem.W.Frag) (neg:Bool):R2:=λx y H Q=>∃a b xs ys e,x=.ref a/\y=.ref b/\SqT K H a xs/\SqT K H b ys/\(∀(j:Nat) x y,xs[j]?=some x->ys[j]?=some y->EqD K H 8 x y (e j)) /\
 Q (.bl (if neg then !((List.range (min xs.length ys.length)).all e&&xs.length==ys.length) else ((List.range (min xs.length ys.length)).all e&&xs.length==ys.length))) H
theorem wn (hu:X.A.units+64<cLine):OpR X (compareOp .Eq) (q_ X.K false):=by
 intro pins s U H x y v u Q I rx ry h;obtain⟨a,b,xs,ys,e,e1,e2,ha,hb,hi,q⟩:=h;subst e1 e2;cases rx;cases ry;obtain⟨its,r1,p1,_⟩:=I.list ha;obtain⟨its2,r2,p2,_⟩:=I.list hb;have l1:=r1.length;have l2:=r2.length;by_cases hl:xs.length=ys.length
 ·refine SeqAt.eq_listAt (e:=e) p1.isList p2.isList (by rw[Qg,Qg];exact zL l1 l2 hl) (by exact rS hu) (EqD.items I (by exact wA hu) r1 r2 hi) ⟨.bl _,H,I,rfl,?_⟩;rw[Qg,<-l1];have:(xs.length==ys.length)=true:=by simpa using hl
  rw[this]at q;exact q
 refine SeqAt.eq_list_lengthsAt p1.isList p2.isList (by rw[Qg,Qg,<-l1,<-l2];simpa using hl) (by exact rS hu) ⟨.bl _,H,I,rfl,?_⟩;have:(xs.length==ys.length)=false:=by simpa using hl
 rw[this]at q;exact q
theorem kI (hu:X.A.units+64<cLine):OpR X (compareOp .NotEq) (q_ X.K true):=by
 intro pins s U H x y v u Q I rx ry h;obtain⟨a,b,xs,ys,e,e1,e2,ha,hb,hi,q⟩:=h;subst e1 e2;cases rx;cases ry;obtain⟨its,r1,p1,_⟩:=I.list ha;obtain⟨its2,r2,p2,_⟩:=I.list hb;have l1:=r1.length;have l2:=r2.length;by_cases hl:xs.length=ys.length
 ·refine SeqAt.RcNeAt.lists (e:=e) p1.isList p2.isList (by rw[Qg,Qg];exact zL l1 l2 hl) (by exact rS hu) (EqD.items I (by exact wA hu) r1 r2 hi) _ _ _ _ ⟨.bl _,H,I,rfl,?_⟩;rw[Qg,<-l1];have:(xs.length==ys.length)=true:=by simpa using hl
  rw[this]at q;exact q
 refine SeqAt.RcNeAt.lists_lengths p1.isList p2.isList (by rw[Qg,Qg,<-l1,<-l2];simpa using hl) (by exact rS hu) _ _ _ _ ⟨.bl _,H,I,rfl,?_⟩;have:(xs.length==ys.length)=false:=by simpa using hl
 rw[this]at q;exact q
theorem wj (hu:X.A.units+64<cLine):OpR X (compareOp .NotEq) (xv X.K true):=by
 intro pins s U H x y v u Q I rx ry h;obtain⟨a,b,xs,ys,e,e1,e2,ha,hb,hi,q⟩:=h;subst e1 e2;cases rx;cases ry;obtain⟨its,r1,p1,_⟩:=I.tuple ha;obtain⟨its2,r2,p2,_⟩:=I.tuple hb;have l1:=r1.length;have l2:=r2.length;refine SeqAt.RcNeAt.tuples (e:=e) (show s.heap.IsTuple a its.toArray from p1) (show s.heap.IsTuple b its2.toArray from p2) (by exact rS hu) (EqD.items I (by exact wA hu) r1 r2 hi) _ _ _ _ ⟨.bl _,H,I,rfl,?_⟩;rw[Qg,Qg,<-l1,<-l2];exact q
end
section
variable {X:Cx}
theorem dW:cO X (.builtin "isinstance") (λxs H Q=>∃x T ty b,xs=[x,.ty T]/\TyOf X.K H x ty/\PySem.W.kitOne X.K ty (.type T)=some b/\Q (.bl b) H):=by
 intro pins s U H xs us Q I r h;obtain⟨x,T,ty,b,e,t,k,q⟩:=h;subst e;obtain⟨u1,u2,e,r1,r2⟩:=i7 r;subst e;cases r2;exact qc I r1 t k λtk=>⟨.bl b,H,I.tok tk,rfl,q⟩
theorem l7 {K:PySem.W.Frag} (T:String):PySem.W.kitOne K (.type T) (.type T)=some true:=by
 unfold PySem.W.kitOne;rw[Qv (by simp)]
abbrev qI (K:PySem.W.Frag) (T:Addr) (D:List (Str × KTD.Dat)):Prop:=KTD.tabLook (KTD.datLooks λa=>K.lookup a) (λa=>K.lookup a) T D=true
theorem eI:cO X (.type "int") (λxs H Q=>∃z n,xs=[.str z]/\PySem.intText? z=some n/\z.length<=640/\Q (.int n) H):=by
 intro pins s U H xs us Q I r h;obtain⟨z,n,e,h1,h2,q⟩:=h;subst e;obtain⟨u,e,ru⟩:=dE r;subst e;obtain⟨t,e⟩:=ru;subst e;exact PySem.W.KIN.call_text h1 h2 ⟨.int n,H,I.tok _,⟨_,rfl⟩,q⟩
end
theorem Inv.turned2 {X:Cx} {pins:B1} {U:St} {H:Hp} {s:Shared} {h':Heap} {t':Nat} {e it T:Addr} {o:HO} (I:Inv X pins U H s) (k:∀b o,b≠e->b≠it->s.heap.get? b=some o->h'.get? b=some o)
  (f1:eW X pins H e) (f2:eW X pins H it) (hT:s.heap.objs.size<=T) (new:aX X.prog X.w (upd H T o) h' T o):Inv X pins U (upd H T o) { s with heap:=h',toks:=t' }:=by
 have hn:H T=none:=I.hok.fresh hT;have nT:∀b u,s.heap.get? b=some u->b≠T:=λb u q=>QI (Qy (Qo q) hT);have n1:∀b u,H b=some u->b≠e:=λb u q z=>by rw[z,f1.1]at q;cases q
 have n2:∀b u,H b=some u->b≠it:=λb u q z=>by rw[z,f2.1]at q;cases q
 have kk:∀b u,b∉[e,it]->s.heap.get? b=some u->h'.get? b=some u:=λb u hc q=>k b u (λz=>hc (by simp[z])) (λz=>hc (by simp[z])) q
 refine I.step (g':=s.gens) (d':=s.drawn) (ch:=[e,it]) (λb hb=>?_) (λb u _ _ hc q _=>kk b u hc q) (λb u _ _ hc q _=>⟨u.slots,kk b u hc q⟩) (λb u _ q n=>by rw[af (nT b u q)];exact n)
  (λb u hc q=>⟨u,kk b u hc q⟩) (λb xs q=>by rw[af (ai q hn)];exact q) (λb u xs q=>by rw[af (ai q hn)];exact q) (λb ps q=>⟨#[],by rw[af (ai q hn),q];simp⟩) (λm hm=>?_) (λb u q=>?_) I.bare
 ·have z:b=e\/b=it:=by simpa using hb
  rcases z with z|z
  ·subst z;obtain⟨_,a2,_,a4,a5,a6⟩:=f1;exact⟨a4,a2,a5,a6⟩
  subst z;obtain⟨_,a2,_,a4,a5,a6⟩:=f2;exact⟨a4,a2,a5,a6⟩
 ·obtain⟨ob,es,ep,ho,r⟩:=hm;exact⟨ob,es,ep,k _ ob (Xz f1.2.1) (Xz f2.2.1) ho,r⟩
 by_cases hb:b=T
 ·subst hb;rw[ag]at q;cases q;exact new
 rw[af hb]at q;refine(I.hok b u q).stay (λc v hc z=>k c v ?_ ?_ z) (λc z=>by rw[af (ai z hn)];exact z) λc xs z=>by rw[af (ai z hn)];exact z
 ·rcases hc with z|z
  ·rw[z];exact n1 b u q
  exact n1 c _ z
 rcases hc with z|z
 ·rw[z];exact n2 b u q
 exact n2 c _ z
noncomputable def Ite (K:PySem.W.Frag) (a:Addr):It :=
 ⟨λi H=>∃xs x,SqL K H a xs/\xs[i]?=some x,λi H x H'=>∃T v,H T=none/\x=.ref T/\H'=upd H T (.tup [.int (i:Nat),v])/\∀xs,SqL K H a xs->xs[i]?=some v,λi H=>∃xs,SqL K H a xs/\xs.length<=i⟩
theorem pq {P:Program} {w:World} {K:PySem.W.Frag} {elts:List Expr} {k:Nat} {pos:Pos} (a e it:Addr) (hne:e≠it) :
  Turn P w K (.Tuple elts k pos) (Ite K a) [e,it] e (λi h=>(∃old,IsEnum h e it (i:Nat) old)/\h.IsListIter it a i) where
 mem:=by simp
 obj:=λi h st b hb=>by
  obtain⟨⟨old,he⟩,o,ho,hc,hd⟩:=st;have z:b=e\/b=it:=by simpa using hb
  rcases z with z|z
  ·subst z
   exact⟨_,he,λv q=>by
    have q':Data.fields _=Data.cell v:=q
    cases q'⟩
  subst z;exact⟨o,ho,λv q=>by rw[hd]at q;cases q⟩
 keep:=λi h h' st kk=>by
  obtain⟨⟨old,he⟩,hl⟩:=st;exact⟨⟨old,kk e (by simp) _ he⟩,hl.at λo q=>kk it (by simp) o q⟩
 item:=by
  intro X hP hw hK hc i pins s U H E I hf st hg;subst hP hw hK;obtain⟨xs,x,hq,hx⟩:=hg;obtain⟨its,rv,p,hz⟩:=I.list hq;obtain⟨u,hu,ru⟩:=rv.get hx;obtain⟨⟨old,he⟩,hl⟩:=st;have f1:=hf e (by simp);have f2:=hf it (by simp);refine wpAny_pyNext_enum_item he hl p.isList (x:=u) (by simpa using hu) hne λh1 a1 a2 a3 a4 a5=>⟨_,rfl,?_⟩;refine wpAny_letOwnedTupleGo_enum a1 λh2 b1 b2=>?_
  have nTe:s.heap.objs.size≠e:=λz=>by
   have q:=Qo (show s.heap.get? e=some _ from he);rw[<-z]at q;exact Nat.lt_irrefl _ q
  have keep2:∀b o,b≠e->b≠it->s.heap.get? b=some o->h2.get? b=some o:=λb o n1 n2 q=>b2.extBut b o n1 (a5 b o n1 n2 q);have tup2:h2.get? s.heap.objs.size=some { cls:=.type "tuple", data:=.seq #[.int i s.toks,u] }:=b2.extBut _ _ nTe a3
  have I2:Inv X pins U (upd H s.heap.objs.size (.tup [.int (i:Nat),x])) { s with heap:=h2,toks:=s.toks+1 } :=
   I.turned2 keep2 f1 f2 (Qh _) ⟨(by show 2<=sizeLine;decide),[.int i s.toks,u],.cons ⟨_,rfl⟩ (.cons ru .nil),⟨_,tup2,rfl,_,rfl⟩⟩
  refine⟨.ref s.heap.objs.size,_,I2,rfl,⟨s.heap.objs.size,x,I.hok.fresh (Qh _),rfl,rfl,λys hy=>by rw[I.list_inj hy hq];exact hx⟩,⟨⟨u,?_⟩,(a2.extBut b2.extBut (Xz hne))⟩,λb hb=>?_⟩
  ·have q:IsEnum h2 e it ((i:Int)+1) u:=b1;have c:(((i+1:Nat):Nat):Int)=(i:Int)+1:=by omega
   rw[c];exact q
  have z:b=e\/b=it:=by simpa using hb
  have nT:b≠s.heap.objs.size:=by
   rcases z with z|z
   ·rw[z];exact Xz nTe
   rw[z];obtain⟨o,ho,_⟩:=hl;exact QI (Qo ho)
  rw[af nT];exact(hf b hb).1
 done:=by
  intro X hP hw hK hc i pins s U H E I hf st hg;subst hP hw hK;obtain⟨xs,hq,hx⟩:=hg;obtain⟨its,rv,p,hz⟩:=I.list hq;obtain⟨⟨old,he⟩,hl⟩:=st;obtain⟨f0,f1,f2,f3,f4,f5⟩:=hf it (by simp);have hlen:=rv.length;exact wpAny_pyNext_enum_end (I.ok.hd hc) he hl p.isList (by simp;exact om4 hx hlen) λh' eb=>⟨rfl,I.turned (t':=s.toks) (λb o hb q=>eb b o hb q) f0 f1 f3 f4 f5⟩
 self:=λ_ _ _ _ _ st h=>by
  obtain⟨⟨old,he⟩,_⟩:=st;exact wpAny_pyIter_enum he h
section
variable {X:Cx} {elts:List Expr} {k:Nat} {tpos:Pos}
def Az (K:PySem.W.Frag) (ta:TA):TI:=λU H R=>ta U H λvs H1=>∃a,vs=[.ref a]/\(∃xs,SqL K H1 a xs)/\R (Ite K a) H1
theorem kB {a:Expr} {ta:TA} {p pos:Pos} (hg:Gl X "enumerate") (hm:X.mg "enumerate" = none) (ha:PA X [a] ta) (hs:starEach [a] X.env=[(false,eval a X.env)]:=by rfl):PI X (.Tuple elts k tpos) (.Call (.Name "enumerate" p) [a] [] pos) (Az X.K ta):=by
 intro pins s U H R I h;refine Call_ (dy I hg hm boot_enumerate (Xf (thn (ha pos pins s U H _ I h) λus s1 ⟨vs,H1,I1,r1,q1⟩=>?_) hs rfl));obtain⟨l,e,⟨xs,hq⟩,q⟩:=q1;subst e
 cases r1 with
 | cons r rr =>
 cases rr;cases r;obtain⟨its,rv,pl,hz⟩:=I1.list hq;refine call_enumerate_list pl.isList λh' b1 b2 b3 b4=>?_;refine wpAny_pyIter_enum b1 ?_;have I2:Inv X pins U H1 { s1 with heap:=h' }:=I1.kept (t':=s1.toks) b4;refine⟨s1.heap.objs.size+1,[s1.heap.objs.size+1,s1.heap.objs.size],_,_,H1,rfl,I2,pq l (s1.heap.objs.size+1) s1.heap.objs.size (by show @Ne Nat _ _;exact om5),⟨⟨_,b1⟩,b2⟩,λb hb=>?_,q⟩;have z:b=s1.heap.objs.size+1\/b=s1.heap.objs.size:=by simpa using hb
 have hle:s1.heap.objs.size<=b:=by
  rcases z with z|z
  ·rw[z];exact Nat.le_succ _
  rw[z];exact Qh _
 exact I1.fpOk hle (I1.hok.fresh hle)
end
theorem iB {K:PySem.W.Frag} {a:Addr} {xs:List V} {g:TG} {tb:TS} {D:Ends} {U:St} {H:Hp} (Pv:Nat->St->Hp->Prop) (h0:Pv 0 U H) (hl:∀i U H,i<=xs.length->Pv i U H->SqL K H a xs)
  (hs:∀i x U H T,xs[i]?=some x->Pv i U H->H T=none->g (.ref T) U (upd H T (.tup [.int (i:Nat),x])) λσ2 H2=>tb { D with nx:=Pv (i+1),ct:=Pv (i+1),bk:=D.nx } σ2 H2) (hd:∀U H,Pv xs.length U H->D.nx U H) :
  ∃W:Nat->Nat->St->Hp->Prop,(∃m,W 0 m U H)/\∀i m U H,W i m U H ->
   ((Ite K a).stop i H/\D.nx U H)\/((Ite K a).go i H/\∃N:St->Hp->Prop,(∀σ' H',N σ' H'->∃m',m'<m/\W (i+1) m' σ' H')/\∀x H',(Ite K a).yld i H x H'->g x U H' λσ2 H2=>tb { D with nx:=N,ct:=N,bk:=D.nx } σ2 H2):=by
 refine⟨λi m U H=>m=xs.length-i/\i<=xs.length/\Pv i U H,⟨xs.length,by simp,Q5 _,h0⟩,?_⟩;rintro i m U H ⟨rfl,hi,p⟩;have q:=hl i U H hi p;by_cases hlt:i<xs.length
 ·refine .inr ⟨⟨xs,xs[i],q,by simp[hlt]⟩,Pv (i+1),λσ' H' p'=>⟨xs.length-(i+1),by exact om6 hlt,rfl,hlt,p'⟩,λx H' y=>?_⟩;obtain⟨T,v,hT,ex,eH,y⟩:=y;subst ex eH;exact hs i v U H T (y xs q) p hT
 have e:i=xs.length:=by exact om0 hi hlt
 subst e;exact .inl ⟨⟨xs,q,Qh _⟩,hd U H p⟩
structure Fn (P:Program) (w:World) (K:PySem.W.Frag) (mg:B2) (base:Heap) (x:Str) (ps:List Str) (k:Nat) (sp:Sp):Prop where
 ex:∃f fd,FnOk P w K mg base CX0 k f fd ps sp/\mg x=some (.ref f)/\PySem.W.keepIn K (.ref f)=true/\dY K fd ps []
section
variable {X:Cx}
theorem xB {x:Str} {ps:List Str} {k:Nat} {sp:Sp} {e:Expr} {es:List Expr} {t:TA} {p pos:Pos} (F:Fn X.prog X.w X.K X.mg X.base x ps k sp) (hr:Room k X.A) (hg:Gl X x) (ha:PA X (e::es) t)
  (hdb:(x==("__debug__" : Str))=false:=by decide) (he:starEach (e::es) X.env=(false,eval e X.env)::starEach es X.env:=by rfl) (hpl:(backTo pos (starEach es X.env)).any (·.1)=false:=by rfl) :
  PE X (.Call (.Name x p) (e::es) [] pos) (ja sp [] E0 t):=by
 obtain⟨f,fd,G,hm,hk,hb⟩:=F.ex;exact oC G hr hg hm hk hb .nil u8 ha hdb he hpl
theorem aK {x:Str} {ps:List Str} {k j:Nat} {sp:Sp} {e:Expr} {es:List Expr} {t:TA} {p pos:Pos} (F:Fn X.prog X.w X.K X.mg X.base x ps k sp) (hr:Room j X.A) (ha:PA X (e::es) t) (hk:k<=j:=by first|decide|omega) (hg:Gl X x:=by rfl) (hdb:(x==("__debug__" : Str))=false:=by decide) (he:starEach (e::es) X.env=(false,eval e X.env)::starEach es X.env:=by rfl) (hpl:(backTo pos (starEach es X.env)).any (·.1)=false:=by rfl):PE X (.Call (.Name x p) (e::es) [] pos) (ja sp [] E0 t):=xB F (hr.mono hk) hg ha hdb he hpl
end
section
variable {U:St} {H:Hp} {Q:VK} {K:PySem.W.Frag}
variable {v x y:V}
theorem ap {i:Nat} (h:U[i]?=some (some v)) (q:Q v H):cV i U H Q:=⟨v,h,q⟩
theorem i_c (q:Q v H):tC v U H Q:=q
variable {ta tb te to ti tl:TE}
theorem bY {r:R2} (q:ta U H λx H1=>tb U H1 λy H2=>r x y H2 Q):tOp r ta tb U H Q:=q
variable {i j:Int}
theorem i_rI0 {g:Int->Int->V} (q:Q (g i j) H):rI0 g (.int i) (.int j) H Q:=⟨i,j,rfl,rfl,q⟩
theorem i_rI {C:Int->Int->Prop} {g:Int->Int->V} (c:C i j) (q:Q (g i j) H):rI C g (.int i) (.int j) H Q:=⟨i,j,rfl,rfl,c,q⟩
theorem i_eq (h:tL x y=true) (q:Q (.bl (decide (x=y))) H):rEq x y H Q:=⟨h,q⟩
theorem i_ne (h:tL x y=true) (q:Q (.bl (!decide (x=y))) H):rNe x y H Q:=⟨h,q⟩
theorem i_test {t:TE} {R:Bool->Hp->Prop} (q:t U H λx H'=>∃k,x=.bl k/\R k H'):gQ t U H R:=q
theorem i_tB {t:TE} {R:Bool->Hp->Prop} (q:t U H λx H'=>∃k,x=.bl k/\R k H'):tB t U H R:=q
theorem i_and {t u:TT} {R:Bool->Hp->Prop} (q:t U H λc H1=>if c=true then u U H1 R else R false H1):vW t u U H R:=q
theorem i_or {t u:TT} {R:Bool->Hp->Prop} (q:t U H λc H1=>if c=true then R true H1 else u U H1 R):tOr t u U H R:=q
theorem i_not {t:TT} {R:Bool->Hp->Prop} (q:t U H λc H1=>R (!c) H1):xa t U H R:=q
theorem i_andV (q:ta U H λx H1=>∃c,x=.bl c/\if c=true then tb U H1 Q else Q (.bl false) H1):uS ta tb U H Q:=q
theorem i_orV (q:ta U H λx H1=>∃c,x=.bl c/\if c=true then Q (.bl true) H1 else tb U H1 Q):AK ta tb U H Q:=q
theorem i_notV (q:ta U H λx H1=>∃c,x=.bl c/\Q (.bl (!c)) H1):uO ta U H Q:=q
theorem i_ifE {t:TT} (q:t U H λc H1=>if c=true then ta U H1 Q else tb U H1 Q):tIf t ta tb U H Q:=q
theorem bv {R:List V->Hp->Prop} (q:R [] H):pB U H R:=q
variable {tr t:TA}
theorem bg {R:List V->Hp->Prop} (q:te U H λx H1=>tr U H1 λxs H2=>R (x::xs) H2):gR te tr U H R:=q
theorem i_call {sp:Sp} {E:XK} (q:t U H λvs H1=>sp vs H1 Q E):ja sp [] E t U H Q:=by
 show t U H λvs H1=>sp (vs++[]) H1 Q E;simpa only[Xa] using q
theorem i_cb {r:List V->Hp->VK->Prop} (q:t U H λvs H1=>r vs H1 Q):tCB r t U H Q:=q
theorem i_tup (q:t U H λxs H1=>xs.length<=sizeLine/\∀p,H1 p=none->Q (.ref p) (upd H1 p (.tup xs))):w9 t U H Q:=q
theorem i_lst (q:t U H λxs H1=>xs.length<=sizeLine/\∀p,H1 p=none->Q (.ref p) (upd H1 p (.lst xs))):tJ t U H Q:=q
theorem i_bm {T:String} {r:V->List V->Hp->VK->Prop} (q:to U H λx H1=>tyV K T x H1/\t U H1 λxs H2=>r x xs H2 Q):tBM K T r to t U H Q:=q
theorem i_sl {r:V->Option Int->Option Int->Hp->VK->Prop} {tl th:TO} (q:te U H λx H1=>tl U H1 λl H2=>th U H2 λu H3=>r x l u H3 Q):tSl r te tl th U H Q:=q
theorem i_nopart {R:Option Int->Hp->Prop} (q:R none H):n_ U H R:=q
theorem i_part {t:TE} {R:Option Int->Hp->Prop} (q:t U H λx H1=>∃i,x=.int i/\R (some i) H1):uN t U H R:=q
variable {xs:List V}
theorem bx {p:Addr} {v:V} (h:SqL K H p xs) (e:atI xs i=some v) (q:Q v H):lP K (.ref p) (.int i) H Q:=⟨p,xs,i,v,rfl,rfl,h,e,q⟩
theorem i_ixT {p:Addr} (h:H p=some (.tup xs)) (e:atI xs i=some v) (q:Q v H):pG K (.ref p) (.int i) H Q:=⟨p,xs,i,v,rfl,rfl,SqT.of h,e,q⟩
theorem mf {z:Str} {c:Nat} (hz:z.length<=sizeLine) (e:atI z.cps.toList i=some c) (q:Q (.str ⟨#[c]⟩) H):tO (.str z) (.int i) H Q:=⟨z,i,c,rfl,rfl,hz,e,q⟩
variable {D:Ends}
theorem s_seq {t u:TS} (q:t { D with nx:=u D } U H):tI t u D U H:=q
theorem s_asg {g:TG} (q:te U H λx H1=>g x U H1 D.nx):qN te g D U H:=q
theorem aw {i:Nat} {R:St->Hp->Prop} (q:R (U.set i (some v)) H):cT i v U H R:=q
theorem s_drop (q:te U H λ_ H1=>D.nx U H1):uQ te D U H:=q
theorem s_ret (q:te U H D.rt):w_ te D U H:=q
theorem s_next (q:D.nx U H):uP D U H:=q
theorem s_if {c:TT} {t u:TS} (q:c U H λb H1=>if b=true then t D U H1 else u D U H1):xf c t u D U H:=q
theorem s_sub {t:uF} {R:St->Hp->Prop} (q:to U H λo H1=>ti U H1 λi H2=>t o i v H2 λH3=>R U H3):AA to ti t v U H R:=q
theorem s_setL {p:Addr} {k:Int} {j:Nat} {R:Hp->Prop} (h:H p=some (.lst xs)) (e:ixN xs.length k=some j) (q:R (upd H p (.lst (xs.set j v)))):uZ (.ref p) (.int k) v H R:=⟨p,xs,k,j,rfl,rfl,h,e,q⟩
theorem s_for {wi:TI} {g:TG} {tb:TS} (q:wi U H λJ H1=>∃W:Nat->Nat->St->Hp->Prop,(∃m,W 0 m U H1)/\∀i m U H,W i m U H ->
 (J.stop i H/\D.nx U H)\/(J.go i H/\∃N:St->Hp->Prop,(∀σ' H',N σ' H'->∃m',m'<m/\W (i+1) m' σ' H')/\∀x H',J.yld i H x H'->g x U H' λσ2 H2=>tb { D with nx:=N,ct:=N,bk:=D.nx } σ2 H2)):xh wi g tb D U H:=q
theorem s_rng1 {ta:TA} {R:It->Hp->Prop} (q:ta U H λvs H1=>∃j:Int,vs=[.int j]/\-(2 ^ 62)<=j/\j<2 ^ 62/\R (Itr 0 j.toNat) H1):vI ta U H R:=q
theorem s_list {R:It->Hp->Prop} (q:tl U H λx H1=>∃a,x=.ref a/\(∃xs,SqL K H1 a xs)/\R (Itl K a) H1):ml K tl U H R:=q
theorem s_str {R:It->Hp->Prop} (q:tl U H λv H1=>∃z:Str,v=.str z/\R (Itf z.cps.size (gc z)) H1):BB tl U H R:=q
theorem cG {wi:TI} {g:TG} {tt:TT} {f:St->St} (q:wi U H λJ H1=>∀D,H1 D=none->∃W:Nat->Nat->Hp->List V->Prop,(∃m,W 0 m (upd H1 D (.lst [])) []) /\
 ∀i m H ys,W i m H ys->H D=some (.lst ys)/\((J.stop i H/\Q (.ref D) H)\/(J.go i H/\∀x H',J.yld i H x H'->g x (f U) H' λσ2 H2=>wk (f U) σ2/\tt σ2 H2 λb H3 =>
  if b=true then te σ2 H3 λv H4=>H4 D=some (.lst ys)/\ys.length<sizeLine/\∃m',m'<m/\W (i+1) m' (upd H4 D (.lst (ys++[v]))) (ys++[v])
  else ∃m',m'<m/\W (i+1) m' H3 ys))):i_ wi g tt te f U H Q:=q
end
def cs (Pv:Nat->Hp->List V->Prop) (n:Nat) (D:Addr) (i:Nat) (ys:List V):VK:=λv H4=>H4 D=some (.lst ys)/\ys.length<sizeLine/\∃m',m'<n-i/\(m'=n-(i+1)/\i+1<=n/\Pv (i+1) (upd H4 D (.lst (ys++[v]))) (ys++[v]))
theorem cs.mk {Pv:Nat->Hp->List V->Prop} {n:Nat} {D:Addr} {i:Nat} {ys:List V} {v:V} {H4:Hp} (hd:H4 D=some (.lst ys)) (hi:i<n) (hl:ys.length<sizeLine) (p:Pv (i+1) (upd H4 D (.lst (ys++[v]))) (ys++[v])):cs Pv n D i ys v H4 :=
 ⟨hd,hl,n-(i+1),by exact om6 hi,rfl,hi,p⟩
section
variable {K:PySem.W.Frag} {g:TG} {te:TE} {σ0:St} {QD:Hp->Prop} {H1:Hp} {D:Addr}
theorem dA {lo:Int} {n:Nat} (Pv:Nat->Hp->List V->Prop) (h0:Pv 0 (upd H1 D (.lst [])) []) (hD:∀i H ys,Pv i H ys->H D=some (.lst ys))
  (hs:∀i H ys,i<n->Pv i H ys->g (.int (lo+i)) σ0 H λσ2 H2=>wk σ0 σ2/\jP σ2 H2 λb H3=>if b=true then te σ2 H3 (cs Pv n D i ys) else ∃m',m'<n-i/\(m'=n-(i+1)/\i+1<=n/\Pv (i+1) H3 ys)) (hd:∀H ys,Pv n H ys->QD H) :
  ∃W:Nat->Nat->Hp->List V->Prop,(∃m,W 0 m (upd H1 D (.lst [])) [])/\∀i m H ys,W i m H ys->H D=some (.lst ys)/\(((Itr lo n).stop i H/\QD H)\/((Itr lo n).go i H/\∀x H',(Itr lo n).yld i H x H'->g x σ0 H' λσ2 H2=>wk σ0 σ2/\jP σ2 H2 λb H3 =>
   if b=true then te σ2 H3 λv H4=>H4 D=some (.lst ys)/\ys.length<sizeLine/\∃m',m'<m/\W (i+1) m' (upd H4 D (.lst (ys++[v]))) (ys++[v]) else ∃m',m'<m/\W (i+1) m' H3 ys)):=by
 refine⟨λi m H ys=>m=n-i/\i<=n/\Pv i H ys,⟨n,by simp,Q5 _,h0⟩,?_⟩;rintro i m H ys ⟨rfl,hi,p⟩;refine⟨hD i H ys p,?_⟩;by_cases hlt:i<n
 ·refine .inr ⟨hlt,λx H' y=>?_⟩;obtain⟨e,y⟩:=y;subst e y;exact hs i _ ys hlt p
 have e:i=n:=by exact om0 hi hlt
 subst e;exact .inl ⟨Qh _,hd H ys p⟩
theorem c8 {a:Addr} {xs:List V} (Pv:Nat->Hp->List V->Prop) (h0:Pv 0 (upd H1 D (.lst [])) []) (hD:∀i H ys,Pv i H ys->H D=some (.lst ys)/\SqL K H a xs)
  (hs:∀i x H ys,xs[i]?=some x->Pv i H ys->g x σ0 H λσ2 H2=>wk σ0 σ2/\jP σ2 H2 λb H3=>if b=true then te σ2 H3 (cs Pv xs.length D i ys) else ∃m',m'<xs.length-i/\(m'=xs.length-(i+1)/\i+1<=xs.length/\Pv (i+1) H3 ys)) (hd:∀H ys,Pv xs.length H ys->QD H) :
  ∃W:Nat->Nat->Hp->List V->Prop,(∃m,W 0 m (upd H1 D (.lst [])) [])/\∀i m H ys,W i m H ys->H D=some (.lst ys)/\(((Itl K a).stop i H/\QD H)\/((Itl K a).go i H/\∀x H',(Itl K a).yld i H x H'->g x σ0 H' λσ2 H2=>wk σ0 σ2/\jP σ2 H2 λb H3 =>
   if b=true then te σ2 H3 λv H4=>H4 D=some (.lst ys)/\ys.length<sizeLine/\∃m',m'<m/\W (i+1) m' (upd H4 D (.lst (ys++[v]))) (ys++[v]) else ∃m',m'<m/\W (i+1) m' H3 ys)):=by
 refine⟨λi m H ys=>m=xs.length-i/\i<=xs.length/\Pv i H ys,⟨xs.length,by simp,Q5 _,h0⟩,?_⟩;rintro i m H ys ⟨rfl,hi,p⟩;obtain⟨d1,d2⟩:=hD i H ys p;refine⟨d1,?_⟩;by_cases hlt:i<xs.length
 ·refine .inr ⟨⟨xs,xs[i],d2,by simp[hlt]⟩,λx H' y=>?_⟩;obtain⟨e,y⟩:=y;subst e;exact hs i x _ ys (y xs d2) p
 have e:i=xs.length:=by exact om0 hi hlt
 subst e;exact .inl ⟨⟨xs,d2,Qh _⟩,hd H ys p⟩
end
section
variable {H:Hp} {Q:VK} {K:PySem.W.Frag}
theorem oX {z:Str} {lo hi:Option Int} (h:z.length<=sizeLine) (q:Q (.str (Txt.slice z lo hi)) H):xr (.str z) lo hi H Q:=⟨z,rfl,h,q⟩
variable {xs zs:List V} {a l b p:Addr}
theorem sH {lo hi:Option Int} (h:SqL K H a xs) (q:∀p,H p=none->Q (.ref p) (upd H p (.lst (iX xs lo hi)))):xt K (.ref a) lo hi H Q:=⟨a,xs,rfl,h,q⟩
theorem jy (h1:H l=some (.lst xs)) (h2:H b=some (.lst zs)) (hz:xs.length+zs.length<=sizeLine) (q:∀p,H p=none->Q (.ref p) (upd H p (.lst (xs++zs)))):xw (.ref l) (.ref b) H Q:=⟨l,b,xs,zs,rfl,rfl,h1,h2,hz,q⟩
theorem fE {y:V} (h:H l=some (.lst xs)) (hz:xs.length<sizeLine) (q:Q .non (upd H l (.lst (xs++[y])))):oA (.ref l) [y] H Q:=⟨l,xs,y,rfl,rfl,h,hz,q⟩
theorem i_tyL (h:H p=some (.lst xs)):tyV K "list" (.ref p) H:=.inl ⟨rfl,xs,SqL.of h⟩
theorem Ax {z:Str}:tyV K "str" (.str z) H:=rfl
theorem wN {z:Str} {ys:List Str} (h:H l=some (.lst (ys.map V.str))) (hz:(ys.map (·.length)).sum+ys.length*z.length<=16777216) (q:Q (.str (Txt.join z ys)) H):u4 K (.str z) [.ref l] H Q:=⟨z,l,ys,rfl,rfl,SqL.of h,hz,q⟩
end
theorem aq {H:Hp} {p:Addr} {o:HO} (hp:H p=none):ax H (upd H p o):=λb u e=>by rw[af (ai e hp)];exact e
end L2
namespace L2
open PySem
section
variable {U:St} {H:Hp} {D:Ends}
theorem s_seqT {t u:TS} (q:let D':Ends:={ D with nx:=u D };t D' U H):tI t u D U H:=q
theorem s_nameT {i:Nat} {v:V} {R:St->Hp->Prop} (q:let σ':St:=U.set i (some v);R σ' H):cT i v U H R:=q
end
variable {H:Hp}
theorem i_yes {U:St} {R:Bool->Hp->Prop} (q:R true H):jP U H R:=q
theorem i_dget {td ty:TE} {U:St} {Q:VK} (q:td U H λx H1=>ty U H1 λy H2=>∃a v,x=.ref a/\cq H2 a y (some v)/\Q v H2):uR td ty U H Q:=q
theorem i_un {r:V->Hp->VK->Prop} {ta:TE} {U:St} {Q:VK} (q:ta U H λx H1=>r x H1 Q):tUn r ta U H Q:=q
theorem i_rU {g:Int->V} {i:Int} {Q:VK} (q:Q (g i) H):rU g (.int i) H Q:=⟨i,rfl,q⟩
end L2
namespace L2
open PySem PySem.Spec PyProof.Rows
def bL (H:Hp) (c:Addr):Hp:=λb=>if b=c then none else H b
variable {c b f cell fa a T:Addr} {H H':Hp}
theorem cA:bL H c c=none:=Qv rfl
theorem bt (h:b≠c):bL H c b=H b:=Qz h
theorem qm {o:HO} (h:bL H c b=some o):b≠c/\H b=some o:=by
 by_cases e:b=c
 ·subst e;rw[cA]at h;cases h
 rw[bt e]at h;exact⟨e,h⟩
def cQ (o:Obj):HO:=.frz o (.ext λ_=>True)
section
variable {P:Program} {w:World} {H H1:Hp} {h h1:Heap} {c:Addr} {o:Obj} {fs ex:B3}
theorem uE {H:Hp} (e:h.get? c=some o):aX P w H h c (cQ o):=⟨e,trivial,⟨o,e⟩,λ_ _ _ _=>trivial⟩
theorem HOk.drop (x:HOk P w H h) (hc:H c=some (cQ o)):HOk P w (bL H c) h:=λb u e=>by
 obtain⟨_,e⟩:=qm e;refine(x b u e).stay (λ_ _ _ q=>q) (λd q=>?_) λd xs q=>?_
 ·rw[bt];exact q;intro z;subst z;rw[hc]at q;cases q
 rw[bt];exact q;intro z;subst z;rw[hc]at q;cases q
theorem HOk.take (x:HOk P w H h) (hc:H c=none) (e:h.get? c=some o):HOk P w (upd H c (cQ o)) h:=λb u q=>by
 by_cases hb:b=c
 ·subst hb;rw[ag]at q;cases q;exact uE e
 rw[af hb]at q;refine(x b u q).stay (λ_ _ _ r=>r) (λd r=>?_) λd xs r=>?_
 ·rw[af (ai r hc)];exact r
 rw[af (ai r hc)];exact r
theorem Un.back (u:Un fs ex (bL H c) H1 h h1) (hc:H c=some (cQ o)) (e:h.get? c=some o) (nf:c∉fs) (nx:c∉ex):Un fs ex H (upd H1 c (cQ o)) h h1/\H1 c=none/\h1.get? c=some o:=by
 have h1c:=u.free c o e cA nx;have e1:=u.keep c o e cA nf nx;have ne:∀{b v},H b=some v->v≠cQ o->b≠c:=λq n z=>by subst z;rw[hc]at q;cases q;exact n rfl
 have nn:∀{b},H b=none->b≠c:=λq z=>by subst z;rw[hc]at q;cases q
 refine⟨⟨λb ob q n hb hx=>?_,λb ob q n hb hx=>?_,λb ob q n hx=>?_,λb ob q hx=>u.there b ob q hx,λb xs q=>?_,λb ob v q=>?_,λb ps q=>?_⟩,h1c,e1⟩
 ·exact u.keep b ob q (by rw[bt (nn n)];exact n) hb hx
 ·exact u.slot b ob q (by rw[bt (nn n)];exact n) hb hx
 ·rw[af (nn n)];exact u.free b ob q (by rw[bt (nn n)];exact n) hx
 ·have nb:=ne q (λz=>by cases z);rw[af nb];exact u.tups b xs (by rw[bt nb];exact q)
 ·by_cases nb:b=c
  ·subst nb;rw[hc]at q;cases q;exact ag
  rw[af nb];exact u.frzs b ob v (by rw[bt nb];exact q)
 have nb:=ne q (λz=>by cases z);rw[af nb];exact u.tbls b ps (by rw[bt nb];exact q)
theorem Un.out (u:Un fs ex (upd H c (cQ o)) H1 h h1) (k1:HOk P w H1 h1) (hc:H c=none) (e:h.get? c=some o) (nf:c∉fs):Un fs ex H (bL H1 c) h h1/\HOk P w (bL H1 c) h1/\H1 c=some (cQ o):=by
 have h1c:=u.frzs c o _ ag;have e1:=(k1 c _ h1c).1;refine⟨⟨λb ob q n hb hx=>?_,λb ob q n hb hx=>?_,λb ob q n hx=>?_,λb ob q hx=>u.there b ob q hx,λb xs q=>?_,λb ob v q=>?_,λb ps q=>?_⟩,k1.drop h1c,h1c⟩
 ·by_cases nb:b=c
  ·subst nb;rw[e]at q;cases q;exact e1
  exact u.keep b ob q (by rw[af nb];exact n) hb hx
 ·have nb:b≠c:=λz=>by subst z;exact nf hb
  exact u.slot b ob q (by rw[af nb];exact n) hb hx
 ·by_cases nb:b=c
  ·subst nb;exact cA
  rw[bt nb];exact u.free b ob q (by rw[af nb];exact n) hx
 ·have nb:=ai q hc;rw[bt nb];exact u.tups b xs (by rw[af nb];exact q)
 ·have nb:=ai q hc;rw[bt nb];exact u.frzs b ob v (by rw[af nb];exact q)
 have nb:=ai q hc;rw[bt nb];exact u.tbls b ps (by rw[af nb];exact q)
end
structure Lm where
 qual:Str
 params:Arguments
 body:Expr
 scope:Scope
 pos:Pos
def gn (c:Addr) (qual:Str):HO:=.ext λh=>h.CodeRec (.ref c) qual
def f_ (f:Addr) (l:Lm) (cl:List (Str × Addr)) (c:Addr):HO:=.ext λh=>∃pm ctv,h.get? f=some (PySem.W.kla_obj "<lambda>" l.qual l.params l.body l.scope cl pm c ctv)
variable {qual y z x n:Str} {h h1:Heap}
theorem s_ {P:Program} {w:World} (r:h.CodeRec (.ref c) qual):aX P w H h c (gn c qual):=by
 obtain⟨d,oc,vs,t,e1,e2,r2⟩:=id r;cases e1;refine⟨r,⟨oc,e2⟩,λh1 h2 p k=>?_⟩;obtain⟨d,oc,vs,t,e1,e2,r2⟩:=p;cases e1;exact⟨_,oc,vs,t,rfl,k _ e2,r2⟩
variable {pm ctv u uy:Value} {cl:List (Str × Addr)}
theorem oQ {P:Program} {w:World} {l:Lm} (e:h.get? f=some (PySem.W.kla_obj "<lambda>" l.qual l.params l.body l.scope cl pm c ctv)):aX P w H h f (f_ f l cl c) :=
 ⟨⟨pm,ctv,e⟩,⟨_,e⟩,λ_ _ ⟨pm,ctv,q⟩ k=>⟨pm,ctv,k _ q⟩⟩
def cU (l:Lm) (c:Addr):Array Value:=#[rawInt l.pos.line,rawInt l.pos.col,.ref c]
def cP (T:Addr) (l:Lm) (H:Hp):Prop:=H T=some (.tbl #[])\/∃c,H T=some (.tbl (cU l c))/\H c=some (gn c l.qual)
structure Made (T:Addr) (l:Lm) (cl:List (Str × Addr)) (H:Hp) (f c:Addr) (H':Hp):Prop where
 new:H f=none
 fn:H' f=some (f_ f l cl c)
 code:H' c=some (gn c l.qual)
 tab:H' T=some (.tbl (cU l c))
 old:∀b o,H b=some o->b≠T->H' b=some o
def eJ (base:Heap) (mg:B2):Prop:=∃bm ob,mg "__builtins__" = some (.ref bm)/\bm≠builtinsNs/\bm≠mainGlobals/\base.get? bm=some ob/\ob.cls=.type "module" /\ ob.dict=some builtinsNs/\ob.data=.plain
def xb (T:Addr) (l:Lm) (cl:List (Str × Addr)):TE:=λ_ H Q=>cP T l H/\∀f c H',Made T l cl H f c H'->Q (.ref f) H'
section
variable {X:Cx}
theorem wc {params:Arguments} {body:Expr} {scope:Scope} {pos:Pos} {cc T:Addr} {cl:List (Str × Addr)} (hcode:X.env.code=.ref cc) (C:PySem.W.CodeHd X.base cc T) (B:eJ X.base X.mg) (hcl:closureFor scope X.env=pure cl) (hdef:defaultsOf params X.env=([],[]):=by rfl) :
  PE X (.Lambda params body scope pos) (xb T ⟨X.env.qual ++ "<lambda>", params,body,scope,pos⟩ cl):=by
 intro pins s U H Q I h;obtain⟨tb,q⟩:=h;refine PySem.W.kla_eval hdef ?_;have hg:s.heap.Ns mainGlobals X.mg:=I.mod.glob.keeps I.bk;have hT:∃ps,H T=some (.tbl ps):=by rcases tb with e|⟨c,e,_⟩ <;> exact⟨_,e⟩
 obtain⟨ps0,hps0⟩:=hT
 have bne:∀{b ob},X.base.get? b=some ob->b≠T:=λe z=>by
  subst z;rw[(I.bs _ _ e).2]at hps0;cases hps0
 have hgP:mainGlobals≠T:=by
  obtain⟨o,es,ep,e,_⟩:=I.mod.glob;exact bne e
 obtain⟨bm,ob,b1,b2,b3,b4,b5,b6,b7⟩:=B;have hB:s.heap.BuiltinsAt X.mg T:=⟨bm,ob,b1,b2,b3,bne b4,I.bk _ _ b4,b5,b6,b7⟩;have CH:=C.keeps I.bk;rcases tb with e|⟨c,e,hc⟩
 ·have hP:s.heap.get? T=some (PySem.W.tabObj #[]):=I.hok T _ e;refine PySem.W.kla_makeFunction (mg:=X.mg) hcl I.ok.glob hg hcode CH hP trivial rfl hgP hB λc' ctv h' tk hx hge hlt hrec htb=>?_;have hsz:s.heap.objs.size<=h'.objs.size:=Nat.le_of_lt (Nat.lt_of_le_of_lt hge hlt);have nT:T<s.heap.objs.size:=Qo hP;let f:Addr:=h'.objs.size;have Hf:H f=none:=I.hok.fresh hsz;have Hc:H c'=none:=I.hok.fresh hge;have nfc:c'≠f:=QI hlt;have nTf:T≠f:=QI (Qy nT hsz);have nTc:T≠c':=QI (Qy nT hge);let H':Hp:=upd (upd (upd H T (.tbl (cU ⟨X.env.qual ++ "<lambda>", params,body,scope,pos⟩ c'))) c' (gn c' (X.env.qual ++ "<lambda>"))) f (f_ f ⟨X.env.qual ++ "<lambda>", params,body,scope,pos⟩ cl c')
  have hH:∀b o,H b=some o->b≠T->H' b=some o:=λb o e n=>by
   show upd (upd (upd H T _) c' _) f _ b=_;rw[af (ai e Hf),af (ai e Hc),af n];exact e
  have hHT:H' T=some (.tbl (cU ⟨X.env.qual ++ "<lambda>", params,body,scope,pos⟩ c')):=by
   show upd (upd (upd H T _) c' _) f _ T=_;rw[af nTf,af nTc,ag]
  have hHc:H' c'=some (gn c' (X.env.qual ++ "<lambda>")):=by
   show upd (upd (upd H T _) c' _) f _ c'=_;rw[af nfc,ag]
  have kx:∀b o,b≠T->s.heap.get? b=some o->(h'.push (PySem.W.kla_obj "<lambda>" (X.env.qual ++ "<lambda>") params body scope cl ((X.mg "__name__").getD .none) c' ctv)).get? b=some o:=λb o n e=>Qf _ (hx b o n e);have htb':h'.get? T=some (PySem.W.tabObj (cU ⟨X.env.qual ++ "<lambda>", params,body,scope,pos⟩ c')):=by simpa[cU] using htb
  have ntb:∀{b u},H b=some u->(∀ps,u≠.tbl ps)->b≠T:=λr n z=>by
   subst z;rw[e]at r;cases r;exact n _ rfl
  have un:Un X.fs [] H H' s.heap (h'.push (PySem.W.kla_obj "<lambda>" (X.env.qual ++ "<lambda>") params body scope cl ((X.mg "__name__").getD .none) c' ctv)):=by
   have nn:∀{b},H b=none->b≠T:=λn z=>by subst z;rw[e]at n;cases n
   refine⟨λb o r n _ _=>kx b o (nn n) r,λb o r n _ _=>⟨o.slots,kx b o (nn n) r⟩,λb o r n _=>?_,λb o r _=>?_,λb xs r=>hH b _ r (ntb r λ_ z=>nomatch z),λb o v r=>hH b _ r (ntb r λ_ z=>nomatch z),λb ps r=>?_⟩
   ·have lb:b<s.heap.objs.size:=Qo r;show upd (upd (upd H T _) c' _) f _ b=none;rw[af (QI (Qy lb hsz)),af (QI (Qy lb hge)),af (nn n)];exact n
   ·by_cases z:b=T
    ·subst z;exact⟨_,Qf _ htb'⟩
    exact⟨o,kx b o z r⟩
   by_cases z:b=T
   ·subst z;rw[e]at r;cases r;exact⟨cU ⟨X.env.qual ++ "<lambda>", params,body,scope,pos⟩ c',by rw[hHT,Array.empty_append]⟩
   exact⟨#[],by rw[hH b _ r z];simp⟩
  have hok:HOk X.prog X.w H' (h'.push (PySem.W.kla_obj "<lambda>" (X.env.qual ++ "<lambda>") params body scope cl ((X.mg "__name__").getD .none) c' ctv)):=λb u qb=>by
   have qb:upd (upd (upd H T (.tbl (cU ⟨X.env.qual ++ "<lambda>", params,body,scope,pos⟩ c'))) c' (gn c' (X.env.qual ++ "<lambda>"))) f (f_ f ⟨X.env.qual ++ "<lambda>", params,body,scope,pos⟩ cl c') b=some u:=qb;by_cases z1:b=f
   ·subst z1;rw[ag]at qb;cases qb;exact oQ (QS _ rfl)
   rw[af z1]at qb;by_cases z2:b=c'
   ·subst z2;rw[ag]at qb;cases qb;obtain⟨d,oc,vs,t,e1,e2,r2⟩:=hrec;exact s_ ⟨d,oc,vs,t,e1,Qf _ e2,r2⟩
   rw[af z2]at qb;by_cases z3:b=T
   ·subst z3;rw[ag]at qb;cases qb;exact Qf _ htb'
   rw[af z3]at qb;refine(I.hok b u qb).stay (λd v hd r=>kx d v ?_ r) (λd r=>hH d _ r (ntb r λ_ z=>nomatch z)) λd xs r=>hH d _ r (ntb r λ_ z=>nomatch z);rcases hd with z|z
   ·rw[z];exact z3
   intro y;subst y;rw[e]at z;cases z
  refine⟨.ref f,H',I.un (t':=tk) un hok,rfl,q f c' H' ⟨Hf,ag,hHc,hHT,hH⟩⟩
 have hP:s.heap.get? T=some (PySem.W.tabObj (cU ⟨X.env.qual ++ "<lambda>", params,body,scope,pos⟩ c)):=I.hok T _ e;refine PySem.W.kla_makeFunctionHit (mg:=X.mg) (cv:=.ref c) hcl I.ok.glob hg hcode CH hP trivial (by simp[cU,codeAmong,rawInt]) hB λctv h' tk hk hsz=>?_;let f:Addr:=h'.objs.size;have Hf:H f=none:=I.hok.fresh hsz;refine⟨.ref f,_,I.laid (t':=tk) (a:=f) (o:=f_ f ⟨X.env.qual ++ "<lambda>", params,body,scope,pos⟩ cl c) (λb o e=>Qf _ (hk b o e)) hsz (oQ (QS _ rfl)),rfl,q f c _ ⟨Hf,ag,?_,?_,λb o e _=>?_⟩⟩
 ·rw[af (ai hc Hf)];exact hc
 ·rw[af (ai e Hf)];exact e
 rw[af (ai e Hf)];exact e
end
structure LmScope (x y:Str) (sc:Scope):Prop where
 kind:sc.kind=.function
 co:sc.isCoroutine=false
 gen:sc.isGenerator=false
 par:sc.names.lookup x=some .local
 fre:sc.names.lookup y=some .free
 ne:x≠y
 nocell:∀z∈sc.names,z.2≠.cell
 only:∀z,sc.names.lookup z=some .free->z=y
noncomputable def pb (P:Program) (w:World) (K:PySem.W.Frag) (mg:B2) (base:Heap) (x y:Str) (l:Lm) (f c cell:Addr) (A:Around) (outer:List Env) (s:Shared) (H:Hp) (E:XK):Cx where
 prog:=P
 w:=w
 K:=K
 mg:=mg
 base:=base
 A:=A.deeper (PySem.W.envX l.qual l.scope s.heap.objs.size f (.ref c) [(y,cell)])
 N:=[x,y]
 s₀:=s
 H₀:=H
 env:=PySem.W.envX l.qual l.scope s.heap.objs.size f (.ref c) [(y,cell)]
 outer:=outer
 stack:=PySem.W.envX l.qual l.scope s.heap.objs.size f (.ref c) [(y,cell)]::outer
 ex:=[]
 calm:=true
 fn:=λ_=>false
 pn:=[]
 xe:=λe s'=>wpAny (model P w) (A.deeper (PySem.W.envX l.qual l.scope s.heap.objs.size f (.ref c) [(y,cell)])) (leaving (PySem.W.envX l.qual l.scope s.heap.objs.size f (.ref c) [(y,cell)]) e) (λ_ s''=>CX0 outer H s E e s'') (λe' s''=>CX0 outer H s E e' s'') s'
theorem lk1 (h:[(y,cell)].lookup z=some c):z=y/\c=cell:=by
 rw[QV]at h;by_cases e:(z==y)=true
 ·rw[e]at h;cases h;exact⟨eq_of_beq e,rfl⟩
 have e:(z==y)=false:=by simpa using e
 rw[e]at h;cases h
theorem l6:[(y,cell)].lookup y=some cell:=by
 rw[QV,beq_self_eq_true]
variable {s s₁:Shared}
theorem ur {P:Program} {w:World} {K:PySem.W.Frag} {mg:B2} {base:Heap} {l:Lm} {f c:Addr} {A:Around} {outer:List Env} {E:XK} {vx vy:V} {tk:Nat}
  (S:LmScope x y l.scope) (hd:A.handled=none) (e0:Env0 P w K mg base A outer s H) (rx:aF vx u) (ry:aF vy uy) (hc:s.heap.IsCell cell (some uy)) (hH:H cell=none)
  (hns:h1.Ns s.heap.objs.size (λz=>[(x,u)].reverse.lookup z)) (hk:∀b o,s.heap.get? b=some o->h1.get? b=some o) :
  Inv (pb P w K mg base x y l f c cell A outer s H E) [] [some vx,some vy] H { s with heap:=h1,toks:=tk }:=by
 have noA:∀b:Addr,b∉(pb P w K mg base x y l f c cell A outer s H E).ex:=λb z=>absurd (show b∈([]:B3) from z) (by simp);have hc1:h1.IsCell cell (some uy):=by obtain⟨o,e1,e2⟩:=hc;exact⟨o,hk _ _ e1,e2⟩
 refine⟨⟨e0.mod,S.kind,rfl,rfl,Qh _,λy' z c h1 h2=>(lk1 h1).1.trans (lk1 h2).1.symm,λz hz=>?_,(λy c h _=>nomatch h),λ_=>hd,Around.frames_deeper e0.frames,.inr ⟨rfl,rfl⟩,λb z=>absurd z (noA b),e0.bs,e0.bsz,λb _ _=>noA b,λb z=>absurd z (noA b),e0.funs,e0.frf⟩,
  rfl,e0.bare,Un.kept hk,⟨_,hns,λi z v h1 h2 h3=>?_⟩,λz c h=>?_,e0.hok.fresh (Qh _),λz c h=>?_,λp hp=>absurd (show p∈([]:B1) from hp) (by simp),e0.hok.kept hk,rfl⟩
 ·have hz:l.scope.names.lookup z=some .cell\/l.scope.names.lookup z=some .free:=hz;rcases hz with hz|hz
  ·exact absurd rfl (S.nocell _ (PySem.mem_of_lookup hz))
  rw[S.only z hz];exact⟨cell,l6⟩
 ·match i with
  | 0 =>
   cases h1;cases h2;refine⟨u,rx,.inl ⟨S.par,?_⟩⟩;show [(x,u)].reverse.lookup x=some u;simp[List.lookup]
  | 1 =>
   cases h1;cases h2;exact⟨uy,ry,.inr ⟨.inr S.fre,cell,l6,hc1⟩⟩
  | i+2 =>
   exact absurd h1 (by show ([x,y]:List Str)[i+2]?≠some z;simp)
 ·rw[(lk1 h).2];exact⟨_,hc1⟩
 rw[(lk1 h).2];exact hH
theorem um {P:Program} {w:World} {K:PySem.W.Frag} {mg:B2} {base:Heap} {l:Lm} {A:Around} {outer:List Env} {Q:VK} {E:XK} {vx vy:V} {k:Nat} {t:TE} {args:Args}
  (S:LmScope x y l.scope) (hr:Room (k+1) A) (e0:Env0 P w K mg base A outer s H) (rx:aF vx u) (ry:aF vy uy) (hc:s.heap.IsCell cell (some uy)) (hH:H cell=none)
  (hf:s.heap.get? f=some (PySem.W.kla_obj "<lambda>" l.qual l.params l.body l.scope [(y,cell)] pm c ctv)) (hcd:s.heap.CodeRec (.ref c) l.qual) (hb:bindArgs (PySem.W.kla_fn "<lambda>" l.qual l.params l.body l.scope [(y,cell)] pm (.ref c) ctv) args=pure [(x,u)])
  (body:Room k (A.deeper (PySem.W.envX l.qual l.scope s.heap.objs.size f (.ref c) [(y,cell)]))->PE (pb P w K mg base x y l f c cell A outer s H E) l.body t) (q:t [some vx,some vy] H Q):codeAny (model P w) A (.call (.ref f) args) (CR CX0 outer P w H s Q E) s:=by
 have lim:s.heap.NoLimit:=e0.mod.nolimit.keeps λb o e=>(e0.bs b o e).1;refine PySem.W.kla_callFunE hr.depth hf rfl S.co S.gen rfl hcd ?_;rw[hb];refine QJ (wpAny_newFunctionEnv S.nocell (λz hz=>by rw[Qp.mp hz];exact S.par) (λh1 hns hsb=>?_) S.kind);have hk1:∀b o,s.heap.get? b=some o->h1.get? b=some o:=λb o e=>hsb.extBut b o (QI (Qo e)) (Qf _ e);refine⟨lim.keeps hk1,?_⟩;show codeAny _ _ (.expr l.body (PySem.W.envX l.qual l.scope s.heap.objs.size f (.ref c) [(y,cell)])) _ _;have I:=ur (f:=f) (c:=c) (E:=E) (tk:=s.toks+[(x,u)].length) S hr.hd e0 rx ry hc hH hns hk1;refine PySem.W.kla_codeExpr (Xg (body (hr.deeper _) [] _ _ H Q I q) (λv s' hs=>?_) λe s' hs=>hs);obtain⟨v',H',J,rv,qv⟩:=hs;exact⟨v',H',J.os,J.bare,J.base,J.hok,rv,qv⟩
def Calls (P:Program) (w:World) (K:PySem.W.Frag) (mg:B2) (base:Heap) (k:Nat) (f:Addr) (r:V->Hp->VK->Prop):Prop :=
 ∀(X:Cx),X.prog=P->X.w=w->X.K=K->X.mg=mg->X.base=base->eV CX0 X E0->Room k X.A->∀pins s U H vx u (Q:VK),Inv X pins U H s->aF vx u->r vx H Q->wpAny (model X.prog X.w) X.A (call (.ref f) [u]) (EP X pins U Q) X.xe s
def xu (f:Addr) (l:Lm) (y:Str) (cell c:Addr) (t:TE):V->Hp->VK->Prop:=λvx H Q=>∃(o:Obj) (uy:Value) (vy:V),H f=some (f_ f l [(y,cell)] c)/\H c=some (gn c l.qual)/\H cell=some (cQ o)/\o.data=.cell (some uy)/\aF vy uy /\
 t [some vx,some vy] (bL H cell) λv H'=>Q v (upd H' cell (cQ o))
theorem qr {P:Program} {w:World} {K:PySem.W.Frag} {mg:B2} {base:Heap} {l:Lm} {k:Nat} {t:TE} (S:LmScope x y l.scope)
  (hb:∀(pm ctv u:Value),bindArgs (PySem.W.kla_fn "<lambda>" l.qual l.params l.body l.scope [(y,cell)] pm (.ref c) ctv) ⟨[u],[]⟩=pure [(x,u)])
  (body:∀(A:Around) (outer:List Env) (s:Shared) (H:Hp),Room k (A.deeper (PySem.W.envX l.qual l.scope s.heap.objs.size f (.ref c) [(y,cell)]))->PE (pb P w K mg base x y l f c cell A outer s H E0) l.body t) :
  Calls P w K mg base (k+1) f (xu f l y cell c t):=by
 intro X e1 e2 e3 e4 e5 hx hr pins s U H vx u Q I rx h;subst e1 e2 e3 e4 e5;obtain⟨o,uy,vy,hf,hc,hcell,hd,ry,q⟩:=h;obtain⟨pm,ctv,ef⟩:=(I.hok f _ hf).1;have ec:s.heap.CodeRec (.ref c) l.qual:=(I.hok c _ hc).1;have eo:s.heap.get? cell=some o:=(I.hok cell _ hcell).1;have e0:=I.env0
 have nf:cell∉frs X.stack:=λz=>by
  have:=e0.frf cell z;rw[hcell]at this;cases this
 have e0':Env0 X.prog X.w X.K X.mg X.base X.A X.stack s (bL H cell):=⟨e0.frames,e0.mod,λb ob e=>⟨(e0.bs b ob e).1,by
  by_cases z:b=cell
  ·rw[z];exact cA
  ·rw[bt z];exact(e0.bs b ob e).2⟩,e0.bsz,e0.funs,λb hb=>by
  by_cases z:b=cell
  ·rw[z];exact cA
  rw[bt z];exact e0.frf b hb,e0.hok.drop hcell,e0.bare⟩
 refine wpAny_call (codeAny_mono (um (E:=E0) S hr e0' rx ry ⟨o,eo,hd⟩ cA ef ec (hb pm ctv u) (body X.A X.stack s (bL H cell)) q) λr s' hq=>?_)
 cases r with
 | error e=>exact False.elim hq
 | ok fl =>
 cases fl with
 | ret u =>
  obtain⟨v,H',os,bare,un,hok,rv,qv⟩:=hq;obtain⟨un',n',e'⟩:=un.back hcell eo nf (by simp);exact I.after ⟨v,_,os,bare,un',hok.take n' e',rv,qv⟩
 | next=>exact False.elim hq
 | brk=>exact False.elim hq
 | cont=>exact False.elim hq
def qL (P:Program) (w:World) (K:PySem.W.Frag) (mg:B2) (base:Heap) (k i:Nat) (te:TE):TE:=λU H Q=>∃f l cl c r,U[i]?=some (some (.ref f))/\Calls P w K mg base k f r/\H f=some (f_ f l cl c)/\te U H λv H1=>H1 f=some (f_ f l cl c)/\r v H1 Q
variable {U:St} {pins:B1} {X:Cx}
theorem mv {l:Lm} (I:Inv X pins U H s) (h:H f=some (f_ f l cl c)):PySem.W.FnAt f s.heap:=by
 obtain⟨pm,ctv,e⟩:=(I.hok f _ h).1;exact⟨_,_,_,_,e⟩
theorem rH {k i:Nat} {e:Expr} {te:TE} {p pos:Pos} (hr:Room k X.A) (hx:eV CX0 X E0) (hn:PE X (.Name n p) (cV i)) (he:PE X e te) (hs:starEach [e] X.env=[(false,eval e X.env)]:=by rfl) (hs0:starEach ([]:List Expr) X.env=[]:=by rfl) (hpl:(backTo pos (starEach [] X.env)).any (·.1)=false:=by rfl) :
  PE X (.Call (.Name n p) [e] [] pos) (qL X.prog X.w X.K X.mg X.base k i te):=by
 intro pins s U H Q I h;obtain⟨f,l,cl,c,r,hi,C,hf,h⟩:=h;refine wpAny_Call_Name_kw (thn (hn pins s U H (λv H1=>v=.ref f/\H1=H) I ⟨_,hi,rfl,rfl⟩) λu s1 ⟨v,H1,I1,ru,ev,eh⟩=>?_);subst ev eh;obtain rfl:u=Value.ref f:=ru;refine PySem.W.callWith_F (mv I1 hf) ?_ (by rw[hs,hs0]) hpl;rw[hs];refine Calls.spliced_cons (thn (he pins s1 U H1 _ I1 h) λiv s2 ⟨v,H2,I2,rv,hf2,q⟩=>?_);refine Calls.spliced_nil ⟨mv I2 hf2,?_⟩;exact C X rfl rfl rfl rfl rfl hx hr pins s2 U H2 v iv Q I2 rv q
theorem Inv.cellAt {i:Nat} {vy:V} (I:Inv X pins U H s) (hN:X.N[i]?=some y) (hi:U[i]?=some (some vy)) (hk:X.env.kindOf y=some .cell) (hv:Vis X.env.scope y) (hl:X.env.cells.lookup y=some cell) :
  ∃o uy,s.heap.get? cell=some o/\o.data=.cell (some uy)/\aF vy uy/\H cell=none:=by
 obtain⟨m,_,loc⟩:=I.loc;obtain⟨u,ru,lk⟩:=loc i y vy hN hi hv;rcases lk with⟨k,_⟩|⟨_,c,e,o,e1,e2⟩
 ·rw[hk]at k;cases k
 rw[hl]at e;cases e;exact⟨o,u,e1,e2,ru,I.freeC y cell hl⟩
theorem Inv.cellOut (I:Inv X pins U H s) (hf:X.fn y=true) (hl:X.env.cells.lookup y=some cell):cell∉frs X.stack:=λz=>by
 have ab:=I.ok.cab y cell hf hl
 have no:cell∉frs X.outer:=λz=>by
  obtain⟨_,o,ho,_⟩:=I.ok.funs.mem z;exact absurd (Qo ho) (Nat.not_lt.mpr ab)
 rcases I.ok.stk with e|⟨e,fr⟩
 ·rw[e]at z;exact no z
 rw[e]at z;unfold frs at z;rw[Xq,fr]at z;rcases Qu.mp z with z|z
 ·exact I.cne y cell hl z
 exact no z
def vV (sp:Sp) (i:Nat) (cell:Addr) (t:TA):TE:=λU H Q=>t U H λvs H1=>∃vy,U[i]?=some (some vy)/\∀o uy,o.data=.cell (some uy)->aF vy uy->H1 cell=none->sp vs (upd H1 cell (cQ o)) (λv H2=>Q v (bL H2 cell)) E0
variable {ps loose:List Str}
theorem wd {k i:Nat} {sp:Sp} {e:Expr} {es:List Expr} {t:TA} {p pos:Pos} (F:Fn X.prog X.w X.K X.mg X.base x ps k sp) (hr:Room k X.A) (hg:Gl X x) (ha:PA X (e::es) t)
  (hN:X.N[i]?=some y) (hky:X.env.kindOf y=some .cell) (hv:Vis X.env.scope y) (hl:X.env.cells.lookup y=some cell) (hfn:X.fn y=true)
  (hdb:(x==("__debug__" : Str))=false:=by decide) (he:starEach (e::es) X.env=(false,eval e X.env)::starEach es X.env:=by rfl) (hpl:(backTo pos (starEach es X.env)).any (·.1)=false:=by rfl) :
  PE X (.Call (.Name x p) (e::es) [] pos) (vV sp i cell t):=by
 obtain⟨f,fd,G,hm,hk,hb⟩:=F.ex;intro pins s U H Q I h;refine wpAny_Call_Name_kw (d9 I hg hm ?_ hdb);refine PySem.W.callWith_K (h₀:=X.base) I.ok.mod.kin hk (thn (ha pos pins s U H _ I h) λus s1 ⟨vs,H1,I1,r,q⟩=>⟨I1.kIn,?_⟩) he hpl;obtain⟨vy,hi,q⟩:=q;obtain⟨o,uy,e1,e2,ry,hn⟩:=I1.cellAt hN hi hky hv hl;have nf:=I1.cellOut hfn hl;have ab:=I1.ok.cab y cell hfn hl;have e0:=I1.env0
 have e0':Env0 X.prog X.w X.K X.mg X.base X.A X.stack s1 (upd H1 cell (cQ o)):=⟨e0.frames,e0.mod,λb ob e=>⟨(e0.bs b ob e).1,by
  rw[af]
  ·exact(e0.bs b ob e).2
  ·intro z;have:=Qo (I1.ok.bs b ob e).1;rw[z]at this
   exact absurd this (Nat.not_lt.mpr ab)⟩,e0.bsz,e0.funs,λb hb=>by
  rw[af]
  ·exact e0.frf b hb
  intro z;rw[z]at hb;exact nf hb,e0.hok.take hn e1,e0.bare⟩
 have hl2:us.length=ps.length:=by rw[<-r.length];exact G.len _ _ _ _ (q o uy e2 ry hn)
 refine wpAny_call (codeAny_mono (G.run X.A X.stack s1 _ ⟨us,[]⟩ us vs _ E0 hr e0' (by have:=hb s1 us I1.kIn (by rw[Xa];exact hl2);rwa [Xa]at this) r (q o uy e2 ry hn)) λrr s' hq=>?_)
 cases rr with
 | error e=>exact False.elim hq
 | ok fl =>
 cases fl with
 | ret u =>
  obtain⟨v,H',os,bare,un,hok,rv,qv⟩:=hq;obtain⟨un',hok',_⟩:=un.out hok hn e1 nf;exact I1.after ⟨v,_,os,bare,un',hok',rv,qv⟩
 | next=>exact False.elim hq
 | brk=>exact False.elim hq
 | cont=>exact False.elim hq
structure FunC (K:PySem.W.Frag) (x qual:Str) (st:Stmt) (f:Addr) (fd:FuncData) (c:Addr):Prop where
 ex:∃oc od kV doc pm an ct osl,fd=PySem.W.fnOf x qual (ck st) (bM st) (ak st) .none kV doc pm an (.ref c) ct/\K.lookup f=some ⟨oc,od,.func (PySem.W.fnOf x qual (ck st) (bM st) (ak st) .none kV doc pm an (.ref c) ct),osl⟩/\PySem.W.codeIn K (.ref c) qual=true
section
variable {P:Program} {w:World} {K:PySem.W.Frag} {mg:B2} {base:Heap}
theorem FunC.ok {x qual:Str} {st:Stmt} {f c:Addr} {fd:FuncData} {N ps:List Str} {k:Nat} {sp:Sp} (F:FunC K x qual st f fd c) (S:FnScope N ps (ak st)) (len:∀vs H Q E,sp vs H Q E->vs.length=ps.length)
  (hbody:∀(A:Around) (outer:List Env) (s:Shared) (H:Hp) (vs:List V) (Q:VK) (E:XK),Room k (A.deeper (envOfC qual (ak st) s.heap.objs.size f (.ref c)))->sp vs H Q E ->
   ∃t,PSs (cxOf CX0 P w K mg base N qual (ak st) f (.ref c) A outer s H E).nox (bM st) t/\t { nx:=λ_ H'=>Q .non H',rt:=Q } (start N vs) H):FnOk P w K mg base CX0 (k+1) f fd ps sp:=by
 obtain⟨oc,od,kV,doc,pm,an,ct,osl,rfl,lk,hcd⟩:=F.ex;refine mt lk hcd S len λA outer s H vs Q E hr hsp=>?_;obtain⟨t,h,q⟩:=hbody A outer s H vs Q E hr hsp;exact⟨t,h.nox,q⟩
end
structure OnlyT (tabs:List (Addr × Addr)) (H:Hp):Prop where
 tab:∀q∈tabs,H q.2=some (.tbl #[])
 other:∀b,b∉tabs.map (·.2)->H b=none\/∃o xs,H b=some (.frz o (.lst xs))
theorem pZ {P:Program} {w:World} {K:PySem.W.Frag} {mg mb:B2} {CX:CXT} {k:Nat} {fd:FuncData} {sp:Sp} {vs:List Value} {ns:List Int} {tabs:List (Addr × Addr)}
  (KX:K.In s₁.heap) (hns:s₁.heap.Ns mainGlobals mg) (hb:s₁.heap.Ns builtinsNs mb) (hbb:∀x:Str,x ≠ "__name__" -> mb x=bootBuiltins x) (hlim:s₁.heap.NoLimit) (hg:s₁.gens=#[])
  (hbm:eJ s₁.heap mg) (hT:PySem.W.TabsAt tabs s₁.heap) (hTK:∀q∈tabs,K.lookup q.2=none)
  (ha:s₁.heap.get? a=some { cls:=.type "list", data:=.seq vs.toArray }) (hi:IntsAre vs ns) (hl:ns.length<=sizeLine) (hr:Room k callerA)
  (F:∀base:Heap,K.In base->base.Ns mainGlobals mg->eJ base mg->FnOk P w K mg base CX k fa fd [x] sp) (hbind:∀(s:Shared) (u:Value),BindsTo s fd ⟨[u],[]⟩ [(x,u)])
  (hsp:∀H:Hp,OnlyT tabs H->SqL K H a (ns.map V.int)->sp [.ref a] H (λv _=>v=.bl true) λ_ _ _=>False)
  (hCX:∀H e s',CX [] H s₁ (λ_ _ _=>False) e s'->False) :
  codeAny (model P w) callerA (.call (.ref fa) ⟨[.ref a],[]⟩) (λr s'=>r=.ok (.ret (.bool true))/\OldK s₁.heap s'.heap/\s'.os=s₁.os/\AllBare s'.gens) s₁:=by
 have rv:=i6 hi;have lenV:=hi.length
 have naT:a∉tabs.map (·.2):=λq=>by
  obtain⟨r,hr,e⟩:=QG.mp q;have e2:=(hT r hr).2;rw[e,ha]at e2;cases e2
 have core:∀H:Hp,OnlyT tabs H->SqL K H a (ns.map V.int)->HOk P w H s₁.heap->(∀b,H b≠none->b=a\/b∈tabs.map (·.2))->(H a≠none->K.lookup a=none) ->
   codeAny (model P w) callerA (.call (.ref fa) ⟨[.ref a],[]⟩) (λr s'=>r=.ok (.ret (.bool true))/\OldK s₁.heap s'.heap/\s'.os=s₁.os/\AllBare s'.gens) s₁:=by
  intro H hO hS hok hA hK;have base_of:∀{b:Addr} {o:Obj},s₁.heap.get? b=some o->H b=none->(iV s₁.heap H).get? b=some o:=λe n=>sL e n
  have noA:∀{b:Addr} {o:Obj},s₁.heap.get? b=some o->(∀ps n,o.data≠.seq ps n)->(∀ps,o.data≠.fields ps)->H b=none:=λ{b o} e d1 d2=>by
   cases q:H b with
   | none=>rfl
   | some u =>
   rcases hA b (by rw[q];simp) with e'|e'
   ·subst e';rw[ha]at e;cases e;exact absurd rfl (d1 _ _)
   obtain⟨r,hr,er⟩:=QG.mp e';have e2:=(hT r hr).2;rw[er,e]at e2;cases e2;exact absurd rfl (d2 _)
  have nsK:∀{b:Addr} {m:B2},s₁.heap.Ns b m->(iV s₁.heap H).Ns b m:=λ{b m} ⟨o,es,ep,e,d,r⟩=>⟨o,es,ep,base_of e (noA e (λ_ _ z=>by rw[d]at z;cases z) (λ_ z=>by rw[d]at z;cases z)),d,r⟩
  have hKb:K.In (iV s₁.heap H):=λb o e=>base_of (KX b o e) (by
   cases q:H b with
   | none=>rfl
   | some u =>
   rcases hA b (by rw[q];simp) with e'|e'
   ·subst e';rw[hK (by rw[q];simp)]at e;cases e
   obtain⟨r,hr,er⟩:=QG.mp e';have e2:=hTK r hr;rw[er,e]at e2
   cases e2)
  have hM:Mod K mg (iV s₁.heap H):=⟨hKb,nsK hns,⟨mb,nsK hb,hbb⟩,let ⟨mc,h1,h2⟩:=hlim;⟨mc,nsK h1,h2⟩⟩
  have hB:eJ (iV s₁.heap H) mg:=by
   obtain⟨bm,ob,b1,b2,b3,b4,b5,b6,b7⟩:=hbm;exact⟨bm,ob,b1,b2,b3,base_of b4 (noA b4 (λ_ _ z=>by rw[b7]at z;cases z) (λ_ z=>by rw[b7]at z;cases z)),b5,b6,b7⟩
  have e0:Env0 P w K mg (iV s₁.heap H) callerA [] s₁ H:=⟨rfl,hM,λb o e=>ug e,Nat.le_of_eq (qh _ _),trivial,λb hb=>absurd (show b∈([]:B3) from hb) (by simp),hok,.of_eq hg⟩;refine codeAny_mono ((F _ hKb (nsK hns) hB).run callerA [] s₁ H ⟨[.ref a],[]⟩ [.ref a] [.ref a] _ _ hr e0 (hbind s₁ (.ref a)) (.cons rfl .nil) (hsp H hO hS)) λr s' h=>?_
  cases r with
  | error e=>exact(hCX H e s' h).elim
  | ok fl =>
  cases fl with
  | next=>exact False.elim h
  | brk=>exact False.elim h
  | cont=>exact False.elim h
  | ret u =>
  obtain⟨v,H',os,bare,un,hok',r',q⟩:=h;have q':v=.bl true:=q;subst q';obtain rfl:u=Value.bool true:=r';refine⟨rfl,⟨λb o e=>?_,λb o e=>un.there b o e (by simp)⟩,os,bare⟩
  cases q:H b with
  | none=>exact .inl (un.keep b o e q (by intro z;exact absurd (show b∈([]:B3) from z) (by simp)) (by simp))
  | some u =>
  by_cases hb:b∈tabs.map (·.2)
  ·obtain⟨r,hr,er⟩:=QG.mp hb;have t1:=hO.tab r hr;have e2:=(hT r hr).2;have ict:=((hT r hr).1.tab (hT r hr).2).isCodeTable;rw[er]at t1 e2 ict;rw[e]at e2;cases e2;obtain⟨more,t2⟩:=un.tbls b _ t1;have t3:s'.heap.get? b=some { cls:=.none,data:=.fields (#[]++more) }:=hok' b _ t2;exact .inr (.inl ⟨ict,rfl,#[],more,rfl,t3⟩)
  rcases hO.other b hb with z|⟨ob,xs,z⟩
  ·rw[q]at z;cases z
  have z2:=un.frzs b ob _ z;obtain⟨e1,_⟩:=hok b _ z;obtain⟨e2,_⟩:=hok' b _ z2;rw[e]at e1;cases e1;exact .inl e2
 let HT:Hp:=λb=>if b∈tabs.map (·.2) then some (.tbl #[]) else none
 have htab:∀b,b∈tabs.map (·.2)->s₁.heap.get? b=some (PySem.W.tabObj #[]):=λb hb=>by
  obtain⟨r,hr,er⟩:=QG.mp hb;rw[<-er];exact(hT r hr).2
 cases hk:K.lookup a with
 | some o =>
  have e:=KX a o hk;rw[ha]at e;cases e;refine core HT ⟨λq hq=>Qv (QG.mpr ⟨q,hq,rfl⟩),λb hb=>.inl (Qz hb)⟩ (.inr ⟨_,vs.toArray,_,hk,rfl,rfl,rfl,by rw[Qg,lenV];exact hl,by simpa using rv⟩) (λb u z=>?_) (λb z=>?_) λz=>absurd (Qz naT) z
  ·by_cases hb:b∈tabs.map (·.2)
   ·have z':=(Qv hb).symm.trans z;cases z';exact htab b hb
   have z':=(Qz hb).symm.trans z;cases z'
  by_cases hb:b∈tabs.map (·.2)
  ·exact .inr hb
  exact absurd (Qz hb) z
 | none =>
 let HA:Hp:=λb=>if b=a then some (.frz { cls:=.type "list", data:=.seq vs.toArray } (.lst (ns.map V.int))) else HT b;have hA1:HA a=some (.frz { cls:=.type "list", data:=.seq vs.toArray } (.lst (ns.map V.int))):=Qv rfl;have hA2:∀b,b≠a->HA b=HT b:=λb h=>Qz h;refine core HA ⟨λq hq=>?_,λb hb=>?_⟩ (.inl (.inr ⟨{ cls:=.type "list", data:=.seq vs.toArray },hA1⟩)) (λb u z=>?_) (λb z=>?_) λ_=>hk
 ·rw[hA2 _ λz=>naT (QG.mpr ⟨q,hq,z⟩)];exact Qv (QG.mpr ⟨q,hq,rfl⟩)
 ·by_cases hba:b=a
  ·subst hba;exact .inr ⟨_,_,hA1⟩
  rw[hA2 b hba];exact .inl (Qz hb)
 ·by_cases hba:b=a
  ·subst hba;rw[hA1]at z;cases z;exact⟨ha,by rw[Qa];exact hl,vs,_,rv,ha⟩
  rw[hA2 b hba]at z;by_cases hb:b∈tabs.map (·.2)
  ·have z':=(Qv hb).symm.trans z;cases z';exact htab b hb
  have z':=(Qz hb).symm.trans z;cases z'
 by_cases hba:b=a
 ·exact .inl hba
 rw[hA2 b hba]at z;by_cases hb:b∈tabs.map (·.2)
 ·exact .inr hb
 exact absurd (Qz hb) z
variable {p q:Program}
theorem tj {mean:ExcName->Option Value} {mg mb:B2} (T:Top p loose mean mg mb h):eJ h mg:=by
 obtain⟨bm,ob,b1,b2,b3,b4,b5,b6⟩:=T.bmain;refine⟨bm,ob,b1,b2,λq=>?_,b3,b4,b5,b6⟩;obtain⟨o,es,ep,e,hd,_⟩:=T.g;rw[q,e]at b3;cases b3;rw[hd]at b6;cases b6
variable {l:PySem.W.OpenLaw}
theorem qD {n k:Nat} {XP:B2->Heap->Prop} {YP:World->Heap->Prop} {d:DefRec} {K:Params->PySem.W.Frag} {CX:World->CXT} {sp:World->Sp} (tabs:World->List (Addr × Addr))
  (hn:l.most=some n) (hn2:n<=sizeLine) (hdf:d.params.defaults=[]) (hr:Room k callerA)
  (hY:∀(w:World) (h:Heap),YP w h->(K w.params).In h) (hY2:∀(w:World) (h:Heap),YP w h->PySem.W.TabsAt (tabs w) h) (hTK:∀(w:World),∀q∈tabs w,(K w.params).lookup q.2=none)
  (F:∀(w:World) (mg:B2) (fa:Addr) (h:Heap),(K w.params).In h->h.Ns mainGlobals mg->mg d.name=some (.ref fa) ->
   ∃fd:FuncData,(∀(s:Shared) (u:Value),BindsTo s fd ⟨[u],[]⟩ [(x,u)]) /\
    ∀base:Heap,(K w.params).In base->base.Ns mainGlobals mg->eJ base mg->FnOk l.prog w (K w.params) mg base (CX w) k fa fd [x] (sp w))
  (hsp:∀(w:World) (H:Hp) (a:Addr) (ns:List Int),ns.length<=n->OnlyT (tabs w) H->SqL (K w.params) H a (ns.map V.int)->sp w [.ref a] H (λv _=>v=.bl true) λ_ _ _=>False)
  (hCX:∀(w:World) (H:Hp) (s:Shared) (e:Value) (s':Shared),CX w [] H s (λ_ _ _=>False) e s'->False) :
  PySem.W.WalkO q loose XP YP l.row.toRowW d [] (λf vs=>PySem.call f vs):=by
 refine Att.mR hn hdf λw s₀ s₁ mg mb fa o pm cd doc a vs ns G Y ho hd hcd hmg hobj hints hlen hg=>?_;have KX:=hY w _ Y;obtain⟨fd,hb,hF⟩:=F w mg fa _ KX G.T.g hmg;exact pZ KX G.T.g G.T.b G.T.builtins G.T.nolimit hg (tj G.T) (hY2 w _ Y) (hTK w) hobj hints (QQ hlen hn2) hr hF hb (λH hO hS=>hsp w H a ns hlen hO hS) λH e s'=>hCX w H s₁ e s'
def nK (K:PySem.W.Frag) (ts:B3):List (Addr × Addr):=ts.flatMap λT=>(K.filter λp=>PySem.W.codeHdIn K p.1 T).map λp=>(p.1,T)
def fz (K:PySem.W.Frag) (ts:B3):Bool:=ts.all λT=>(K.any λp=>PySem.W.codeHdIn K p.1 T)&&(K.lookup T).isNone
variable {ts as:B3}
theorem im {K:PySem.W.Frag} {q:Addr × Addr} (h:q∈nK K ts):q.2∈ts/\PySem.W.codeHdIn K q.1 q.2=true:=by
 obtain⟨T,hT,h⟩:=List.mem_flatMap.mp h;obtain⟨p,hp,rfl⟩:=QG.mp h;exact⟨hT,(List.mem_filter.mp hp).2⟩
theorem nJ {K:PySem.W.Frag} (ok:fz K ts=true) (hT:T∈ts):∃c,(c,T)∈nK K ts:=by
 have h:=Xi.mp ok T hT;rw[Xp]at h;obtain⟨p,hp,e⟩:=List.any_eq_true.mp h.1;exact⟨p.1,List.mem_flatMap.mpr ⟨T,hT,QG.mpr ⟨p,List.mem_filter.mpr ⟨hp,e⟩,rfl⟩⟩⟩
theorem nI {K:PySem.W.Frag} (ok:fz K ts=true) (hT:T∈ts):K.lookup T=none:=by
 have h:=Xi.mp ok T hT;rw[Xp]at h;exact Option.isNone_iff_eq_none.mp h.2
theorem qE {n k:Nat} {XP:B2->Heap->Prop} {d:DefRec} {K:Params->PySem.W.Frag} {e:∀P,as=(K P).map (·.1)} {CX:World->CXT} {sp:World->Sp}
  (hn:l.most=some n) (hn2:n<=sizeLine) (hdf:d.params.defaults=[]) (hr:Room k callerA) (ok:∀w:World,fz (K w.params) ts=true)
  (F:∀(w:World) (mg:B2) (fa:Addr) (h:Heap),(K w.params).In h->h.Ns mainGlobals mg->mg d.name=some (.ref fa) ->
   ∃fd:FuncData,(∀(s:Shared) (u:Value),BindsTo s fd ⟨[u],[]⟩ [(x,u)]) /\
    ∀base:Heap,(K w.params).In base->base.Ns mainGlobals mg->eJ base mg->FnOk l.prog w (K w.params) mg base (CX w) k fa fd [x] (sp w))
  (hsp:∀(w:World) (H:Hp) (a:Addr) (ns:List Int),ns.length<=n->(∀T∈ts,H T=some (.tbl #[]))->SqL (K w.params) H a (ns.map V.int)->sp w [.ref a] H (λv _=>v=.bl true) λ_ _ _=>False)
  (hCX:∀(w:World) (H:Hp) (s:Shared) (e:Value) (s':Shared),CX w [] H s (λ_ _ _=>False) e s'->False) :
  PySem.W.WalkO q loose XP (PySem.W.kmHook K as e ts).says l.row.toRowW d [] (λf vs=>PySem.call f vs):=by
 refine qD (λw=>nK (K w.params) ts) hn hn2 hdf hr (λw h Y=>PySem.W.km_in_of Y) (λw h Y q hq=>?_) (λw q hq=>nI (ok w) (im hq).1) F (λw H a ns h1 hO hS=>hsp w H a ns h1 (λT hT=>?_) hS) hCX
 ·obtain⟨h1,h2⟩:=im hq;exact⟨PySem.W.codeHd_of_K (PySem.W.km_in_of Y) h2,PySem.W.km_tabs_of Y _ h1⟩
 obtain⟨c,hc⟩:=nJ (ok w) hT;exact hO.tab _ hc
def Fz:HO->Prop
 | .dK _=>True
 | .dT _=>True
 | .lst _=>True
 | _=>False
def back (H:Hp) (a:Addr) (H':Hp):Hp:=λb=>if b=a then H a else H' b
theorem jH:back H a H' a=H a:=Qv rfl
theorem bQ (h:b≠a):back H a H' b=H' b:=Qz h
section
variable {X:Cx} {pins:B1} {U σ':St} {H H':Hp} {s s':Shared} {a:Addr} {u:HO} {o:Obj}
theorem kr (r:Rd H a u):∃v,H a=some v:=by
 rcases r with r|⟨o,r⟩ <;> exact⟨_,r⟩
theorem uY (r:Rd H a u) (f:Fz u):(∀xs,H a≠some (.tup xs))/\(∀ps,H a≠some (.tbl ps))/\(∀x,H a≠some (.own x))/\∀ob v,H a=some (.frz ob v)->v=u:=by
 rcases r with r|⟨o,r⟩
 ·refine⟨λxs z=>?_,λps z=>?_,λx z=>?_,λob v z=>?_⟩ <;> (rw[r]at z;cases z;exact f.elim)
 refine⟨λxs z=>?_,λps z=>?_,λx z=>?_,λob v z=>?_⟩ <;> (rw[r]at z;cases z);rfl
theorem Inv.freeze (I:Inv X pins U H s) (r:Rd H a u) (f:Fz u) (e:s.heap.get? a=some o):Inv X pins U (upd H a (.frz o u)) s:=by
 obtain⟨v,hv⟩:=kr r;obtain⟨n1,n2,n3,n4⟩:=uY r f;have ne:∀{b},H b=none->b≠a:=λh z=>by rw[z,hv]at h;cases h
 have ok:=r.ok I.hok;refine⟨I.ok,I.os,I.bare,⟨I.base.keep,I.base.slot,λb ob q n hx=>?_,I.base.there,λb xs q=>?_,λb ob w q=>?_,λb ps q=>?_⟩,I.loc,I.cell,?_,λx c h=>?_,λp hp=>?_,λb w q=>?_,I.len⟩
 ·have:=I.base.free b ob q n hx;rw[af (ne this)];exact this
 ·have:=I.base.tups b xs q;rw[af (λz=>n1 xs (by rw[<-z];exact this))];exact this
 ·have z:=I.base.frzs b ob w q;by_cases hb:b=a
  ·subst hb;have ew:=n4 ob w z;subst ew;obtain⟨e1,_⟩:=I.hok b _ z;rw[e]at e1;cases e1;exact ag
  rw[af hb];exact z
 ·obtain⟨more,z⟩:=I.base.tbls b ps q;exact⟨more,by rw[af (λy=>n2 _ (by rw[<-y];exact z))];exact z⟩
 ·rw[af (ne I.free)];exact I.free
 ·rw[af (ne (I.freeC x c h))];exact I.freeC x c h
 ·obtain⟨p1,p2,p3,p4,p5⟩:=I.pin p hp;exact⟨p1,by rw[af (ne p2)];exact p2,p3,p4,p5⟩
 have st:∀{b w},aX X.prog X.w H s.heap b w->aX X.prog X.w (upd H a (.frz o u)) s.heap b w:=λh=>h.stay (λ_ _ _ q=>q) (λd q=>by rw[af (λz=>n3 _ (by rw[<-z];exact q))];exact q) λd xs q=>by rw[af (λz=>n1 _ (by rw[<-z];exact q))];exact q
 by_cases hb:b=a
 ·subst hb;rw[ag]at q;cases q;exact⟨e,st ok⟩
 rw[af hb]at q;exact st (I.hok b w q)
theorem Inv.thaw (I:Inv X pins U H s) (r:Rd H a u) (f:Fz u) (e:s.heap.get? a=some o) (J:Inv X pins σ' H' s') (h':H' a=some (.frz o u)):Inv X pins σ' (back H a H') s':=by
 obtain⟨v,hv⟩:=kr r;obtain⟨n1,n2,n3,n4⟩:=uY r f;have ne:∀{b},H' b=none->b≠a:=λh z=>by rw[z,h']at h;cases h
 have ok:=J.hok a _ h';refine⟨J.ok,J.os,J.bare,⟨J.base.keep,J.base.slot,λb ob q n hx=>?_,J.base.there,λb xs q=>?_,λb ob w q=>?_,λb ps q=>?_⟩,J.loc,J.cell,?_,λx c h=>?_,λp hp=>?_,λb w q=>?_,J.len⟩
 ·have:=J.base.free b ob q n hx;rw[bQ (ne this)];exact this
 ·have:=J.base.tups b xs q;rw[bQ (λz=>by rw[z,h']at this;cases this)];exact this
 ·by_cases hb:b=a
  ·subst hb;rw[jH];exact I.base.frzs b ob w q
  rw[bQ hb];exact J.base.frzs b ob w q
 ·obtain⟨more,z⟩:=J.base.tbls b ps q;exact⟨more,by rw[bQ (λy=>by rw[y,h']at z;cases z)];exact z⟩
 ·rw[bQ (ne J.free)];exact J.free
 ·rw[bQ (ne (J.freeC x c h))];exact J.freeC x c h
 ·obtain⟨p1,p2,p3,p4,p5⟩:=J.pin p hp;exact⟨p1,by rw[bQ (ne p2)];exact p2,p3,p4,p5⟩
 have st:∀{b w},aX X.prog X.w H' s'.heap b w->aX X.prog X.w (back H a H') s'.heap b w:=λh=>h.stay (λ_ _ _ q=>q) (λd q=>by rw[bQ (λz=>by rw[z,h']at q;cases q)];exact q) λd xs q=>by rw[bQ (λz=>by rw[z,h']at q;cases q)];exact q
 by_cases hb:b=a
 ·subst hb;rw[jH]at q;rcases r with r|⟨o2,r⟩
  ·rw[r]at q;cases q;exact st ok.2
  obtain⟨e2,_⟩:=I.hok b _ r;rw[e]at e2;cases e2;rw[r]at q;cases q;exact⟨ok.1,st ok.2⟩
 rw[bQ hb]at q;exact st (J.hok b w q)
noncomputable def uL (D:Ends) (H:Hp) (a:Addr) (o:Obj) (u:HO):Ends where
 nx:=λσ' H'=>H' a=some (.frz o u)/\D.nx σ' (back H a H')
 bk:=λσ' H'=>H' a=some (.frz o u)/\D.bk σ' (back H a H')
 ct:=λσ' H'=>H' a=some (.frz o u)/\D.ct σ' (back H a H')
 rt:=λv H'=>H' a=some (.frz o u)/\D.rt v (back H a H')
def xg (t:TS):TS:=λD U H=>∃a u,Rd H a u/\Fz u/\∀o,t (uL D H a o u) U (upd H a (.frz o u))
theorem v8 {st:Stmt} {t:TS} (h:PS X st t):PS X st (xg t):=by
 intro pins s U H D I q;obtain⟨a,u,r,f,q⟩:=q;obtain⟨v,hv⟩:=kr r
 obtain⟨o,e⟩:∃o,s.heap.get? a=some o:=by
  rcases r with r|⟨o,r⟩
  ·have:=(I.hok a _ r)
   cases u with
   | lst xs=>obtain⟨_,_,_,_,e⟩:=this;exact⟨_,e⟩
   | dK kvs=>obtain⟨_,_,_,_,o,_,_,e,_⟩:=this;exact⟨_,e⟩
   | dT kvs=>obtain⟨_,_,_,_,o,_,_,e,_⟩:=this;exact⟨_,e⟩
   | _=>exact f.elim
  exact⟨o,(I.hok a _ r).1⟩
 refine Xg (h pins s U _ _ (I.freeze r f e) (q o)) (λfl s' z=>?_) λ_ _ z=>z
 cases fl with
 | next=>obtain⟨σ',H',J,h1,h2⟩:=z;exact⟨σ',_,I.thaw r f e J h1,h2⟩
 | brk=>obtain⟨σ',H',J,h1,h2⟩:=z;exact⟨σ',_,I.thaw r f e J h1,h2⟩
 | cont=>obtain⟨σ',H',J,h1,h2⟩:=z;exact⟨σ',_,I.thaw r f e J h1,h2⟩
 | ret w=>obtain⟨v,σ',H',J,rv,h1,h2⟩:=z;exact⟨v,σ',_,I.thaw r f e J h1,rv,h2⟩
end
def Itd (a:Addr) (o:Obj) (kvs:List (Key × V)):It :=
 ⟨λi H=>H a=some (.frz o (.dK kvs))/\i<kvs.length,λi H x H'=>H'=H/\∃k v,kvs[i]?=some (k,v)/\x=kV k,λi H=>H a=some (.frz o (.dK kvs))/\kvs.length<=i⟩
theorem vB {P:Program} {w:World} {k:Key} (h:(aZ P w).is k u=true):aF (kV k) u:=by
 rcases bu (show iu k u=true from h) with⟨i,t,rfl,rfl⟩|⟨x,t,rfl,rfl⟩
 ·exact⟨t,rfl⟩
 exact⟨t,rfl⟩
theorem KV.len {κ:Type} {xs:List (κ × V)} {ys:List (κ × Value)} (r:KV xs ys):xs.length=ys.length:=Paired.length r
theorem KV.get {κ:Type}:∀{xs:List (κ × V)} {ys:List (κ × Value)} {i:Nat} {k:κ} {v:V},KV xs ys->xs[i]?=some (k,v)->∃u,ys[i]?=some (k,u)/\aF v u
 | _,_,_,_,_,.nil,e=>by simp at e
 | _,(k',u)::_,0,k,v,.cons r _,e=>by
  simp at e;subst e;obtain⟨r1,r2⟩:=r;have r1:k=k':=r1;subst r1;exact⟨u,rfl,r2⟩
 | _,_,i+1,k,v,.cons _ t,e=>by
  obtain⟨u,h1,h2⟩:=KV.get (i:=i) t (by simpa using e);exact⟨u,by simpa using h1,h2⟩
variable {kvs:List (Key × V)}
theorem eQ {o:Obj} {es:Array DictEntry} {ep:Nat} (I:Inv X pins U H s) (h:H a=some (.frz o (.dK kvs))) (hd:o.data=.dict es ep) :
  ∃vs,KV kvs vs/\s.heap.DictAt (aZ X.prog X.w) a vs ep/\(a==sysModules)=false:=by
 obtain⟨e1,z,y,vs,rel,ob,es',ep',e2,c,d,r⟩:=I.hok a _ h;rw[e1]at e2;cases e2;rw[hd]at d;cases d;exact⟨vs,rel,⟨o,es,e1,c,hd,r⟩,y⟩
theorem pA {P:Program} {w:World} {K:PySem.W.Frag} {tg:Expr} (a it:Addr) (o:Obj) (kvs:List (Key × V)) (es:Array DictEntry) (ep:Nat) (hd:o.data=.dict es ep):Turn P w K tg (Itd a o kvs) [it] it (λi h=>h.IsKeyIter it a i kvs.length ep) where
 mem:=by simp
 obj:=λi h st b hb=>by
  have e:b=it:=by simpa using hb
  subst e;obtain⟨ob,e,c,d⟩:=st;exact⟨ob,e,λv z=>by rw[d]at z;cases z⟩
 keep:=λi h h' st k=>st.at λo e=>k it (by simp) o e
 item:=by
  intro X hP hw hK hc i pins s U H E I hf st hg;subst hP hw hK;obtain⟨hz,hi⟩:=hg;obtain⟨vs,rel,da,_⟩:=eQ I hz hd;obtain⟨⟨k,v⟩,hx⟩:∃p,kvs[i]?=some p:=⟨kvs[i],by simp[hi]⟩;obtain⟨u,hu,ru⟩:=rel.get hx;obtain⟨f0,f1,f2,f3,f4,f5⟩:=hf it (by simp);have st0:=st;rw[rel.len]at st;refine wpAny_pyNext_dict_item st da hu λkey h' hkey st' sb=>?_;have I1:Inv X pins U H { s with heap:=h' }:=I.turned (t':=s.toks) (λb o hb e=>(sb.2 b hb).trans e) f0 f1 f3 f4 f5;rw[<-rel.len]at st';obtain⟨ob,e,c,d⟩:=id st';exact⟨key,rfl,sM (s:={ s with heap:=h' }) e c d (by decide) ⟨kV k,H,I1,vB hkey,⟨rfl,k,v,hx,rfl⟩,st',λb hb=>(hf b hb).1⟩⟩
 done:=by
  intro X hP hw hK hc i pins s U H E I hf st hg;subst hP hw hK;obtain⟨hz,hi⟩:=hg;obtain⟨vs,rel,da,_⟩:=eQ I hz hd;obtain⟨f0,f1,f2,f3,f4,f5⟩:=hf it (by simp);rw[rel.len]at st;exact wpAny_pyNext_dict_end (I.ok.hd hc) st da (List.getElem?_eq_none (by rw[<-rel.len];exact hi)) λh' eb=>⟨rfl,I.turned (t':=s.toks) (λb o hb e=>eb b o hb e) f0 f1 f3 f4 f5⟩
 self:=λ_ _ _ _ _ st h=>wpAny_pyIter_keyiter st h
def sK (tl:TE):TI:=λU H R=>tl U H λx H1=>∃a o kvs,x=.ref a/\H1 a=some (.frz o (.dK kvs))/\R (Itd a o kvs) H1
section
variable {X:Cx} {tg:Expr}
theorem rn {l:Expr} {tl:TE} (hl:PE X l tl):PI X tg l (sK tl):=by
 intro pins s U H R I h;refine thn (hl pins s U H _ I h) λv s1 ⟨x,H1,I1,r1,q1⟩=>?_;obtain⟨a,o,kvs,e,hz,q⟩:=q1;subst e;cases r1;obtain⟨e1,_,_,vs,rel,ob,es,ep,e2,c,d,r⟩:=I1.hok a _ hz;rw[e1]at e2;cases e2;obtain⟨vs,rel,da,hm⟩:=eQ I1 hz d;refine wpAny_pyIter_dict hm da ?_;refine⟨s1.heap.objs.size,[s1.heap.objs.size],_,_,H1,rfl,I1.kept (t':=s1.toks) λb o e=>Qf _ e,pA a _ o kvs es ep d,⟨_,QS _ rfl,rfl,by rw[rel.len];rfl⟩,λb hb=>?_,q⟩;have e:b=s1.heap.objs.size:=by simpa using hb
 subst e;exact I1.fpOk (Qh _) (I1.hok.fresh (Qh _))
end
theorem sN {o:Obj} {g:TG} {tb:TS} {D:Ends} (Pv:Nat->St->Hp->Prop) (h0:Pv 0 U H) (hl:∀i U H,i<=kvs.length->Pv i U H->H a=some (.frz o (.dK kvs)))
  (hs:∀i k v U H,kvs[i]?=some (k,v)->Pv i U H->g (kV k) U H λσ2 H2=>tb { D with nx:=Pv (i+1),ct:=Pv (i+1),bk:=D.nx } σ2 H2) (hd:∀U H,Pv kvs.length U H->D.nx U H) :
  ∃W:Nat->Nat->St->Hp->Prop,(∃m,W 0 m U H)/\∀i m U H,W i m U H ->
   ((Itd a o kvs).stop i H/\D.nx U H)\/((Itd a o kvs).go i H/\∃N:St->Hp->Prop,(∀σ' H',N σ' H'->∃m',m'<m/\W (i+1) m' σ' H')/\∀x H',(Itd a o kvs).yld i H x H'->g x U H' λσ2 H2=>tb { D with nx:=N,ct:=N,bk:=D.nx } σ2 H2):=by
 refine⟨λi m U H=>m=kvs.length-i/\i<=kvs.length/\Pv i U H,⟨kvs.length,by simp,Q5 _,h0⟩,?_⟩;rintro i m U H ⟨rfl,hi,p⟩;have q:=hl i U H hi p;by_cases hlt:i<kvs.length
 ·refine .inr ⟨⟨q,hlt⟩,Pv (i+1),λσ' H' p'=>⟨kvs.length-(i+1),by exact om6 hlt,rfl,hlt,p'⟩,λx H' y=>?_⟩;obtain⟨e,k,v,hk,ex⟩:=y;subst e ex;exact hs i k v U _ hk p
 have e:i=kvs.length:=by exact om0 hi hlt
 subst e;exact .inl ⟨⟨q,Qh _⟩,hd U H p⟩
def qJ (td ty tx:TE):TE:=λU H Q=>td U H λx H1=>∃a,x=.ref a/\IsD H1 a/\ty U H1 λy H2=>tx U H2 λz H3=>∃kvs k,H3 a=some (.dK kvs)/\y=kV k /\
 (∀v,aJ kvs k=some v->Q v H3)/\(aJ kvs k=none->kvs.length<sizeLine/\Q z (upd H3 a (.dK (be kvs k z))))
section
variable {X:Cx} {o e f:Expr} {apos cpos:Pos} {td ty tx:TE}
theorem rF (ho:PE X o td) (he:PE X e ty) (hf:PE X f tx) (m:M2 X o "setdefault" apos e f cpos):PE X (.Call (.Attribute o "setdefault" apos) [e,f] [] cpos) (qJ td ty tx):=by
 intro pins s U H Q I h;refine wpAny_Call_method m.base m.few m.line PySem.F.plainAttrs_dict PySem.F.slot_dict_setdefault PySem.F.type_dict_setdefault (thn (ho pins s U H _ I h) λu s1 ⟨x,H1,I1,rx,a,ex,d,q1⟩=>?_);subst ex;obtain rfl:u=Value.ref a:=rx;obtain⟨t1,t2,_⟩:=sD I1 d;refine⟨t1,t2,?_⟩;rw[m.trees]
 refine Calls.callWith_builtin rfl (Calls.evalArgs_plain (Calls.spliced_cons (thn (he pins s1 U H1 _ I1 q1) λiv s2 ⟨y,H2,I2,ry,q2⟩ =>
  Calls.spliced_cons (thn (hf pins s2 U H2 _ I2 q2) λfv s3 ⟨z,H3,I3,rz,kvs,k,ea,ey,q3,q4⟩=>Calls.spliced_nil ?_))))
 subst ey;obtain⟨zl,hd,vs,rel,dd⟩:=mB I3.hok ea
 refine call_meetsIn PySem.F.slot_dict_setdefault dd.typeIs PySem.F.entry_dict_setdefault (PySem.F.args_dict_setdefault_3 _ _ _) (kt_meets_setdefault (aZ X.prog X.w) a (gj ry) hd fv)
  ⟨vs,dd,by rw[<-rel.length];exact zl,λv' hv'=>?_,λhn h' dd' hs=>?_⟩
 ·have r:=rel.val k;rw[hv']at r
  cases l:aJ kvs k with
  | none=>rw[l]at r;exact r.elim
  | some v=>rw[l]at r;exact⟨v,H3,I3.tok _,r,q3 v l⟩
 have r:=rel.val k;rw[hn]at r
 cases l:aJ kvs k with
 | some v=>rw[l]at r;exact r.elim
 | none =>
 obtain⟨zl',q5⟩:=q4 l;have he:∃q,h'.get? a=some q:=let ⟨q,_,_,hq,_⟩:=dd';⟨q,hq⟩
 have hl:(be kvs k z).length<=sizeLine:=by
  rw[cY z l,Qd];exact zl'
 exact⟨z,_,gM I3 (by rw[ea];exact True.intro) hs he (nR hl hd (rel.put k rz) dd'),rz,q5⟩
end
end L2
namespace Bf
section
variable {κ:Type} [DecidableEq κ]
def aS (w:List κ):List κ->List κ
 | []=>w
 | k::ks=>aS (if k∈w then w else w++[k]) ks
def bfs (nx:κ->List κ) (s:κ):Nat->List κ
 | 0=>[s]
 | n+1=>match (bfs nx s n)[n]? with
  | some h=>aS (bfs nx s n) (nx h)
  | none=>bfs nx s n
inductive Reach (nx:κ->List κ) (s:κ):κ->Prop
 | start:Reach nx s s
 | step {a b:κ}:Reach nx s a->b∈nx a->Reach nx s b
theorem cB:∀(ks w:List κ),w <+: aS w ks
 | [],w=>List.prefix_refl w
 | k::ks,w=>by
  unfold aS;refine List.IsPrefix.trans ?_ (cB ks _)
  split
  ·exact List.prefix_refl w
  exact List.prefix_append w [k]
theorem dD:∀(ks w:List κ) (x:κ),x∈aS w ks↔x∈w\/x∈ks
 | [],w,x=>by simp[aS]
 | k::ks,w,x=>by
  unfold aS;rw[dD ks]
  split
  ·rename_i h
   constructor
   ·rintro(q|q)
    ·exact .inl q
    exact .inr (Qs _ q)
   rintro(q|q)
   ·exact .inl q
   rcases Qu.mp q with e|q
   ·subst e;exact .inl h
   exact .inr q
  rw[Qk,Qp,Qu,or_assoc]
theorem dC:∀(ks w:List κ),w.Nodup->(aS w ks).Nodup
 | [],w,h=>h
 | k::ks,w,h=>by
  unfold aS;refine dC ks _ ?_
  split
  ·exact h
  rename_i hk
  rw[List.nodup_append];refine⟨h,by simp,λa ha b hb=>?_⟩;rw[Qp]at hb;subst hb;intro e;subst e;exact hk ha
theorem i0 (w ks ls:List κ):aS w (ks++ls)=aS (aS w ks) ls:=by
 induction ks generalizing w with
 | nil=>rfl
 | cons k ks ih=>exact ih _
theorem nY {w:List κ} {k:κ} (h:k∈w):aS w [k]=w:=by simp[aS,h]
theorem nX {w:List κ} {k:κ} (h:k∉w):aS w [k]=w++[k]:=by simp[aS,h]
variable {nx:κ->List κ} {s:κ}
variable {n i:Nat}
theorem c9 {h:κ} (e:(bfs nx s n)[n]?=some h):bfs nx s (n+1)=aS (bfs nx s n) (nx h):=by
 show (match (bfs nx s n)[n]? with|some h=>aS (bfs nx s n) (nx h)|none=>bfs nx s n)=_;rw[e]
theorem dX (e:(bfs nx s n)[n]?=none):bfs nx s (n+1)=bfs nx s n:=by
 show (match (bfs nx s n)[n]? with|some h=>aS (bfs nx s n) (nx h)|none=>bfs nx s n)=_;rw[e]
theorem mQ (n:Nat):bfs nx s n <+: bfs nx s (n+1):=by
 cases e:(bfs nx s n)[n]? with
 | none=>rw[dX e];exact List.prefix_refl _
 | some h=>rw[c9 e];exact cB _ _
theorem gN (n:Nat):∀m,bfs nx s n <+: bfs nx s (n+m)
 | 0=>List.prefix_refl _
 | m+1=>(gN n m).trans (mQ (n+m))
theorem gG {xs ys:List κ} (h:xs <+: ys) {x:κ} (e:xs[i]?=some x):ys[i]?=some x:=by
 obtain⟨t,rfl⟩:=h;rw[QT (Qc.mp e).1];exact e
theorem hU {xs ys:List κ} (h:xs <+: ys) {x:κ} (hi:i<xs.length) (e:ys[i]?=some x):xs[i]?=some x:=by
 obtain⟨t,rfl⟩:=h;rw[QT hi]at e;exact e
theorem cK:∀n,(bfs nx s n).Nodup
 | 0=>by simp[bfs]
 | n+1=>by
  cases e:(bfs nx s n)[n]? with
  | none=>rw[dX e];exact cK n
  | some h=>rw[c9 e];exact dC _ _ (cK n)
theorem cJ:∀n x,x∈bfs nx s n->Reach nx s x
 | 0,x,h=>by
  have:x=s:=by simpa[bfs] using h
  subst this;exact .start
 | n+1,x,hx=>by
  cases e:(bfs nx s n)[n]? with
  | none=>rw[dX e]at hx;exact cJ n x hx
  | some h =>
  rw[c9 e]at hx;rcases(dD _ _ _).mp hx with q|q
  ·exact cJ n x q
  exact .step (cJ n h (Qn e)) q
theorem mP (n:Nat):(bfs nx s n)[0]?=some s:=gG (by have:=gN (nx:=nx) (s:=s) 0 n;rwa [Nat.zero_add]at this) rfl
theorem qw (n:Nat):s∈bfs nx s n:=Qn (mP n)
theorem nW {i:Nat} {h:κ} (hi:i<n) (e:(bfs nx s n)[i]?=some h):∀k∈nx h,k∈bfs nx s n:=by
 have h1:bfs nx s i <+: bfs nx s n:=by
  have:=gN (nx:=nx) (s:=s) i (n-i);rwa [Nat.add_sub_cancel' (Nat.le_of_lt hi)]at this
 have h2:bfs nx s (i+1) <+: bfs nx s n:=by
  have:=gN (nx:=nx) (s:=s) (i+1) (n-(i+1));rwa [Nat.add_sub_cancel' hi]at this
 intro k hk
 cases q:(bfs nx s i)[i]? with
 | some h' =>
  have:some h'=some h:=(gG h1 q).symm.trans e;cases this;refine h2.subset ?_;rw[c9 q];exact(dD _ _ _).mpr (.inr hk)
 | none =>
 -- then nothing is added any more
 exfalso
 have stay:∀m,bfs nx s (i+m)=bfs nx s i:=by
  intro m
  induction m with
  | zero=>rfl
  | succ m ih =>
  have:(bfs nx s (i+m))[i+m]?=none:=by
   rw[ih];exact List.getElem?_eq_none (QQ (List.getElem?_eq_none_iff.mp q) (Nat.le_add_right i m))
  exact(dX this).trans ih
 have:=stay (n-i);rw[Nat.add_sub_cancel' (Nat.le_of_lt hi)]at this;rw[this,q]at e;cases e
theorem uD (hn:(bfs nx s n).length<=n) (x:κ):x∈bfs nx s n↔Reach nx s x:=by
 refine⟨cJ n x,λr=>?_⟩
 induction r with
 | start=>exact qw n
 | step r hb ih =>
 obtain⟨i,hi,e⟩:=QH.mp ih;exact nW (i:=i) (by omega) (by rw[Qb hi,e]) _ hb
theorem eS:∀(ks w:List κ) (j:Nat) (x:κ),w.length<=j->(aS w ks)[j]?=some x->x∈ks
 | [],w,j,x,hj,e=>by
  have:w[j]?=some x:=e;rw[List.getElem?_eq_none hj]at this;cases this
 | k::ks,w,j,x,hj,e=>by
  unfold aS at e
  split at e
  ·exact Qs _ (eS ks w j x hj e)
  by_cases c:j=w.length
  ·subst c;have:=hU (cB ks (w++[k])) (i:=w.length) (by simp) e;rw[QK (Qh _)]at this;simp at this;exact this▸Q4
  exact Qs _ (eS ks (w++[k]) j x (by simp;omega) e)
theorem iM:∀(n j:Nat) (x:κ),0<j->(bfs nx s n)[j]?=some x->∃i h,i<j/\i<n/\(bfs nx s n)[i]?=some h/\x∈nx h
 | 0,j,x,hj,e=>by
  have:([s]:List κ)[j]?=some x:=e;rw[List.getElem?_eq_none (by simp;omega)]at this;cases this
 | n+1,j,x,hj,e=>by
  cases q:(bfs nx s n)[n]? with
  | none =>
   rw[dX q]at e ⊢;obtain⟨i,h,h1,h2,h3,h4⟩:=iM n j x hj e;exact⟨i,h,h1,by omega,h3,h4⟩
  | some h =>
  rw[c9 q]at e ⊢;by_cases c:j<(bfs nx s n).length
  ·have e':=hU (cB (nx h) (bfs nx s n)) c e;obtain⟨i,h',h1,h2,h3,h4⟩:=iM n j x hj e';exact⟨i,h',h1,by omega,gG (cB _ _) h3,h4⟩
  have hn:n<(bfs nx s n).length:=(Qc.mp q).1;exact⟨n,h,by omega,by omega,gG (cB _ _) q,eS _ _ j x (by omega) e⟩
theorem dP:∀(xs ys:List κ),xs.Nodup->(∀x∈xs,x∈ys)->xs.length<=ys.length
 | [],_,_,_=>Q5 _
 | x::xs,ys,nd,h=>by
  rw[Xb]at nd;have hx:x∈ys:=h x Q4;have:=dP xs (ys.erase x) nd.2 λy hy=>(List.mem_erase_of_ne (λz:y=x=>nd.1 (by rw[<-z];exact hy))).mpr (h y (Qs _ hy));rw[List.length_erase_of_mem hx]at this;have:0<ys.length:=List.length_pos_of_mem hx;simp only[Xh];omega
end
end Bf
namespace L2
open PySem PySem.Spec PyProof.Rows
section
variable {X:Cx}
def v6:V->List V->Hp->VK->Prop:=λx vs H Q=>∃(l:Addr) (xs:List Str) (y:Str) (j:Nat),x=.ref l/\vs=[.str y]/\H l=some (.lst (xs.map V.str))/\xs[j]?=some y/\(∀m,m<j->xs[m]?≠some y)/\xs.length<=100000/\Q (.int j) H
theorem fq:MtR X "list.index" v6:=by
 intro pins s U H x vs v us Q I rx rv h;obtain⟨l,xs,y,j,rfl,rfl,hH,hj,hno,hz,q⟩:=h;cases rx;obtain⟨u,rfl,t,rfl⟩:=dE rv;obtain⟨z,its,n,r,hl,e⟩:=I.lstM hH;have sa:=de r;have hlen:its.length=xs.length:=by rw[<-hl,Qa]
 have hjl:j<xs.length:=(Qc.mp hj).1
 have at':∀m (hm:m<its.toArray.size),isStrOf y its.toArray[m]=(xs[m]'(by rw[Qg]at hm;exact nC hlen hm)==y):=λm hm=>by
  rw[Qg]at hm;obtain⟨u,hu,ru⟩:=r.get (i:=m) (show (xs.map V.str)[m]?=some (.str (xs[m]'(by exact nC hlen hm))) from by rw[Qe,Qb (by exact nC hlen hm)];rfl);obtain⟨tu,eu⟩:=ru;subst eu
  have e2:its.toArray[m]=.str (xs[m]'(by exact nC hlen hm)) tu:=by
   have:=(Qc.mp hu).2;simpa using this
  rw[e2];rfl
 refine call_meets F.slot_list_index ⟨_,e,rfl⟩ F.entry_list_index (F.args_list_index_2 _ _) (MeetsSeq.list_index l its.toArray n (.str y t) (isStrOf y) (λv hv=>eq_isStrOf y t sa v (by simpa using hv)) j (by rw[Qg];exact tY hlen hjl) (by omega) ?_ (λm hm hmj=>?_)) ⟨e,?_⟩
 ·rw[at' j (by rw[Qg];exact tY hlen hjl)];have:=(Qc.mp hj).2;rw[this];simp
 ·rw[at' m hm];rw[Qg]at hm;have h1:=hno m hmj;rw[Qb (by exact nC hlen hm)]at h1;simpa using h1
 exact⟨.int j,H,I.tok _,⟨_,rfl⟩,q⟩
end
section
variable {X:Cx}
theorem rJ {K:PySem.W.Frag} {o e:Expr} {es:List Expr} {to:TE} {t:TA} {name:Str} {apos cpos:Pos} {T id:String} {r:V->List V->Hp->VK->Prop} (hK:X.K=K) (pa:PlainAttrs T) (slot:Slot T name id) (hty:typeOf (.builtin id)=pure (.type "method_descriptor")) (hm:MtR X id r) (ho:PE X o to) (ha:PA X (e::es) t)
  (hbase:attributeBase o name X.env (eval o X.env)=eval o X.env:=by rfl)
  (hfew:((backTo cpos (starEach (e::es) X.env)).all (fun x=>!x.1)&&(backToKw cpos (keywordEach [] X.env)).all (fun x=>x.1.isSome)
   && decide ((e::es).length+([]:List Keyword).length+(if ([]:List Keyword).isEmpty then 0 else 1)<30))=true:=by rfl)
  (hline:(apos.endLine==cpos.line)=true:=by rfl) (hs:starEach (e::es) X.env=(false,eval e X.env)::starEach es X.env:=by rfl) (hplain:(backTo cpos (starEach es X.env)).any (·.1)=false:=by rfl) :
  PE X (.Call (.Attribute o name apos) (e::es) [] cpos) (tBM K T r to t):=by
 subst hK;exact cE pa slot hty hm ho ha hbase hfew hline hs hplain
end
section
variable {X:Cx}
def gF (T:Addr):R2:=λx y H Q=>x=.ref T/\((y=.str "0" /\ Q (.str "1") H)\/(y=.str "1" /\ Q (.str "0") H))
theorem oS {T:Addr} (hT:qI X.K T [("0", .flat (.str "1")),("1", .flat (.str "0"))]):IxR X (gF T):=by
 intro value slice pins s U H x y v u Q I rx ry h hs;obtain⟨e1,h⟩:=h;subst e1;cases rx;have here:KTD.Here X.base s.heap T [("0", .flat (.str "1")),("1", .flat (.str "0"))]:=⟨KTD.text_of_look (get:=λa=>X.K.lookup a) (λa o e=>I.mod.kin a o e) hT,I.bk⟩;rcases h with⟨e,q⟩|⟨e,q⟩
 ·subst e;obtain⟨t,e⟩:=ry;subst e;refine KTD.item_textA here (by rfl) (by decide +kernel) ?_ hs;have e:decide (("0" : Str) = "0")=true:=by decide +kernel
  simp only[KTD.EachL,e,if_true];exact λt=>⟨.str "1", H,I.tok _,⟨_,rfl⟩,q⟩
 subst e;obtain⟨t,e⟩:=ry;subst e;refine KTD.item_textA here (by rfl) (by decide +kernel) ?_ hs;have e:decide (("1" : Str) = "0")=false:=by decide +kernel
 simp only[KTD.EachL,e,Xx,if_false];exact λ_ t=>⟨.str "0", H,I.tok _,⟨_,rfl⟩,q⟩
end
section
variable {X:Cx} {scope:Scope} {tgs:List Str} {cap:List (Str × Nat)}
theorem u6 {j:Nat} {x:Str} {pos' spos:Pos} {elt tg iter:Expr} {ifs:List Expr} {pos:Pos} {wi:TI} {g:TG} {tt:TT} {te:TE} (hN:X.N.Nodup) (hj:X.N[j]?=some x) (hx:Loc X.env.scope x) (hc:X.calm=true) (B:BlockOk X scope tgs cap) (hi:PI X tg iter wi)
  (hg:∀C s H fp,PG (X.block (tgs++cap.map (·.1)) scope C s H fp) tg g) (ht:∀C s H fp,uH (X.block (tgs++cap.map (·.1)) scope C s H fp) ifs tt) (he:∀C s H fp,PE (X.block (tgs++cap.map (·.1)) scope C s H fp) elt te)
  (hs:∀x,foldedSetIterable iter X.env x=pure x:=by intro _;rfl) (hsw:swapsWith (.ListComp elt [⟨tg,iter,ifs,0⟩] scope pos) (some (.Name x pos')) spos.line X.env=pure true:=by rfl)
  (hf:X.fn x=true\/X.env.scope.names.lookup x=some .local:=by z_go):PS X (.Assign [.Name x pos'] (.ListComp elt [⟨tg,iter,ifs,0⟩] scope pos) spos) (qN (i_ wi g tt te (bE tgs cap)) (cT j)):=by
 intro pins s U H D I h;rw[exec_Assign_Name_used _ _ _ _ hsw];refine Qi (wpAny_standAt (Qi ?_));show wpAny _ _ (comprehension _ _ _ _ _ _ _ _ >>= _) _ _ _;refine Qi (thn (Q:=λ_ s'=>SP X pins D .next s') ?_ λ_ s' q=>QJ (QJ q));refine wpAny_comprehension_free (use:=some (assign (.Name x pos') X.env)) rfl hs (iJ (B.cellAt I.ok)) B.kind B.locs (thn (hi pins s U H _ I h) λv s1 h1=>thn h1 λitv s2 h2=>?_);obtain⟨it,fp,tn,J,H2,e,I2,T,st2,f2,q⟩:=h2;subst e;have lt2:∀b∈fp,b<s2.heap.objs.size:=λb hb=>let ⟨o,e,_⟩:=T.obj _ _ st2 b hb;Qo e;have hD:H2 s2.heap.objs.size=none:=I2.hok.fresh (Qh _);obtain⟨W,⟨m0,w0⟩,turn⟩:=q s2.heap.objs.size hD;refine wpAny_newObj_type ?_;have I3:Inv X pins U (upd H2 s2.heap.objs.size (.lst [])) { s2 with heap:=s2.heap.push { cls:=.type "list", dict:=none,data:=.seq ([]:List Value).toArray } }:=I2.lnew (t':=s2.toks) (ys:=[]) (its:=[]) .nil (Q5 _);have st3:tn 0 (s2.heap.push { cls:=.type "list", dict:=none,data:=.seq ([]:List Value).toArray }):=T.keep _ _ _ st2 λb _ o e=>Qf _ e;have nD:∀b∈fp,b≠s2.heap.objs.size:=λb hb=>QI (lt2 b hb);have f3:∀b∈fp,eW X pins (upd H2 s2.heap.objs.size (.lst [])) b:=λb hb=>⟨by rw[af (nD b hb)];exact(f2 b hb).1,(f2 b hb).2⟩;generalize hs3:({ s2 with heap:=s2.heap.push { cls:=.type "list", dict:=none,data:=.seq ([]:List Value).toArray } }:Shared)=s3 at I3 st3 ⊢;have st3':tn 0 s3.heap:=by rw[<-hs3];exact st3
 have lt3:∀b∈fp,b<s3.heap.objs.size:=λb hb=>let ⟨o,e,_⟩:=T.obj _ _ st3' b hb;Qo e;generalize hH3:upd H2 s2.heap.objs.size (.lst [])=H3 at I3 f3 w0;generalize s2.heap.objs.size=DD at *;refine wpAny_newFunctionEnv B.noc (by intro y hy;simp at hy) (λh1 hns hsb=>?_) B.kind;have old:∀b o,s3.heap.get? b=some o->h1.get? b=some o:=λb o e=>hsb.extBut b o (QI (Qo e)) (Qf _ e);have I4:=Inv.enter (tk:=s3.toks+([]:List (Str × Value)).length) (h1:=h1) B I3 f3 lt3 hns old;have st4:tn 0 h1:=T.keep _ _ _ st3' λb _ o e=>old b o e
 have fpB:∀{H':Hp},(∀b∈fp,H' b=none)->∀b∈fp,eW (X.block (tgs++cap.map (·.1)) scope s3.heap.objs.size s3 H3 fp) [] H' b:=λ{H'} hn b hb =>
  ⟨hn b hb,QI (lt3 b hb),I4.ok.exfs b hb,.inl hb,λx c e=>(I4.ok.exf b hb).2 x c e,λp hp=>absurd (show p∈([]:B1) from hp) (by simp)⟩
 have loop:codeAny (model X.prog X.w) X.A (.compLoop (.ListComp elt [⟨tg,iter,ifs,0⟩] scope pos) 0 (.ref it) (.ref DD) (compEnvC scope (cr X.env scope.names []) s3.heap.objs.size X.env))
   (compPost (model X.prog X.w) X.A X.xe (some (assign (.Name x pos') X.env)) (λ_ s'=>SP X pins D .next s') (.ref DD) s3.heap.objs.size) { s3 with heap:=h1,toks:=s3.toks+([]:List (Str × Value)).length }:=by
  refine fF (λn s'=>∃i H' ys,Inv (X.block (tgs++cap.map (·.1)) scope s3.heap.objs.size s3 H3 fp) [] (bE tgs cap U) H' s'/\tn i s'.heap/\(∀b∈fp,H' b=none)/\W i n H' ys) ?_ m0 ⟨0,H3,[],I4,st4,λb hb=>(f3 b hb).1,w0⟩;rintro n s5 ⟨i,H5,ys,I5,st5,fr5,w5⟩;obtain⟨hl,ht5⟩:=turn i n H5 ys w5;rcases ht5 with⟨stop,qd⟩|⟨go,step⟩
  ·refine thn (T.done (X.block (tgs++cap.map (·.1)) scope s3.heap.objs.size s3 H3 fp) rfl rfl rfl hc i [] s5 _ H5 _ I5 (fpB fr5) st5 stop) λr s6 ⟨hr,I6⟩=>?_;subst hr;obtain⟨m6,n6,_⟩:=I6.loc;have IO:Inv X pins U H5 s6:=Inv.leave (h2:=s6.heap) I3 f3 I6 ⟨rfl,λ_ _=>rfl⟩;have fC:eW X pins H5 s3.heap.objs.size:=⟨I6.free,(I3.fpOk (Qh _) (I3.hok.fresh (Qh _))).2⟩;obtain⟨f0,f1,f2',f3',f4,f5⟩:=fC;refine wpAny_assign_Name (jd IO hN hj hx (show aF (.ref DD) (.ref DD) from rfl) (λs7 I7 ⟨a,sb,ha⟩=>?_) hf)
   have na:s3.heap.objs.size≠a:=by
    rcases ha with z|z
    ·rw[z];exact f1
    exact λy=>f4 x a z y.symm
   obtain⟨o6,es6,ep6,ho6,r6⟩:=n6;refine⟨m6,⟨o6,es6,ep6,(sb.2 _ na).trans ho6,r6⟩,λh' hs'=>⟨_,H5,I7.turned (t':=s7.toks) (λb o hb q=>(hs'.2 b hb).trans q) f0 f1 f3' f4 f5,qd⟩⟩
  refine thn (T.item (X.block (tgs++cap.map (·.1)) scope s3.heap.objs.size s3 H3 fp) rfl rfl rfl hc i [] s5 _ H5 _ I5 (fpB fr5) st5 go) λr s6 ⟨u,hr,h6⟩=>?_;subst hr;refine thn h6 λ_ s7 ⟨x,H7,I7,r7,y7,st7,fr7⟩=>?_;have I7':=I7.pinned (fpB fr7) (T.obj _ _ st7)
  have again:∀{σ8:St} {H8:Hp} {s8:Shared} {ys8:List V},Inv (X.block (tgs++cap.map (·.1)) scope s3.heap.objs.size s3 H3 fp) ([]++fQ fp s7.heap) σ8 H8 s8->wk (bE tgs cap U) σ8->(∃m',m'<n/\W (i+1) m' H8 ys8) ->
    ∃m,m<n/\∃i H' ys,Inv (X.block (tgs++cap.map (·.1)) scope s3.heap.objs.size s3 H3 fp) [] (bE tgs cap U) H' s8/\tn i s8.heap/\(∀b∈fp,H' b=none)/\W i m H' ys:=λ{σ8 H8 s8 ys8} I8 k8 ⟨m',hm,w8⟩=>by
   refine⟨m',hm,i+1,H8,ys8,I8.unpinned.weak (jK k8) (jL k8),T.keep _ _ _ st7 λb hb o e=>(I8.pin (b,o) (QA _ (QA _ (cz hb e)))).1,λb hb=>?_,w8⟩;obtain⟨o,e,d⟩:=T.obj _ _ st7 b hb;exact(I8.pin (b,o) (QA _ (QA _ (cz hb e)))).2.1
  refine thn (hg _ _ _ _ _ s7 _ H7 x u _ I7' r7 (step x H7 y7)) λ_ s8 ⟨σ8,H8,I8,k8,q8⟩=>?_;refine thn (ht _ _ _ _ _ s8 σ8 H8 _ I8 q8) λok s9 ⟨H9,I9,q9⟩=>?_
  cases ok with
  | false =>
   rw[Qz Qj]at q9 ⊢;exact again I9 k8 q9
  | true =>
  rw[Qv rfl]at q9 ⊢;refine thn (he _ _ _ _ _ s9 σ8 H9 _ I9 q9) λy sA ⟨yv,HA,IA,rA,hA,zA,qA⟩=>?_;exact thn (bA _ sA σ8 HA (.ref DD) [yv] (.ref DD) [y] (λv H'=>v=.non/\∃m',m'<n/\W (i+1) m' H' (ys++[yv])) IA rfl (.cons rA .nil) ⟨DD,ys,yv,rfl,rfl,hA,zA,rfl,qA⟩) λ_ sB ⟨_,HB,IB,_,_,qB⟩=>again IB k8 qB
 exact codeAny_compStart_list loop (T.self _ 0 _ _ _ st4 loop)
end
end L2
namespace LZ
open PySem
section
variable {prog:Program} {w:World} {A:Around} {E:B0} {s:Shared}
abbrev IsZ (h:Heap) (z TI TO:Addr) (f0:Value) (f1:Bool):Prop :=
 h.get? z=some { cls:=.type "zip", dict:=none,data:=.fields #[f0,.bool f1,.bool false,.ref TI,.ref TO],slots:=#[] }
structure Apart5 (z TI TO i1 i2 l:Addr):Prop where
 TIz:TI≠z
 TOz:TO≠z
 i1z:i1≠z
 i2z:i2≠z
 TITO:TI≠TO
 TIi1:TI≠i1
 TIi2:TI≠i2
 TOi1:TO≠i1
 TOi2:TO≠i2
 i12:i1≠i2
 lz:l≠z
 lTO:l≠TO
 li1:l≠i1
 li2:l≠i2
end
theorem ig:mroOf (.type "dict")=pure [.type "dict", .type "object"]:=by rw[mroOf_type];kernel_rfl
theorem gx:typeLookup (.type "dict") "__new__" = pure (some (.builtin "dict.__new__")):=by rw[typeLookup_type,builtinLookup_eq_fast];kernel_rfl
theorem mN:TypeCalled "dict" "dict.__new__" "dict.__init__" :=
 ⟨by decide +kernel,by decide +kernel,⟨_,_,ig⟩,madeBy_type ig gx (by decide +kernel),by decide +kernel,by rw[isSubtype_type];kernel_rfl,F.slot_dict_init⟩
theorem gq (a:Value):checkTypeCall "dict" ⟨[a],[]⟩=pure ():=by kernel_rfl
theorem ic (a:Value):checkBuiltinCall "dict.__new__" ⟨[.type "dict", a],[]⟩=pure ():=by kernel_rfl
theorem iE:entryFor table "dict.__new__" = some Builtin.«dict.__new__»:=entryFor_of_tree (by kernel_rfl)
theorem hV:plainId "dict.__new__" = true:=by decide +kernel
theorem qO:isSubtype (.type "dict") (.type "dict")=pure true:=by rw[isSubtype_type];kernel_rfl
theorem jA:entryFor table "dict.update.loop" = some Builtin.«dict.update.loop»:=entryFor_of_tree (by kernel_rfl)
theorem d7:plainId "dict.update.loop" = true:=by decide +kernel
structure ApartD (z TI TO i1 i2 l d:Addr):Prop extends Apart5 z TI TO i1 i2 l where
 dz:d≠z
 dTI:d≠TI
 dTO:d≠TO
 di1:d≠i1
 di2:d≠i2
 dl:d≠l
structure ZS (h:Heap) (z TI TO i1 i2 l d:Addr) (ty:String) (x:Str) (t:Tok) (xs:Array Value) (k:Nat):Prop where
 zf:(IsZ h z TI TO .none false/\∃a b,IsPair h TO a b)\/∃(T:Addr) (f1:Bool) (oT:Obj),IsZ h z TI TO (rawInt (T:Nat)) f1/\h.get? T=some oT/\T≠z/\T≠i1/\T≠i2/\T≠d
 ti:IsPair h TI (.ref i1) (.ref i2)
 a1:h.IsListIter i1 l k
 a2:h.IsStrIter i2 ty x t k
 li:h.IsList l xs
section
variable {prog:Program} {w:World} {K:Type} [DecidableEq K] {knd:KeyKind prog w K} {A:Around} {R:Result->Shared->Prop}
def d6 (kvs:List (K × Value)) (ps:List (K × Value)):List (K × Value):=ps.foldl (λacc p=>stored acc p.1 p.2) kvs
theorem m9 (kvs:List (K × Value)) (k:K) (v:Value):(stored kvs k v).length<=kvs.length+1:=by
 unfold stored
 split
 ·rw[Qa];exact ym
 rw[Qd];simp
variable {Q E:B0}
theorem iY {s:Shared} (a:Value) (h:Q (.ref s.heap.objs.size) { s with heap:=s.heap.push { cls:=.type "dict", data:=.dict #[] } }) :
  codeAny (model prog w) A (.call (.builtin "dict.__new__") ⟨[.type "dict", a],[]⟩) (wants Q E) s:=by
 refine codeAny_call_builtin hV iE (wpAny_of_eq (ic a) ?_);have hsub:=qO;have hmro:=ig;obtain⟨hp,g,d,tk,os⟩:=s;unfold Builtin.«dict.__new__»
 wp_walk
 exact h
end
end LZ
namespace L2
open PySem PySem.Spec PyProof.Rows
def bJ (kvs:List (Key × V)):List (Key × V)->List (Key × V)
 | []=>kvs
 | p::r=>bJ (be kvs p.1 p.2) r
theorem su:∀{qs:List (Key × V)} {ps:List (Key × Value)} {kvs:List (Key × V)} {vs:List (Key × Value)},KV qs ps->KV kvs vs->KV (bJ kvs qs) (LZ.d6 vs ps)
 | [],_,_,_,h,r=>by cases h;exact r
 | q::qs,p::ps,kvs,vs,h,r=>by
  cases h with
  | cons h1 h2 =>
  show KV (bJ (be kvs q.1 q.2) qs) (LZ.d6 (stored vs p.1 p.2) ps);rw[<-h1.1];exact su h2 (r.put q.1 h1.2)
theorem paired_get {α β:Type} {F:α->β->Prop}:∀{xs:List α} {ys:List β},xs.length=ys.length->(∀(j:Nat) x y,xs[j]?=some x->ys[j]?=some y->F x y)->Paired F xs ys
 | [],[],_,_=>.nil
 | x::xs,y::ys,hl,h=>.cons (h 0 x y rfl rfl) (paired_get (by simpa using hl) λj a b e1 e2=>h (j+1) a b (by simpa using e1) (by simpa using e2))
theorem eD:∀(qs kvs:List (Key × V)),(bJ kvs qs).length<=kvs.length+qs.length
 | [],kvs=>Qh _
 | q::qs,kvs=>by
  have h1:=eD qs (be kvs q.1 q.2);have h2:=bC kvs q.1 q.2;show (bJ (be kvs q.1 q.2) qs).length<=_;rw[Xh];exact yo h1 h2
section
variable {X:Cx} {a b:Expr} {ta:TA} {p1 p2 pos1 pos2:Pos}
end
end L2
namespace LZ
open PySem
section
variable {prog:Program} {w:World} {A:Around} {E:B0} {s:Shared}
theorem fB:typeLookup (.type "list") "__getattr__" = pure none:=by rw[typeLookup_type,builtinLookup_eq_fast];kernel_rfl
theorem iq:typeLookup (.type "list") "keys" = pure none:=by rw[typeLookup_type,builtinLookup_eq_fast];kernel_rfl
theorem c7:entryFor table "list.__getattribute__" = some Builtin.«object.__getattribute__» :=
 entryFor_alias (id' := "object.__getattribute__") (by kernel_rfl) (by decide +kernel) (by decide +kernel) (by kernel_rfl)
theorem gw (a:Addr) (xs:Array Value) (m:Nat) (sl:Array (Option Value)) (u:Tok) :
  Meets (Builtin.«object.__getattribute__» ⟨[.ref a,.str "keys" u],[]⟩) (λA R s=>s.heap.get? a=some { cls:=.type "list", dict:=none,data:=.seq xs m,slots:=sl }/\raisesAttr (.ref a) "keys" A R s) :=
 Meets.of_wp λprog w A R s hs=>by
  obtain⟨hp,g,d,tk,os⟩:=s;obtain⟨hx,hs⟩:=hs;have hT:(⟨hp,g,d,tk,os⟩:Shared).TypeIs (.ref a) "list" := ⟨_,hx,rfl⟩;have hmiss:=iq;have hname:(["__module__", "__name__", "__qualname__", "__doc__", "__annotations__"]:List Str).contains "keys" = false:=by decide +kernel
  unfold Builtin.«object.__getattribute__»
  repeat (any_goals (first|assumption|wp_step))
  try simp only[hname,Xx,if_false]
  repeat (any_goals (first|assumption|wp_step))
  exact wpAny_raiseAttrError hs.1 hs.2 (attrMsg_fits (by decide +kernel) (by decide +kernel))
theorem nN {a:Addr} {xs:Array Value} {m:Nat} {sl:Array (Option Value)} {Q:Option Value->Shared->Prop} (hx:s.heap.get? a=some { cls:=.type "list", dict:=none,data:=.seq xs m,slots:=sl }) (hA:A.handled=none)
  (h:∀h' tk,(∀c o,s.heap.get? c=some o->h'.get? c=some o)->Q none { s with heap:=h',toks:=tk }):wpAny (model prog w) A (getAttr? (.ref a) "keys") Q E s:=by
 obtain⟨hp,g,d,tk,os⟩:=s;have hT:∀tk',(⟨hp,g,d,tk',os⟩:Shared).TypeIs (.ref a) "list" := λ_=>⟨_,hx,rfl⟩;have f1:=sub_AttributeError;have f3:=F.slot_list_getattribute.lookup;have f4:=F.slot_list_getattribute.bind (.ref a);have f5:=fB;unfold getAttr? getAttrBy? getAttrBy
 repeat (any_goals (first|assumption|exact hT _|((with_reducible show wpAny _ _ (call (Value.builtin "list.__getattribute__") _ _) _ _ _);refine call_meets F.slot_list_getattribute (hT _) c7 (F.args_list_getattribute_2 _ _) (gw a xs m sl _) ⟨hx,hA,λh' tk' e hx'=>?_⟩)|wp_step))
 obtain⟨t',u',he⟩:=hx'.there;show wpAny _ _ (getattributeRaised _ _ _ _ _ _ _) _ _ _;unfold getattributeRaised
 repeat (any_goals (first|assumption|wp_step))
 all_goals exact h _ _ hx'.keeps
end
section
variable {prog:Program} {w:World} {K:Type} [DecidableEq K] {knd:KeyKind prog w K} {A:Around} {R:Result->Shared->Prop}
def PairsAt (h:Heap) (xs:Array Value) (ka va:Nat->Value) (it d:Addr):Prop:=∀k,k<xs.size->∃(T:Addr) (o:Obj) (n:Nat),xs[k]?=some (.ref T)/\h.get? T=some o/\o.cls=.type "tuple" /\ o.data=.seq #[ka k,va k] n/\T≠it/\T≠d
theorem PairsAt.keep {h h':Heap} {xs:Array Value} {ka va:Nat->Value} {it d:Addr} (p:PairsAt h xs ka va it d) (hk:∀c o,c≠it->c≠d->h.get? c=some o->h'.get? c=some o):PairsAt h' xs ka va it d:=λk hlt =>
 let ⟨T,o,n,e1,e2,e3,e4,e5,e6⟩:=p k hlt;⟨T,o,n,e1,hk T o e5 e6 e2,e3,e4,e5,e6⟩
theorem nS {it l d:Addr} {xs:Array Value} {ka va:Nat->Value} (nid:d≠it) (nil:l≠it) (ndl:l≠d) (hh:A.handled=none) (ks:Nat->K) (hk:∀k,k<xs.size->knd.is (ks k) (ka k)=true) (hsz:xs.size<=sizeLine) :
  ∀(m k:Nat) (i:Int) (s:Shared) (kvs:List (K × Value)),xs.size-k=m->k<=xs.size->s.heap.IsListIter it l k->s.heap.IsList l xs->PairsAt s.heap xs ka va it d->s.heap.DictOf knd d kvs->kvs.length<=k ->
  (∀h' tk,h'.DictOf knd d (d6 kvs ((List.range (xs.size-k)).map λj=>(ks (k+j),va (k+j))))->(∀c o,c≠it->c≠d->s.heap.get? c=some o->h'.get? c=some o)->R (.ok (.ret .none)) { s with heap:=h',toks:=tk }) ->
  codeAny (model prog w) A (.builtin "dict.update.loop" ⟨[.ref d,.ref it,rawInt i,.none],[]⟩) R s:=by
 intro m
 induction m with
 | zero =>
  intro k i s kvs hm hkk hit hl hp hd hkl hR;have hin:k=xs.size:=by exact yk hm hkk
  refine codeAny_builtin jA ?_;rw[Around.under_plainId d7 _];show wpAny _ A.in1 (pyNext (.ref it) >>= _) _ _ s;refine Qi (wpAny_pyNext_list_end (show A.in1.handled=none from hh) hit hl (by rw[hin];simp) λh' hkeep=>?_);show wpAny _ _ (Builtin.Dict.addKeywords d [] >>= _) _ _ _;refine Qi (QJ (QJ ?_))
  have hd':h'.DictOf knd d kvs:=by
   obtain⟨o,es,ep,e1,r⟩:=hd;exact⟨o,es,ep,hkeep d o nid e1,r⟩
  refine hR h' s.toks ?_ λc o c1 _ e=>hkeep c o c1 e;rw[hm];exact hd'
 | succ m ih =>
 intro k i s kvs hm hkk hit hl hp hd hkl hR;have hlt:k<xs.size:=by exact yj hm hkk
 obtain⟨T,oT,n,hx,hT,hTc,hTd,nTi,nTd⟩:=hp k hlt;refine codeAny_builtin jA ?_;rw[Around.under_plainId d7 _];show wpAny _ A.in1 (pyNext (.ref it) >>= _) _ _ s;refine Qi (wpAny_pyNext_list_item hit hl hx λh1 hit1 hs1=>?_);have k1:∀c o,c≠it->s.heap.get? c=some o->h1.get? c=some o:=λc o n1 e=>hs1.extBut c o n1 e
 have hd1:h1.DictOf knd d kvs:=by
  obtain⟨o,es,ep,e1,r⟩:=hd;exact⟨o,es,ep,k1 d o nid e1,r⟩
 have hT1:=k1 T oT nTi hT;refine Qi (XA ?_);have hTy:(Shared.TypeIs { s with heap:=h1 } (.ref T) "tuple"):=⟨_,hT1,hTc⟩;refine Qi (wpAny_tryCatch ?_);unfold Builtin.Dict.pairItems;refine Qi (wpAny_typeOf hTy ?_);rw[Qv (by decide)];refine Qi (wpAny_seqItems hT1 hTd (QJ ?_));show wpAny _ _ (holding [ka k,va k] (dictSet d (ka k) (va k))) _ _ _;refine XA (wpAny_dictSet_pairs (hk k hlt) hd1 (λh2 hd2 hs2=>?_) (by exact yi hsz hkl hlt));have k2:∀c o,c≠it->c≠d->s.heap.get? c=some o->h2.get? c=some o:=λc o n1 n2 e=>hs2.extBut c o n2 (k1 c o n1 e);refine QJ ⟨plainId_quiet d7 _,ih (k+1) (i+1) _ _ (by exact yg hm hlt) (by exact yf hlt) (hit1.extBut hs2.extBut (Xz nid)) (hl.at λo e=>k2 l o nil ndl e) (hp.keep k2) hd2 (QQ (m9 _ _ _) (by exact rR hkl)) λh3 tk hd3 hk3=>?_⟩;refine hR h3 tk ?_ λc o c1 c2 e=>hk3 c o c1 c2 (k2 c o c1 c2 e);rw[show xs.size-k=(xs.size-(k+1))+1 from by exact ye hm hlt,List.range_succ_eq_map,QL,List.map_map];have e:(List.range (xs.size-(k+1))).map (λj=>(ks (k+1+j),va (k+1+j)))=(List.range (xs.size-(k+1))).map ((λj=>(ks (k+j),va (k+j)))∘Nat.succ):=List.map_congr_left λj _=>by simp[Function.comp,Nat.add_assoc,Nat.add_comm 1]
 rw[e]at hd3;exact hd3
variable {Q E:B0}
theorem nV {s:Shared} {l:Addr} {xs:Array Value} {ka va:Nat->Value} (hh:A.handled=none) (ks:Nat->K) (hk:∀k,k<xs.size->knd.is (ks k) (ka k)=true) (hsz:xs.size<=sizeLine) (hl:PlainL s.heap l xs)
  (hp:∀k,k<xs.size->∃(T:Addr) (o:Obj) (n:Nat),xs[k]?=some (.ref T)/\s.heap.get? T=some o/\o.cls=.type "tuple" /\ o.data=.seq #[ka k,va k] n)
  (h:∀h' tk,h'.DictOf knd s.heap.objs.size (d6 [] ((List.range xs.size).map λj=>(ks j,va j)))->(∀c o,s.heap.get? c=some o->h'.get? c=some o)->Q (.ref s.heap.objs.size) { s with heap:=h',toks:=tk }) :
  wpAny (model prog w) A (call (.type "dict") [.ref l]) Q E s:=by
 refine callType_codes (Q₁:=λobj s1=>obj=.ref s.heap.objs.size/\s1={ s with heap:=s.heap.push { cls:=.type "dict", data:=.dict #[] } }) mN (gq _) F.entry_dict_init (iY _ ⟨rfl,rfl⟩) ?_;rintro obj s1 ⟨rfl,rfl⟩;have up:∀c o,s.heap.get? c=some o->(s.heap.push { cls:=.type "dict", data:=.dict #[] }).get? c=some o:=λc o e=>Qf _ e;have hnew:(s.heap.push { cls:=.type "dict", data:=.dict #[] }).DictOf knd s.heap.objs.size []:=Heap.DictOf.new s.heap;have lt:∀{c o},s.heap.get? c=some o->s.heap.objs.size≠c:=λe=>Nat.ne_of_gt (Qo e);obtain⟨⟨c0,d0,dt0,sl0⟩,n0,ho,hoc,hod,hos⟩:=hl;have hoc:c0=.type "list" := hoc;have hod:d0=none:=hod;have hos:dt0=.seq xs n0:=hos;subst hoc hod hos;refine⟨hnew.typeIs,F.args_dict_init_2 _ _,?_⟩;unfold Builtin.«dict.__init__»;refine Qi ?_;unfold Builtin.Dict.selfAndRest;refine Qi (wpAny_notOrdered_dict hnew.typeIs ?_);show wpAny _ _ (pure (s.heap.objs.size,[Value.ref l])) _ _ _;refine QJ ?_;show wpAny _ _ (Builtin.Dict.updateFrom "dict.__init__" s.heap.objs.size (.ref l) [] .none) _ _ _;unfold Builtin.Dict.updateFrom;have hzT:Shared.TypeIs { s with heap:=s.heap.push { cls:=.type "dict", data:=.dict #[] } } (.ref l) "list" := ⟨_,up _ _ ho,rfl⟩;refine Qi (wpAny_typeOf hzT ?_);rw[Qv (by decide)];refine Qi (nN (up _ _ ho) (show A.in1.in1.handled=none from hh) λh3 tk k3=>?_);simp only[Option.isNone_none,if_true];refine Qi (wpAny_rule ?_);have hL3:h3.IsList l xs:=⟨_,k3 _ _ (up _ _ ho),rfl,n0,rfl⟩
 have hd3:h3.DictOf knd s.heap.objs.size []:=by
  obtain⟨o,es,ep,e1,r⟩:=hnew;exact⟨o,es,ep,k3 _ _ e1,r⟩
 obtain⟨od,es,ep,hd3',r3⟩:=id hd3;refine Qi (wpAny_pyIter_list hL3 ?_);refine QJ ⟨plainId_quiet d7 _,?_⟩;have up4:∀c o,h3.get? c=some o->(h3.push { cls:=.type "list_iterator", data:=.fields #[.ref l,.int 0 0] }).get? c=some o:=λc o e=>Qf _ e;have lt3:∀{c o},h3.get? c=some o->c≠h3.objs.size:=λe=>QI (Qo e);refine nS (it:=h3.objs.size) (l:=l) (d:=s.heap.objs.size) (ka:=ka) (va:=va) (lt3 hd3') (lt3 (k3 _ _ (up _ _ ho))) (lt ho).symm (show A.in1.handled=none from hh) ks hk hsz xs.size 0 0 _ [] (by simp) (Q5 _) ⟨_,QS _ rfl,rfl,rfl⟩ (hL3.at λo e=>up4 _ o e) (λk hlt=>?_) ⟨od,es,ep,up4 _ _ hd3',r3⟩ (Qh _) λh5 tk5 hd5 hk5=>?_
 ·obtain⟨T,o,n,e1,e2,e3,e4⟩:=hp k hlt;exact⟨T,o,n,e1,up4 _ _ (k3 _ _ (up _ _ e2)),e3,e4,lt3 (k3 _ _ (up _ _ e2)),(lt e2).symm⟩
 refine⟨rfl,h h5 tk5 (by simpa using hd5) λc o e=>hk5 c o (lt3 (k3 _ _ (up _ _ e))) (lt e).symm (up4 _ _ (k3 _ _ (up _ _ e)))⟩
end
end LZ
namespace L2
open PySem PySem.Spec PyProof.Rows
def tq (H:Hp) (v:V) (p:Str × V):Prop:=∃b,v=.ref b/\H b=some (.tup [.str p.1,p.2])
def fD (ps:List (Str × V)):List (Key × V):=ps.map λp=>((Sum.inr p.1:Key),p.2)
section
variable {X:Cx} {a:Expr} {ta:TA} {p1 pos1:Pos}
def og (K:PySem.W.Frag) (ta:TA):TE:=λU H Q=>ta U H λvs H1=>∃l xs ps,vs=[.ref l]/\SqL K H1 l xs/\xs.length<10000/\Paired (tq H1) xs ps/\∀d,H1 d=none->Q (.ref d) (upd H1 d (.dK (bJ [] (fD ps))))
theorem u7 {H:Hp}:∀{xs:List V} {ps:List (Str × V)},Paired (tq H) xs ps->∀(j:Nat) x,xs[j]?=some x->∃y,ps[j]?=some y/\tq H x y
 | _,_,.nil=>λj x e=>by simp at e
 | _,_,.cons (a:=a) (b:=b) h t=>λj x e=>by
  cases j with
  | zero=>simp at e;subst e;exact⟨_,rfl,h⟩
  | succ j=>simp at e;obtain⟨y,e',f⟩:=u7 t j x e;exact⟨y,by simpa using e',f⟩
theorem rf {H:Hp}:∀{xs:List V} {ps:List (Str × V)},Paired (tq H) xs ps->xs.length=ps.length
 | _,_,.nil=>rfl
 | _,_,.cons h t=>by simp[rf t]
theorem pK (hc:X.calm=true) (hg:Gl X "dict") (hm:X.mg "dict" = none) (ha:PA X [a] ta) (hs:starEach [a] X.env=[(false,eval a X.env)]:=by rfl):PE X (.Call (.Name "dict" p1) [a] [] pos1) (og X.K ta):=by
 intro pins s U H Q I h;refine Call_ (dy I hg hm PyProof.Rows.boot_dict (Xf (thn (ha pos1 pins s U H _ I h) λus s1 ⟨vs,H1,I1,r1,q1⟩=>?_) hs rfl));obtain⟨l,xs,ps,e,hl,hsm,hpr,q⟩:=q1;subst e;obtain⟨u1,e,ru1⟩:=dE r1;subst e;cases ru1;obtain⟨its,rv,pl,_⟩:=I1.list hl;have hits:its.length=xs.length:=rv.length.symm;have hps:=rf hpr;have big:10000<sizeLine:=by decide
 have each:∀k,∃g:Value × Value × Str,k<its.length->∃(T:Addr) (o:Obj) (m:Nat) (v:V) (t:Tok),its[k]?=some (.ref T)/\s1.heap.get? T=some o/\o.cls=.type "tuple" /\ o.data=.seq #[g.1,g.2.1] m/\g.1=.str g.2.2 t/\ps[k]?=some (g.2.2,v)/\aF v g.2.1:=λk=>by
  by_cases hk:k<its.length
  ·have hx:xs[k]?=some (xs[k]'(by exact om3 hits hps hk)):=by simp
   obtain⟨y,hy,b,eb,hb⟩:=u7 hpr k _ hx;obtain⟨u,hu,ru⟩:=rv.get hx;rw[eb]at ru;cases ru;obtain⟨its2,rv2,⟨o,e1,e2,n,e3⟩,_⟩:=I1.tuple (SqT.of hb);obtain⟨w1,w2,e4,r1,r2⟩:=i7 rv2;subst e4;obtain⟨t,et⟩:=r1;subst et;exact⟨(.str y.1 t,w2,y.1),λ_=>⟨b,o,n,y.2,t,hu,e1,e2,e3,rfl,hy,r2⟩⟩
  exact⟨(.none,.none,Str.empty),λh=>absurd h hk⟩
 let g:=λk=>Classical.choose (each k);have hg':∀k,k<its.length->∃(T:Addr) (o:Obj) (m:Nat) (v:V) (t:Tok),its[k]?=some (.ref T)/\s1.heap.get? T=some o/\o.cls=.type "tuple" /\ o.data=.seq #[(g k).1,(g k).2.1] m/\(g k).1=.str (g k).2.2 t/\ps[k]?=some ((g k).2.2,v)/\aF v (g k).2.1:=λk=>Classical.choose_spec (each k);refine LZ.nV (knd:=aZ X.prog X.w) (l:=l) (xs:=its.toArray) (ka:=λk=>(g k).1) (va:=λk=>(g k).2.1) (I1.ok.hd hc) (λk=>(Sum.inr (g k).2.2:Key)) (λk hk=>?_) (by rw[Qg,hits];omega) pl (λk hk=>?_) λh3 tk hd3 kept=>?_
 ·rw[Qg]at hk;obtain⟨T,o,m,v,t,_,_,_,_,e5,_⟩:=hg' k hk;show (aZ X.prog X.w).is _ (g k).1=true;rw[e5];exact gg _ _ _ _
 ·rw[Qg]at hk;obtain⟨T,o,m,v,t,e1,e2,e3,e4,_⟩:=hg' k hk;exact⟨T,o,m,by simpa using e1,e2,e3,e4⟩
 rw[Qg]at hd3
 have kv:KV (fD ps) ((List.range its.length).map λj=>((Sum.inr (g j).2.2:Key),(g j).2.1)):=by
  unfold fD;refine paired_get (by simp[hits,hps]) λj x y e1 e2=>?_;rw[Qe]at e1 e2
  have hj:j<its.length:=by
   cases e:(List.range its.length)[j]? with
   | none=>rw[e]at e2;cases e2
   | some q=>have:=(Qc.mp e).1;simpa using this
  obtain⟨T,o,m,v,t,_,_,_,_,_,e6,e7⟩:=hg' j hj;rw[e6]at e1;rw[List.getElem?_range hj]at e2;cases e1;cases e2;exact⟨rfl,e7⟩
 have hnew:H1 s1.heap.objs.size=none:=I1.hok.fresh (Qh _)
 have I3:Inv X pins U (upd H1 s1.heap.objs.size (.dK (bJ [] (fD ps)))) { s1 with heap:=h3,toks:=tk }:=I1.laid kept (Qh _) ⟨by
   have:=eD (fD ps) [];have e:(fD ps).length=ps.length:=by unfold fD;simp
   simp only[List.length_nil]at this
   omega,beq_eq_false_iff_ne.mpr (by
   have:@LT.lt Nat _ sysModules s1.heap.objs.size:=I1.big;intro e;have e':@Eq Nat s1.heap.objs.size sysModules:=e
   omega),_,su kv .nil,hd3⟩
 exact⟨.ref s1.heap.objs.size,_,I3,rfl,q _ hnew⟩
end
end L2
set_option maxHeartbeats 1000000
namespace Tm
open PySem PyProof.Rows
def kL:Bool->Keyed->Array Keyed->Nat->Nat->Nat->StateT SortSt Sem (Option Nat):=sortPriv% PySem.Builtin.gallop
def lZ:Array Keyed->Array Keyed->StateT SortSt Sem (Array Keyed):=sortPriv% PySem.Builtin.mergeLo
def l0:Array Keyed->Array Keyed->StateT SortSt Sem (Array Keyed):=sortPriv% PySem.Builtin.mergeHi
def gz (κ:KeyKind) (kd:SortKind) (prog:Program) (w:World) (A:Around) (s:Shared):Prop :=
 ∀(E:B0) (x y:Value) (a b:κ.α) (Q:Bool->Shared->Prop),κ.keyOf x=some a->κ.keyOf y=some b->Q (κ.blt a b) s->wpAny (model prog w) A (keyLt' kd x y) Q E s
def kv (κ:KeyKind) (p:Keyed):κ.α:=(κ.keyOf p.1).getD κ.dflt
def Hk (κ:KeyKind) (p:Keyed):Prop:=∃a,κ.keyOf p.1=some a
variable {prog:Program} {w:World} {A:Around} {E:B0} {s:Shared} {κ:KeyKind} {kd:SortKind}
section
theorem aC {U α:Type} {M:Model} {Q:α->U->Prop} {st:U} {c:Prop} [Decidable c] {t e:StateT U Sem α} (h:c) (q:wpS M A E s t Q st):wpS M A E s (if c then t else e) Q st:=by rw[Qv h];exact q
theorem az {U α:Type} {M:Model} {Q:α->U->Prop} {st:U} {c:Prop} [Decidable c] {t e:StateT U Sem α} (h:¬c) (q:wpS M A E s e Q st):wpS M A E s (if c then t else e) Q st:=by rw[Qz h];exact q
variable {i j n hint:Nat}
theorem bT (h:i=j):(i==j)=true:=by simp[h]
theorem bF (h:¬i=j):¬(i==j)=true:=by simpa using h
variable {Q:Option Bool->SortSt->Prop} {x y p key:Keyed} {st:SortSt}
theorem gO (hL:gz κ kd prog w A s) (hk:kindOf st=kd) (hx:Hk κ x) (hy:Hk κ y) (h:Q (some (κ.blt (kv κ x) (kv κ y))) st):wpS (model prog w) A E s (lt' x y) Q st:=by
 obtain⟨a,ha⟩:=hx;obtain⟨b,hb⟩:=hy;rw[lt'_eq];refine Ql (wpS_get ?_);rw[hk];refine Ql (wpS_lift (wpAny_attempt (hL _ _ _ _ _ _ ha hb ⟨rfl,?_⟩)));unfold kv at h;rw[ha,hb]at h;exact Qq h
variable {arr:Array Keyed}
theorem aP {Q:Keyed->SortSt->Prop} (h:arr[i]?=some p) (q:Q p st):wpS (model prog w) A E s (elem' arr i) Q st:=by
 rw[elem'_eq,h];exact Qq q
def bey (κ:KeyKind) (left:Bool) (key p:Keyed):Bool:=if left then κ.blt (kv κ p) (kv κ key) else !κ.blt (kv κ key) (kv κ p)
theorem cL (hL:gz κ kd prog w A s) {left:Bool} {b:Bool} (hk:kindOf st=kd) (hkey:Hk κ key)
  (hP:∃p,arr[j]?=some p/\Hk κ p/\bey κ left key p=b) (h:Q (some b) st) :
  wpS (model prog w) A E s (elem' arr j >>= λx=>if left=true then lt' x key else lt' key x >>= λr=>pure (Option.map (λz=>!z) r)) Q st:=by
 obtain⟨p,hp,hkp,rfl⟩:=hP;refine Ql (aP hp ?_);unfold bey at h
 cases left with
 | true=>exact gO hL hk hkp hkey h
 | false=>exact Ql (gO hL hk hkey hkp (Qq h))
theorem mW (hL:gz κ kd prog w A s) {left:Bool} {base:Nat} {Q:Option Nat->SortSt->Prop} (P:Nat->Bool) (hk:kindOf st=kd) (hkey:Hk κ key)
  (hP:∀i,i<n->∃p,arr[base+i]?=some p/\Hk κ p/\bey κ left key p=P i) (mono:∀i j,i<=j->j<n->P j=true->P i=true) (hh:hint<n)
  (h:∀k,k<=n->(∀i,i<k->P i=true)->(∀i,k<=i->i<n->P i=false)->Q (some k) st):wpS (model prog w) A E s (kL left key arr base n hint) Q st:=by
 have monoF:∀i j,i<=j->j<n->P i=false->P j=false:=λi j h1 h2 h3=>by
  cases e:P j with
  | false=>rfl
  | true=>rw[mono i j h1 h2 e]at h3;cases h3
 unfold kL;refine Ql (cL hL hk hkey (hP hint hh) ?_)
 have fin:∀(lo hi:Nat) (F:(Option (Option Nat) × Nat × Nat)->StateT SortSt Sem (Option Nat)) (body:Nat->(Option (Option Nat) × Nat × Nat)->StateT SortSt Sem (ForInStep (Option (Option Nat) × Nat × Nat))),lo<=hi->hi<=n->(∀i,i<lo->P i=true)->(∀i,hi<=i->i<n->P i=false) ->
   (∀l k,F (none,l,k)=pure (some k))->(∀x l k (R:ForInStep (Option (Option Nat) × Nat × Nat)->SortSt->Prop),l<=k->k<=n->(l=k->R (.done (none,l,k)) st)->(l<k->P (l+(k-l) / 2)=true->R (.yield (none,l+(k-l) / 2+1,k)) st)->(l<k->P (l+(k-l) / 2)=false->R (.yield (none,l,l+(k-l) / 2)) st)->wpS (model prog w) A E s (body x (none,l,k)) R st) ->
   wpS (model prog w) A E s (forIn [0:n] (none,lo,hi) body >>= F) Q st:=λlo hi F body h1 h2 h3 h4 hF hb=>by
  refine Ql (wpS_mono (Xl (I:=λx c st'=>st'=st/\∃l k,c=(none,l,k)/\l<=k/\k<=n/\k-l<=n-x/\(∀i,i<l->P i=true)/\(∀i,k<=i->i<n->P i=false))
   (Q:=λc st'=>st'=st/\∃k,c=(none,k,k)/\k<=n/\(∀i,i<k->P i=true)/\(∀i,k<=i->i<n->P i=false)) ?_ ?_ ⟨rfl,lo,hi,rfl,h1,h2,by exact By h1 h2,h3,h4⟩) ?_)
  ·rintro x c st' _ hx ⟨rfl,l,k,rfl,a1,a2,a3,a4,a5⟩;refine hb x l k _ a1 a2 (λe=>?_) (λe p=>?_) (λe p=>?_)
   ·subst e;exact⟨rfl,l,rfl,a2,a4,a5⟩
   ·exact⟨rfl,_,k,rfl,by exact Bx e,a2,xO a3,λi hi=>mono i _ (by exact Bw hi) (by exact Bv a2 e) p,a5⟩
   exact⟨rfl,l,_,rfl,by exact Bu,by exact Bt a2 e,xN a3 e,a4,λi h1 h2=>monoF _ i h1 h2 p⟩
  ·rintro c st' ⟨rfl,l,k,rfl,a1,a2,a3,a4,a5⟩;have:l=k:=by exact yn a1 a3
   subst this;exact⟨rfl,l,rfl,a2,a4,a5⟩
  rintro c st' ⟨rfl,k,rfl,a2,a4,a5⟩;rw[hF];exact Qq (h k a2 a4 a5)
 dsimp only
 cases hp:P hint with
 | true =>
  refine aC rfl ?_
  refine Ql (wpS_mono (Xl (I:=λx c st'=>st'=st/\∃l o,c=(none,l,o)/\l<o/\x+1<=o/\hint+l<n/\P (hint+l)=true)
   (Q:=λc st'=>st'=st/\∃l o,c=(none,l,o)/\l<o/\hint+l<n/\P (hint+l)=true/\(o<n-hint->P (hint+o)=false)) ?_ ?_ ⟨rfl,0,1,rfl,by omega,by omega,by exact Bs hh,hp⟩) ?_)
  ·rintro x c st' _ hx ⟨rfl,l,o,rfl,a1,a2,a3,a4⟩;dsimp only;by_cases c1:o>=n-hint
   ·refine aC c1 ?_;exact Qq ⟨rfl,l,o,rfl,a1,a3,a4,λz=>by omega⟩
   refine az c1 ?_;refine Ql (cL hL hk hkey (hP (hint+o) (by exact yh hh c1)) ?_);dsimp only
   cases e:P (hint+o) with
   | true =>
    refine az Qj ?_;exact Qq ⟨rfl,o,2*o+1,rfl,by exact yd,by omega,by exact yh hh c1,e⟩
   | false =>
   refine aC rfl ?_;exact Qq ⟨rfl,l,o,rfl,a1,a3,a4,λ_=>e⟩
  ·rintro c st' ⟨rfl,l,o,rfl,a1,a2,a3,a4⟩;exact⟨rfl,l,o,rfl,a1,a3,a4,λz=>by omega⟩
  rintro c st' ⟨rfl,l,o,rfl,a1,a3,a4,a5⟩;dsimp only;refine fin _ _ _ _ (by exact Br hh a1 a3) (by exact Bq hh) (λi hi=>mono i (hint+l) (by exact Bp hi) a3 a4) (λi h1 h2=>?_) (λl k=>rfl) ?_
  ·by_cases z:o<n-hint
   ·exact monoF (hint+o) i (by exact Bo hh h1 z) h2 (a5 z)
   omega
  intro x l k R h1 h2 q1 q2 q3;dsimp only;by_cases c:l>=k
  ·refine aC c ?_;exact Qq (q1 (by exact wy h1 c))
  refine az c ?_;refine Ql (cL hL hk hkey (hP _ (by exact yc h2 c)) ?_);dsimp only
  cases e:P (l+(k-l) / 2) with
  | true=>refine aC rfl ?_;exact Qq (q2 (by exact tX c) e)
  | false=>refine az Qj ?_;exact Qq (q3 (by exact tX c) e)
 | false =>
 refine az Qj ?_
 refine Ql (wpS_mono (Xl (I:=λx c st'=>st'=st/\∃l o,c=(none,l,o)/\l<o/\x+1<=o/\l<=hint/\P (hint-l)=false)
  (Q:=λc st'=>st'=st/\∃l o,c=(none,l,o)/\l<o/\l<=hint/\P (hint-l)=false/\(o<hint+1->P (hint-o)=true)) ?_ ?_ ⟨rfl,0,1,rfl,by omega,by omega,by exact wx,hp⟩) ?_)
 ·rintro x c st' _ hx ⟨rfl,l,o,rfl,a1,a2,a3,a4⟩;dsimp only;by_cases c1:o>=hint+1
  ·refine aC c1 ?_;exact Qq ⟨rfl,l,o,rfl,a1,a3,a4,λz=>by omega⟩
  refine az c1 ?_;refine Ql (cL hL hk hkey (hP (hint-o) (by exact Bn hh a1 c1)) ?_);dsimp only
  cases e:P (hint-o) with
  | true =>
   refine aC rfl ?_;exact Qq ⟨rfl,l,o,rfl,a1,a3,a4,λ_=>e⟩
  | false =>
  refine az Qj ?_;exact Qq ⟨rfl,o,2*o+1,rfl,by exact yd,by omega,by exact Bm c1,e⟩
 ·rintro c st' ⟨rfl,l,o,rfl,a1,a2,a3,a4⟩;exact⟨rfl,l,o,rfl,a1,a3,a4,λz=>by omega⟩
 rintro c st' ⟨rfl,l,o,rfl,a1,a3,a4,a5⟩;dsimp only;refine fin _ _ _ _ (by exact Bl a1 a3) (by exact Bk hh a3) (λi hi=>?_) (λi h1 h2=>monoF (hint-l) i h1 h2 a4) (λl k=>rfl) ?_
 ·by_cases z:o<hint+1
  ·exact mono i (hint-o) (by exact Bj hi z) (by exact Bi hh a1 z) (a5 z)
  omega
 intro x l k R h1 h2 q1 q2 q3;dsimp only;by_cases c:l>=k
 ·refine aC c ?_;exact Qq (q1 (by exact wy h1 c))
 refine az c ?_;refine Ql (cL hL hk hkey (hP _ (by exact yc h2 c)) ?_);dsimp only
 cases e:P (l+(k-l) / 2) with
 | true=>refine aC rfl ?_;exact Qq (q2 (by exact tX c) e)
 | false=>refine az Qj ?_;exact Qq (q3 (by exact tX c) e)
end
section
variable {κ:KeyKind}
def le (κ:KeyKind) (p q:Keyed):Prop:=κ.kle (kv κ p) (kv κ q)
structure MI (κ:KeyKind) (L o x y:List Keyed):Prop where
 perm:(o++(x++y)).Perm L
 so:o.Pairwise (le κ)
 sx:x.Pairwise (le κ)
 sy:y.Pairwise (le κ)
 ox:∀p∈o,∀q∈x,le κ p q
 oy:∀p∈o,∀q∈y,le κ p q
 last:∀q∈y,∀l,x.getLast?=some l->le κ q l
variable {L o x2 y x y2:List Keyed}
theorem MI.takeXs {x1:List Keyed} (h:MI κ L o (x1++x2) y) (hq:∀p∈x1,∀q∈y,le κ p q):MI κ L (o++x1) x2 y:=by
 have sx:=Q7.mp h.sx;refine⟨?_,Q7.mpr ⟨h.so,sx.1,λp hp q hq=>h.ox p hp q (Qk.mpr (.inl hq))⟩,sx.2.1,h.sy,λp hp q hq'=>?_,λp hp q hq'=>?_,λq hq' l hl=>?_⟩
 ·have:=h.perm;rwa [Q0,<-Q0 o]at this
 ·rcases Qk.mp hp with a|a
  ·exact h.ox p a q (Qk.mpr (.inr hq'))
  exact sx.2.2 p a q hq'
 ·rcases Qk.mp hp with a|a
  ·exact h.oy p a q hq'
  exact hq p a q hq'
 refine h.last q hq' l ?_;rw[List.getLast?_append,hl];rfl
theorem MI.takeYs {y1:List Keyed} (h:MI κ L o x (y1++y2)) (hq:∀q∈y1,∀p∈x,le κ q p):MI κ L (o++y1) x y2:=by
 have sy:=Q7.mp h.sy;refine⟨?_,Q7.mpr ⟨h.so,sy.1,λp hp q hq=>h.oy p hp q (Qk.mpr (.inl hq))⟩,h.sx,sy.2.1,λp hp q hq'=>?_,λp hp q hq'=>?_,λq hq' l hl=>?_⟩
 ·refine List.Perm.trans ?_ h.perm;rw[Q0];refine List.Perm.append_left _ ?_;rw[<-Q0,<-Q0];exact List.Perm.append_right _ List.perm_append_comm
 ·rcases Qk.mp hp with a|a
  ·exact h.ox p a q hq'
  exact hq p a q hq'
 ·rcases Qk.mp hp with a|a
  ·exact h.oy p a q (Qk.mpr (.inr hq'))
  exact sy.2.2 p a q hq'
 exact h.last q (Qk.mpr (.inr hq')) l hl
variable {p q r l:Keyed}
theorem le_trans (a:le κ p q) (b:le κ q r):le κ p r:=KeyOrd.kle_trans a b
theorem d8 (s:(p::x).Pairwise (le κ)) (h:le κ q p) (hr:r∈p::x):le κ q r:=by
 rcases Qu.mp hr with e|e
 ·rw[e];exact h
 exact le_trans h ((List.pairwise_cons.mp s).1 r e)
theorem MI.takeY (h:MI κ L o (p::x) (q::y)) (c:le κ q p):MI κ L (o++[q]) (p::x) y :=
 MI.takeYs (y1:=[q]) h λr hr s hs=>by
  have e:r=q:=by simpa using hr
  subst e;exact d8 h.sx c hs
theorem MI.takeX (h:MI κ L o (p::x) (q::y)) (c:le κ p q):MI κ L (o++[p]) x (q::y) :=
 MI.takeXs (x1:=[p]) h λr hr s hs=>by
  have e:r=p:=by simpa using hr
  subst e;exact d8 h.sy c hs
def Srt (κ:KeyKind) (L r:List Keyed):Prop:=r.Perm L/\r.Pairwise (le κ)
theorem MI.endY (h:MI κ L o x []):Srt κ L (o++x):=⟨by simpa using h.perm,Q7.mpr ⟨h.so,h.sx,h.ox⟩⟩
theorem MI.endX (h:MI κ L o [] y):Srt κ L (o++y):=⟨by simpa using h.perm,Q7.mpr ⟨h.so,h.sy,h.oy⟩⟩
theorem MI.lastX (h:MI κ L o [l] y):Srt κ L (o++y++[l]):=by
 refine⟨List.Perm.trans ?_ h.perm,Q7.mpr ⟨Q7.mpr ⟨h.so,h.sy,h.oy⟩,by simp,λp hp q hq=>?_⟩⟩
 ·rw[Q0];exact List.Perm.append_left _ List.perm_append_comm
 have e:q=l:=by simpa using hq
 subst e;rcases Qk.mp hp with a|a
 ·exact h.ox p a q (by simp)
 exact h.last p a q rfl
end
section
structure Gs (st st':SortSt):Prop where
 kind:kindOf st'=kindOf st
 arr:arrOf st'=arrOf st
 pend:pendingOf st'=pendingOf st
 fail:failedOf st'=failedOf st
theorem Gs.refl (st:SortSt):Gs st st:=⟨rfl,rfl,rfl,rfl⟩
theorem Gs.trans {a b c:SortSt} (x:Gs a b) (y:Gs b c):Gs a c:=⟨y.kind.trans x.kind,y.arr.trans x.arr,y.pend.trans x.pend,y.fail.trans x.fail⟩
def ow:Nat->StateT SortSt Sem Unit:=sortPriv% PySem.Builtin.setMinGallop
variable {g ia ib n m i j:Nat}
theorem c_ {st:SortSt} {Q:Unit->SortSt->Prop} (h:∀st',Gs st st'->Q () st'):wpS (model prog w) A E s (ow g) Q st:=by
 unfold ow;exact wpS_modify (h _ ⟨rfl,rfl,rfl,rfl⟩)
theorem fZ (a:Array Keyed) (i:Nat):(a.extract i a.size).toList=a.toList.drop i:=by
 have:(a.toList.drop i).length<=a.size-i:=by simp
 simpa using QP this
theorem gL (a:Array Keyed) (i k:Nat):(a.extract i (i+k)).toList=(a.toList.drop i).take k:=by
 simp
theorem aI {a:Array Keyed} {i:Nat} (h:i<a.size):∃p,a[i]?=some p/\a.toList.drop i=p::a.toList.drop (i+1)/\p∈a.toList :=
 ⟨a[i],Array.getElem?_eq_getElem h,by rw[List.drop_eq_getElem_cons (by simpa using h)];simp,by simp⟩
structure LJ (κ:KeyKind) (a b:Array Keyed) (n:Nat) (out:Array Keyed) (ia ib:Nat):Prop where
 mi:MI κ (a.toList++b.toList) out.toList (a.toList.drop ia) (b.toList.drop ib)
 la:ia<=a.size
 lb:ib<=b.size
 lo:out.size=ia+ib
 n:n<=out.size
variable {a b:Array Keyed}
theorem LJ.less {out:Array Keyed} (h:LJ κ a b n out ia ib) (hm:m<=n):LJ κ a b m out ia ib:=⟨h.mi,h.la,h.lb,h.lo,QQ hm h.n⟩
theorem LJ.doneB {out:Array Keyed} (h:LJ κ a b n out ia ib) (e:ib=b.size):Srt κ (a.toList++b.toList) (out++a.extract ia a.size++b.extract ib b.size).toList:=by
 have m:=h.mi;have d:b.toList.drop ib=[]:=by rw[e];simp
 rw[d]at m;rw[QM,QM,fZ,fZ,d,Xa];exact m.endY
theorem LJ.doneA {out:Array Keyed} (h:LJ κ a b n out ia ib) (e:ia=a.size):Srt κ (a.toList++b.toList) (out++a.extract ia a.size++b.extract ib b.size).toList:=by
 have m:=h.mi;have d:a.toList.drop ia=[]:=by rw[e];simp
 rw[d]at m;rw[QM,QM,fZ,fZ,d,Xa];exact m.endX
theorem LJ.lastA {out:Array Keyed} (h:LJ κ a b n out ia ib) (e:ia+1=a.size):Srt κ (a.toList++b.toList) (out++b.extract ib b.size++a.extract ia a.size).toList:=by
 have m:=h.mi;obtain⟨p,_,d,_⟩:=aI (a:=a) (i:=ia) (by exact Bh e);have d2:a.toList.drop (ia+1)=[]:=by rw[e];simp
 rw[d2]at d;rw[d]at m;rw[QM,QM,fZ,fZ,d];exact m.lastX
variable {p q key:Keyed}
theorem LJ.pushB {out:Array Keyed} (h:LJ κ a b n out ia ib) (ha:a[ia]?=some p) (hb:b[ib]?=some q) (c:le κ q p):LJ κ a b (n+1) (out.push q) ia (ib+1):=by
 have lb:=(QB.mp hb).1;have la:=(QB.mp ha).1;obtain⟨p',e1,d1,_⟩:=aI la;obtain⟨q',e2,d2,_⟩:=aI lb;rw[ha]at e1;rw[hb]at e2;cases e1;cases e2;have m:=h.mi;rw[d1,d2]at m;have m:=m.takeY c;rw[<-d1]at m;refine⟨by rw[Array.toList_push];exact m,h.la,lb,by rw[Array.size_push,h.lo];exact Bg,by rw[Array.size_push];have:=h.n;exact rR this⟩
theorem LJ.pushA {out:Array Keyed} (h:LJ κ a b n out ia ib) (ha:a[ia]?=some p) (hb:b[ib]?=some q) (c:le κ p q):LJ κ a b (n+1) (out.push p) (ia+1) ib:=by
 have lb:=(QB.mp hb).1;have la:=(QB.mp ha).1;obtain⟨p',e1,d1,_⟩:=aI la;obtain⟨q',e2,d2,_⟩:=aI lb;rw[ha]at e1;rw[hb]at e2;cases e1;cases e2;have m:=h.mi;rw[d1,d2]at m;have m:=m.takeX c;rw[<-d2]at m;refine⟨by rw[Array.toList_push];exact m,la,h.lb,by rw[Array.size_push,h.lo];exact Be,by rw[Array.size_push];have:=h.n;exact rR this⟩
theorem LJ.runA {out:Array Keyed} {k:Nat} (h:LJ κ a b n out ia ib) (hb:b[ib]?=some q) (hk:ia+k<=a.size) (c:∀i,i<k->∀p,a[ia+i]?=some p->le κ p q):LJ κ a b n (out++a.extract ia (ia+k)) (ia+k) ib:=by
 have lb:=(QB.mp hb).1;obtain⟨q',e2,d2,_⟩:=aI lb;rw[hb]at e2;cases e2;have m:=h.mi;have sy:=m.sy;rw[<-Q3 k (a.toList.drop ia)]at m
 have m:=m.takeXs λp hp r hr=>by
  obtain⟨i,hi,e⟩:=QH.mp hp;rw[QF]at hi;have e3:=Qb (l:=(a.toList.drop ia).take k) (i:=i) (by rw[QF];exact yb hi);rw[e,List.getElem?_take,Qv (by exact tW hi),List.getElem?_drop,Qx]at e3;rw[d2]at hr sy;exact d8 sy (c i (by exact tW hi) p e3) hr
 rw[List.drop_drop]at m;have sz:(a.extract ia (ia+k)).size=k:=by rw[Array.size_extract];exact ya hk
 refine⟨by rw[QM,gL];exact m,hk,h.lb,by rw[Xr,sz,h.lo];exact Bd,by rw[Xr];have:=h.n;exact x_ sz this⟩
theorem LJ.runB {out:Array Keyed} {k:Nat} (h:LJ κ a b n out ia ib) (ha:a[ia]?=some p) (hk:ib+k<=b.size) (c:∀i,i<k->∀q,b[ib+i]?=some q->le κ q p):LJ κ a b n (out++b.extract ib (ib+k)) ia (ib+k):=by
 have la:=(QB.mp ha).1;obtain⟨p',e2,d2,_⟩:=aI la;rw[ha]at e2;cases e2;have m:=h.mi;have sx:=m.sx;rw[<-Q3 k (b.toList.drop ib)]at m
 have m:=m.takeYs λq hq r hr=>by
  obtain⟨i,hi,e⟩:=QH.mp hq;rw[QF]at hi;have e3:=Qb (l:=(b.toList.drop ib).take k) (i:=i) (by rw[QF];exact yb hi);rw[e,List.getElem?_take,Qv (by exact tW hi),List.getElem?_drop,Qx]at e3;rw[d2]at hr sx;exact d8 sx (c i (by exact tW hi) q e3) hr
 rw[List.drop_drop]at m;have sz:(b.extract ib (ib+k)).size=k:=by rw[Array.size_extract];exact ya hk
 refine⟨by rw[QM,gL];exact m,h.la,hk,by rw[Xr,sz,h.lo];exact Bc,by rw[Xr];have:=h.n;exact x_ sz this⟩
theorem oP (s:a.toList.Pairwise (le κ)) (h:i<=j) (hi:a[i]?=some p) (hj:a[j]?=some q):le κ p q:=by
 by_cases e:i=j
 ·subst e;rw[hi]at hj;cases hj;exact Xw _
 have li:=(QB.mp hi).1;have lj:=(QB.mp hj).1;have:=(List.pairwise_iff_getElem.mp s) i j (by simpa using li) (by simpa using lj) (by exact xZ h e);rw[Array.getElem?_eq_getElem li]at hi;rw[Array.getElem?_eq_getElem lj]at hj;cases hi;cases hj;simpa using this
theorem d5 (hL:gz κ kd prog w A s) {st:SortSt} {left:Bool} {a:Array Keyed} {base n hint:Nat} {Q:Option Nat->SortSt->Prop} (hk:kindOf st=kd) (hkey:Hk κ key) (ha:∀p∈a.toList,Hk κ p) (hn:base+n<=a.size)
  (sa:∀i j p q,base<=i->i<=j->j<base+n->a[i]?=some p->a[j]?=some q->le κ p q) (hh:hint<n)
  (h:∀k,k<=n->(∀i,i<k->∀p,a[base+i]?=some p->bey κ left key p=true)->(∀i,k<=i->i<n->∀p,a[base+i]?=some p->bey κ left key p=false)->Q (some k) st):wpS (model prog w) A E s (kL left key a base n hint) Q st:=by
 refine mW hL (λi=>match a[base+i]? with|some p=>bey κ left key p|none=>false) hk hkey (λi hi=>?_) (λi j h1 h2 h3=>?_) hh (λk h1 h2 h3=>h k h1 (λi hi p e=>?_) (λi hi hj p e=>?_))
 ·have:base+i<a.size:=by exact xY hn hi
  obtain⟨p,e,_,m⟩:=aI this;exact⟨p,e,ha p m,by rw[e]⟩
 ·obtain⟨p,e,_⟩:=aI (a:=a) (i:=base+i) (by exact Bb hn h1 h2);obtain⟨q,e2,_⟩:=aI (a:=a) (i:=base+j) (by exact xY hn h2);have l:=sa _ _ p q (by exact rQ) (show base+i<=base+j by exact Ba h1) (by exact A_ h2) e e2;rw[e2]at h3;rw[e];dsimp only at h3 ⊢;unfold bey at h3 ⊢
  cases left with
  | true =>
   rw[Qv rfl]at h3 ⊢;exact KeyOrd.klt_of_kle_of_klt l h3
  | false =>
  rw[Qz (by simp)]at h3 ⊢;have h3:κ.kle (kv κ q) (kv κ key):=by simpa[KeyOrd.kle] using h3
  have:=KeyOrd.kle_trans l h3;simpa[KeyOrd.kle] using this
 ·have:=h2 i hi;rwa [e]at this
 have:=h3 i hi hj;rwa [e]at this
theorem kP (h:bey κ false key p=true):le κ p key:=by
 unfold bey at h;rw[Qz (by simp)]at h;simpa[le,KeyOrd.kle] using h
theorem kO (h:bey κ true key p=true):le κ p key:=by
 unfold bey at h;rw[Qv rfl]at h;exact KeyOrd.kle_of_klt h
theorem kQ (h:bey κ false key p=false):le κ key p:=by
 unfold bey at h;rw[Qz (by simp)]at h;exact KeyOrd.kle_of_klt (show κ.blt (kv κ key) (kv κ p)=true by simpa using h)
theorem kR (h:bey κ true key p=false):le κ key p:=by
 unfold bey at h;rw[Qv rfl]at h;exact h
end
section
theorem fJ {U α β:Type} {M:Model} {Q:α->U->Prop} {st:U} {m:StateT U Sem α} (f:β->StateT U Sem α) (I:β->Prop) (J:∀z,I z->wpS M A E s (f z) Q st) (h:(∀z,I z->wpS M A E s (f z) Q st)->wpS M A E s m Q st):wpS M A E s m Q st:=h J
@[reducible] def BL (κ:KeyKind) (a b:Array Keyed) (st:SortSt) (x:Nat) (c:Option (Array Keyed) × Array Keyed × Nat × Nat × Nat) (st':SortSt):Prop:=Gs st st'/\∃out ia ib mg,c=(none,out,ia,ib,mg)/\LJ κ a b (x+1) out ia ib/\ia+1<a.size/\ib<b.size
@[reducible] def BK (κ:KeyKind) (a b:Array Keyed) (st:SortSt)  (c:Option (Array Keyed) × Array Keyed × Nat × Nat × Nat) (st':SortSt):Prop:=Gs st st'/\∃r rest,c=(some r,rest)/\Srt κ (a.toList++b.toList) r.toList
@[reducible] def BJ (κ:KeyKind) (a b:Array Keyed) (st:SortSt) (x x':Nat) (c:Option (Array Keyed) × Array Keyed × Nat × Nat × Nat × Nat) (st':SortSt):Prop:=st'=st/\∃out ia ib ac bc,c=(none,out,ia,ib,ac,bc)/\LJ κ a b (x+1+x') out ia ib/\ia+1<a.size/\ib<b.size
@[reducible] def BI (κ:KeyKind) (a b:Array Keyed) (st:SortSt) (x:Nat) (c:Option (Array Keyed) × Array Keyed × Nat × Nat × Nat × Nat) (st':SortSt):Prop:=st'=st/\((∃r rest,c=(some r,rest)/\Srt κ (a.toList++b.toList) r.toList)\/∃out ia ib ac bc,c=(none,out,ia,ib,ac,bc)/\LJ κ a b (x+1) out ia ib/\ia+1<a.size/\ib<b.size)
@[reducible] def BH (κ:KeyKind) (a b:Array Keyed) (st:SortSt) (x x':Nat) (c:Option (Array Keyed) × Array Keyed × Nat × Nat × Nat × Nat × Nat) (st':SortSt):Prop:=Gs st st'/\∃out ia ib mg ac bc,c=(none,out,ia,ib,mg,ac,bc)/\LJ κ a b (x+1+x') out ia ib/\ia+1<a.size/\ib<b.size
@[reducible] def BG (κ:KeyKind) (a b:Array Keyed) (st:SortSt) (x:Nat) (c:Option (Array Keyed) × Array Keyed × Nat × Nat × Nat × Nat × Nat) (st':SortSt):Prop:=Gs st st'/\((∃r rest,c=(some r,rest)/\Srt κ (a.toList++b.toList) r.toList)\/∃out ia ib mg ac bc,c=(none,out,ia,ib,mg,ac,bc)/\LJ κ a b (x+2) out ia ib/\ia+1<a.size/\ib<b.size)
theorem kY (hL:gz κ kd prog w A s) {st:SortSt} {a b:Array Keyed} {Q:Array Keyed->SortSt->Prop} (hk:kindOf st=kd) (ha:∀p∈a.toList,Hk κ p) (hb:∀p∈b.toList,Hk κ p)
  (na:1<=a.size) (nb:1<=b.size) (mi:MI κ (a.toList++b.toList) [] a.toList b.toList) (first:∀p∈a.toList,∀q,b[0]?=some q->le κ q p)
  (h:∀r st',Gs st st'->Srt κ (a.toList++b.toList) r.toList->Q r st'):wpS (model prog w) A E s (lZ a b) Q st:=by
 have sa:=mi.sx;have sb:=mi.sy;unfold lZ;refine Ql (wpS_lift (wpAny_rule ⟨rfl,?_⟩));obtain⟨q0,hq0,_⟩:=aI (a:=b) (i:=0) (by exact rP nb);obtain⟨p0,hp0,_,mp0⟩:=aI (a:=a) (i:=0) (by exact rP na);have j0:LJ κ a b 0 #[] 0 0:=⟨by simpa using mi,by exact xX na,by exact xX nb,rfl,Q5 _⟩;have j1:=j0.pushB hp0 hq0 (first p0 mp0 q0 hq0);have j1:LJ κ a b 1 #[q0] 0 1:=j1;refine Ql (aP hq0 ?_);refine wpS_mono (Q:=λr st'=>Gs st st'/\Srt κ (a.toList++b.toList) r.toList) ?_ (λr st' z=>h r st' z.1 z.2);clear h
 extract_lets out0
 by_cases c1:1=b.size
 ·refine aC (bT c1) ?_;exact Qq ⟨.refl _,j1.doneB c1⟩
 refine az (bF c1) ?_;by_cases c2:0+1=a.size
 ·refine aC (bT c2) ?_;exact Qq ⟨.refl _,j1.lastA c2⟩
 refine az (bF c2) ?_;refine Ql (wpS_get ?_)
 extract_lets mg0
 refine Ql (wpS_mono (Xl (I:=BL κ a b st)
  (Q:=BK κ a b st) ?step ?fin ⟨.refl _,out0,0,1,mg0,rfl,j1,by exact A9 na c2,by exact A8 na nb c1 c2⟩) ?post)
 case post =>
  rintro c st' ⟨g,r,rest,rfl,hr⟩;exact Qq ⟨g,hr⟩
 case fin =>
  rintro c st' ⟨g,out,ia,ib,mg,rfl,j,l1,l2⟩;have:=j.n;have:=j.lo;omega
 case step =>
  rintro x c st1 _ hx ⟨g,out,ia,ib,mg,rfl,j,l1,l2⟩
  refine Ql (wpS_mono (Xl (I:=BJ κ a b st1 x)
   (Q:=BI κ a b st1 x) ?step1 ?fin1 ⟨rfl,out,ia,ib,0,0,rfl,j,l1,l2⟩) ?post1)
  case fin1 =>
   rintro c st' ⟨rfl,out,ia,ib,ac,bc,rfl,j,l1,l2⟩;have:=j.n;have:=j.lo;omega
  case step1 =>
   clear j l1 l2;rintro x' c st' _ hx' ⟨rfl,out,ia,ib,ac,bc,rfl,j,l1,l2⟩;obtain⟨p,hp,_,mp⟩:=aI (a:=a) (i:=ia) (by exact ww l1);obtain⟨q,hq,_,mq⟩:=aI (a:=b) (i:=ib) l2;refine Ql (aP hq (Ql (aP hp (Ql (gO hL (by rw[g.kind];exact hk) (hb q mq) (ha p mp) ?_)))));dsimp only
   cases e:κ.blt (kv κ q) (kv κ p) with
   | true =>
    refine aC rfl ?_;refine Ql (aP hq ?_);have j2:=j.pushB hp hq (KeyOrd.kle_of_klt e);by_cases d1:ib+1=b.size
    ·refine aC (bT d1) ?_;exact Qq ⟨rfl,.inl ⟨_,_,rfl,j2.doneB d1⟩⟩
    refine az (bF d1) ?_;by_cases d2:bc+1>=mg
    ·refine aC d2 ?_;exact Qq ⟨rfl,.inr ⟨_,_,_,_,_,rfl,j2.less (by omega),l1,by exact wv l2 d1⟩⟩
    refine az d2 ?_;exact Qq ⟨rfl,_,_,_,_,_,rfl,j2.less (by exact tV),l1,by exact wv l2 d1⟩
   | false =>
   refine az Qj ?_;refine Ql (aP hp ?_);have j2:=j.pushA hp hq e;by_cases d1:ia+1+1=a.size
   ·refine aC (bT d1) ?_;exact Qq ⟨rfl,.inl ⟨_,_,rfl,j2.lastA d1⟩⟩
   refine az (bF d1) ?_;by_cases d2:ac+1>=mg
   ·refine aC d2 ?_;exact Qq ⟨rfl,.inr ⟨_,_,_,_,_,rfl,j2.less (by omega),by exact xW l1 d1,l2⟩⟩
   refine az d2 ?_;exact Qq ⟨rfl,_,_,_,_,_,rfl,j2.less (by exact tV),by exact xW l1 d1,l2⟩
  case post1 =>
   clear j l1 l2;rintro c st' ⟨rfl,⟨r,rest,rfl,hr⟩|⟨out,ia,ib,ac,bc,rfl,j,l1,l2⟩⟩
   ·exact Qq ⟨g,r,_,rfl,hr⟩
   refine Ql (wpS_lift (wpAny_rule ⟨rfl,?_⟩))
   refine Ql (wpS_mono (Xl (I:=BH κ a b st x)
    (Q:=BG κ a b st x) ?step2 ?fin2 ⟨g,out,ia,ib,_,ac,bc,rfl,j,l1,l2⟩) ?post2)
   case fin2 =>
    rintro c st' ⟨g,out,ia,ib,mg,ac,bc,rfl,j,l1,l2⟩;have:=j.n;have:=j.lo;omega
   case post2 =>
    rintro c st' ⟨g,⟨r,rest,rfl,hr⟩|⟨out,ia,ib,mg,ac,bc,rfl,j,l1,l2⟩⟩
    ·exact Qq ⟨g,r,_,rfl,hr⟩
    refine Ql (c_ λst2 g2=>?_);exact Qq ⟨g.trans g2,_,_,_,_,rfl,j,l1,l2⟩
   case step2 =>
    clear j l1 l2 g;rintro x' c st2 _ hx' ⟨g,out,ia,ib,mg,ac,bc,rfl,j,l1,l2⟩;obtain⟨p,hp,_,mp⟩:=aI (a:=a) (i:=ia) (by exact ww l1);obtain⟨q,hq,_,mq⟩:=aI (a:=b) (i:=ib) l2
    extract_lets s1 o1 s2 x1 s3 y1 s4 m1 s5 ac1 bc1 ib2 jp mgm
    refine fJ (λm=>jp () m) (λ_=>True) (λm _=>?_) (λJ=>?_)
    ·refine Ql (c_ λst3 g3=>?_);have g4:=g.trans g3;have hk3:kindOf st3=kd:=by rw[g4.kind];exact hk
     refine Ql (aP hq ?_);refine Ql (d5 (a:=a) (base:=ia) (n:=a.size-ia) hL hk3 (hb q mq) ha (by exact A7 l1) (λi j p q _ h _ e1 e2=>oP sa h e1 e2) (by exact A6 l1) λk k1 k2 k3=>?_);dsimp -zeta only
     extract_lets ac2 jp2 o2 x2
     refine fJ (λz:Array Keyed × Nat=>jp2 () z.1 z.2) (λz=>LJ κ a b (x+1+x') z.1 z.2 ib/\z.2+1<a.size/\∀p,a[z.2]?=some p->le κ q p) (λz hz=>?_) (λJ2=>?_)
     ·obtain⟨o3,x3⟩:=z;obtain⟨j3,l3,f3⟩:=hz;dsimp only at j3 l3 f3;obtain⟨p3,hp3,_,mp3⟩:=aI (a:=a) (i:=x3) (by exact ww l3);refine Ql (aP hq ?_);have j4:=j3.pushB hp3 hq (f3 p3 hp3);by_cases d1:ib+1=b.size
      ·refine aC (bT d1) ?_;exact Qq ⟨g4,.inl ⟨_,_,rfl,j4.doneB d1⟩⟩
      refine az (bF d1) ?_;refine Ql (aP hp3 ?_);refine Ql (d5 (a:=b) (base:=ib+1) (n:=b.size-(ib+1)) hL hk3 (ha p3 mp3) hb (by exact A5 l2) (λi j p q _ h _ e1 e2=>oP sb h e1 e2) (by exact A4 l2 d1) λk' k1' k2' k3'=>?_);dsimp -zeta only
      extract_lets bc2 ia2 jp3 o4 y4
      refine fJ (λz:Array Keyed × Nat=>jp3 () z.1 z.2) (λz=>LJ κ a b (x+1+x'+1) z.1 x3 z.2/\z.2<b.size/\∀q,b[z.2]?=some q->le κ p3 q) (λz hz=>?_) (λJ3=>?_)
      ·obtain⟨o5,y5⟩:=z;obtain⟨j5,l5,f5⟩:=hz;dsimp only at j5 l5 f5;obtain⟨q5,hq5,_,mq5⟩:=aI (a:=b) (i:=y5) l5;refine Ql (aP hp3 ?_);have j6:=j5.pushA hp3 hq5 (f5 q5 hq5);by_cases d2:x3+1+1=a.size
       ·refine aC (bT d2) ?_;exact Qq ⟨g4,.inl ⟨_,_,rfl,j6.lastA d2⟩⟩
       refine az (bF d2) ?_;by_cases d3:(decide (ac2<7)&&decide (bc2<7))=true
       ·refine aC d3 ?_;exact Qq ⟨g4,.inr ⟨_,_,_,_,_,_,rfl,j6.less (by omega),by omega,l5⟩⟩
       refine az d3 ?_;exact Qq ⟨g4,_,_,_,_,_,_,rfl,j6.less (by exact xV),by omega,l5⟩
      by_cases d2:k'>0
      ·refine aC d2 ?_;have j5:LJ κ a b (x+1+x'+1) o4 x3 y4:=j4.runB hp3 (by exact A3 l2 k1') λi hi p e=>kO (k2' i hi p e);have e2:y4=ib+1+k':=rfl;by_cases d3:y4=b.size
       ·refine aC (bT d3) ?_;exact Qq ⟨g4,.inl ⟨_,_,rfl,j5.doneB d3⟩⟩
       refine az (bF d3) ?_;exact J3 (o4,y4) ⟨j5,by dsimp only;omega,λp e=>kR (k3' k' (Qh _) (by omega) p e)⟩
      refine az d2 ?_;have:k'=0:=by exact xU d2
      subst this;exact J3 (_,ib+1) ⟨j4,by dsimp only;exact wv l2 d1,λp e=>kR (k3' 0 (Qh _) (by exact A2 l2 d1 k1') p e)⟩
     by_cases d1:k>0
     ·refine aC d1 ?_;have j3:LJ κ a b (x+1+x') o2 x2 ib:=j.runA hq (by exact A1 l1 k1) λi hi p e=>kP (k2 i hi p e);have e2:x2=ia+k:=rfl;by_cases d2:x2+1=a.size
      ·refine aC (bT d2) ?_;exact Qq ⟨g4,.inl ⟨_,_,rfl,j3.lastA d2⟩⟩
      refine az (bF d2) ?_;by_cases d3:x2=a.size
      ·refine aC (bT d3) ?_;exact Qq ⟨g4,.inl ⟨_,_,rfl,j3.doneA d3⟩⟩
      refine az (bF d3) ?_;exact J2 (o2,x2) ⟨j3,by dsimp only;omega,λp e=>kQ (k3 k (Qh _) (by omega) p e)⟩
     refine az d1 ?_;have:k=0:=by exact xU d1
     subst this;exact J2 (o1,x1) ⟨j,l1,λp e=>kQ (k3 0 (Qh _) (by exact A0 l1 k1) p e)⟩
    by_cases d:m1>1
    ·refine aC d ?_;exact J _ trivial
    refine az d ?_;exact J _ trivial
end
noncomputable def wQ (κ:KeyKind):KeyKind where
 α:=κ.α
 blt a b:=κ.blt b a
 irrefl a:=κ.irrefl a
 trans a b c h1 h2:=κ.trans c b a h2 h1
 negTrans a b c h:=(κ.negTrans c b a h).symm
 total a b h1 h2:=(κ.total a b h2 h1)
 keyOf:=κ.keyOf
 dflt:=κ.dflt
section
variable {κ:KeyKind}
theorem rc {l:List Keyed} (h:l.Pairwise (le κ)):l.reverse.Pairwise (le (wQ κ)):=List.pairwise_reverse.mpr h
theorem jQ {L r:List Keyed} (h:Srt (wQ κ) L r):Srt κ L r.reverse:=⟨(List.reverse_perm r).trans h.1,List.pairwise_reverse.mpr h.2⟩
variable {p q:Keyed}
theorem b_ {a:Array Keyed} {i:Nat} (hi:1<=i) (h:a[i-1]?=some p):(a.toList.take i).reverse=p::(a.toList.take (i-1)).reverse:=by
 obtain⟨j,rfl⟩:∃j,i=j+1:=⟨i-1,by exact AZ hi⟩;rw[Nat.add_sub_cancel]at h ⊢;rw[Xo,Qx,h,List.reverse_append];rfl
structure HJ (κ:KeyKind) (a b:Array Keyed) (n:Nat) (out:Array Keyed) (na nb:Nat):Prop where
 mi:MI (wQ κ) (a.toList++b.toList) out.toList (b.toList.take nb).reverse (a.toList.take na).reverse
 la:na<=a.size
 lb:nb<=b.size
 lo:out.size+na+nb=a.size+b.size
 n:n<=out.size
variable {na nb n m i j:Nat} {a b:Array Keyed}
theorem HJ.less {out:Array Keyed} (h:HJ κ a b n out na nb) (hm:m<=n):HJ κ a b m out na nb:=⟨h.mi,h.la,h.lb,h.lo,QQ hm h.n⟩
theorem c6 (a:Array Keyed) (i:Nat):(a.extract 0 i).toList=a.toList.take i:=by simp
theorem HJ.doneA {out:Array Keyed} (h:HJ κ a b n out na nb) (e:na=0):Srt κ (a.toList++b.toList) (a.extract 0 na++b.extract 0 nb++out.reverse).toList:=by
 subst e;have:=jQ (MI.endY (by simpa using h.mi));rw[QM,QM,c6,c6,Array.toList_reverse];simpa using this
theorem HJ.doneB {out:Array Keyed} (h:HJ κ a b n out na nb) (e:nb=0):Srt κ (a.toList++b.toList) (a.extract 0 na++b.extract 0 nb++out.reverse).toList:=by
 subst e;have:=jQ (MI.endX (by simpa using h.mi));rw[QM,QM,c6,c6,Array.toList_reverse];simpa using this
theorem HJ.firstB {out:Array Keyed} (h:HJ κ a b n out na nb) (e:nb=1):Srt κ (a.toList++b.toList) (b.extract 0 nb++a.extract 0 na++out.reverse).toList:=by
 subst e;obtain⟨q,hq,_⟩:=aI (a:=b) (i:=0) (by have:=h.lb;exact rP this);have m:=h.mi;have tr:=b_ (a:=b) (i:=1) (Qh _) hq;rw[Nat.sub_self,List.take_zero,List.reverse_nil]at tr;rw[tr]at m;have:=jQ m.lastX
 have t1:b.toList.take 1=[q]:=by
  have:=congrArg List.reverse tr;simpa using this
 rw[QM,QM,c6,c6,Array.toList_reverse,t1];simpa using this
theorem HJ.pushA {out:Array Keyed} (h:HJ κ a b n out na nb) (n1:1<=na) (n2:1<=nb) (ha:a[na-1]?=some p) (hb:b[nb-1]?=some q) (c:le κ q p):HJ κ a b (n+1) (out.push p) (na-1) nb:=by
 have m:=h.mi;rw[b_ n1 ha,b_ n2 hb]at m;have m:=m.takeY c;rw[<-b_ n2 hb]at m;refine⟨by rw[Array.toList_push];exact m,by have:=h.la;exact xT n1 this,h.lb,by rw[Array.size_push];have:=h.lo;exact AY n1 this,by rw[Array.size_push];have:=h.n;exact rR this⟩
theorem HJ.pushB {out:Array Keyed} (h:HJ κ a b n out na nb) (n1:1<=na) (n2:1<=nb) (ha:a[na-1]?=some p) (hb:b[nb-1]?=some q) (c:le κ p q):HJ κ a b (n+1) (out.push q) na (nb-1):=by
 have m:=h.mi;rw[b_ n1 ha,b_ n2 hb]at m;have m:=m.takeX c;rw[<-b_ n1 ha]at m;refine⟨by rw[Array.toList_push];exact m,h.la,by have:=h.lb;exact xT n2 this,by rw[Array.size_push];have:=h.lo;exact AX n2 this,by rw[Array.size_push];have:=h.n;exact rR this⟩
theorem lg (l:List Keyed) (h:i<=j):(l.take j).reverse=((l.take j).drop i).reverse++(l.take i).reverse:=by
 rw[<-List.reverse_append];congr 1;have:=Q3 i (l.take j);rw[List.take_take,Nat.min_eq_left h]at this;exact this.symm
theorem oZ (a:Array Keyed) (h:i<=j):(a.extract i j).reverse.toList=((a.toList.take j).drop i).reverse:=by
 simp[List.drop_take]
theorem oM (h:p∈((a.toList.take j).drop i).reverse):∃k,i<=k/\k<j/\a[k]?=some p:=by
 rw[List.mem_reverse]at h;obtain⟨m,hm,e⟩:=QH.mp h;rw[Xd,QF]at hm;have e3:=Qb (l:=(a.toList.take j).drop i) (i:=m) (by rw[Xd,QF];exact AW hm);rw[e,List.getElem?_drop,List.getElem?_take,Qv (by exact xS hm),Qx]at e3;exact⟨i+m,by exact rQ,by exact xS hm,e3⟩
theorem HJ.runA {out:Array Keyed} {k:Nat} (h:HJ κ a b n out na nb) (n2:1<=nb) (hb:b[nb-1]?=some q) (hk:k<=na) (c:∀i,k<=i->i<na->∀p,a[i]?=some p->le κ q p):HJ κ a b n (out++(a.extract k na).reverse) k nb:=by
 have m:=h.mi;have sx:=m.sx;rw[lg _ hk]at m
 have m:=m.takeYs λp hp r hr=>by
  obtain⟨i,h1,h2,e⟩:=oM hp;rw[b_ n2 hb]at hr sx;exact d8 sx (c i h1 h2 p e) hr
 have sz:(a.extract k na).reverse.size=na-k:=by rw[Array.size_reverse,Array.size_extract];have:=h.la;exact xR hk this
 refine⟨by rw[QM,oZ _ hk];exact m,by have:=h.la;exact xQ hk this,h.lb,by rw[Xr,sz];have:=h.lo;omega,by rw[Xr];have:=h.n;exact xP sz this⟩
theorem HJ.runB {out:Array Keyed} {k:Nat} (h:HJ κ a b n out na nb) (n1:1<=na) (ha:a[na-1]?=some p) (hk:k<=nb) (c:∀i,k<=i->i<nb->∀q,b[i]?=some q->le κ p q):HJ κ a b n (out++(b.extract k nb).reverse) na k:=by
 have m:=h.mi;have sy:=m.sy;rw[lg _ hk]at m
 have m:=m.takeXs λq hq r hr=>by
  obtain⟨i,h1,h2,e⟩:=oM hq;rw[b_ n1 ha]at hr sy;exact d8 sy (c i h1 h2 q e) hr
 have sz:(b.extract k nb).reverse.size=nb-k:=by rw[Array.size_reverse,Array.size_extract];have:=h.lb;exact xR hk this
 refine⟨by rw[QM,oZ _ hk];exact m,h.la,by have:=h.lb;exact xQ hk this,by rw[Xr,sz];have:=h.lo;omega,by rw[Xr];have:=h.n;exact xP sz this⟩
end
section
@[reducible] def BS (κ:KeyKind) (a b:Array Keyed) (st:SortSt) (x:Nat) (c:Option (Array Keyed) × Nat × Nat × Array Keyed × Nat) (st':SortSt):Prop:=Gs st st'/\∃na nb out mg,c=(none,na,nb,out,mg)/\HJ κ a b (x+1) out na nb/\1<=na/\2<=nb
@[reducible] def BR (κ:KeyKind) (a b:Array Keyed) (st:SortSt)  (c:Option (Array Keyed) × Nat × Nat × Array Keyed × Nat) (st':SortSt):Prop:=Gs st st'/\∃r rest,c=(some r,rest)/\Srt κ (a.toList++b.toList) r.toList
@[reducible] def BQ (κ:KeyKind) (a b:Array Keyed) (st:SortSt) (x x':Nat) (c:Option (Array Keyed) × Nat × Nat × Array Keyed × Nat × Nat) (st':SortSt):Prop:=st'=st/\∃na nb out ac bc,c=(none,na,nb,out,ac,bc)/\HJ κ a b (x+1+x') out na nb/\1<=na/\2<=nb
@[reducible] def BP (κ:KeyKind) (a b:Array Keyed) (st:SortSt) (x:Nat) (c:Option (Array Keyed) × Nat × Nat × Array Keyed × Nat × Nat) (st':SortSt):Prop:=st'=st/\((∃r rest,c=(some r,rest)/\Srt κ (a.toList++b.toList) r.toList)\/∃na nb out ac bc,c=(none,na,nb,out,ac,bc)/\HJ κ a b (x+1) out na nb/\1<=na/\2<=nb)
@[reducible] def BO (κ:KeyKind) (a b:Array Keyed) (st:SortSt) (x x':Nat) (c:Option (Array Keyed) × Nat × Nat × Array Keyed × Nat × Nat × Nat) (st':SortSt):Prop:=Gs st st'/\∃na nb out mg ac bc,c=(none,na,nb,out,mg,ac,bc)/\HJ κ a b (x+1+x') out na nb/\1<=na/\2<=nb
@[reducible] def BN (κ:KeyKind) (a b:Array Keyed) (st:SortSt) (x:Nat) (c:Option (Array Keyed) × Nat × Nat × Array Keyed × Nat × Nat × Nat) (st':SortSt):Prop:=Gs st st'/\((∃r rest,c=(some r,rest)/\Srt κ (a.toList++b.toList) r.toList)\/∃na nb out mg ac bc,c=(none,na,nb,out,mg,ac,bc)/\HJ κ a b (x+2) out na nb/\1<=na/\2<=nb)
theorem kZ (hL:gz κ kd prog w A s) {st:SortSt} {a b:Array Keyed} {Q:Array Keyed->SortSt->Prop} (hk:kindOf st=kd) (ha:∀p∈a.toList,Hk κ p) (hb:∀p∈b.toList,Hk κ p)
  (na:1<=a.size) (nb:1<=b.size) (sa:a.toList.Pairwise (le κ)) (sb:b.toList.Pairwise (le κ)) (first:∀p∈a.toList,∀q,b[0]?=some q->le κ q p) (last:∀q∈b.toList,∀p,a[a.size-1]?=some p->le κ q p)
  (h:∀r st',Gs st st'->Srt κ (a.toList++b.toList) r.toList->Q r st'):wpS (model prog w) A E s (l0 a b) Q st:=by
 unfold l0;refine Ql (wpS_lift (wpAny_rule ⟨rfl,?_⟩));obtain⟨q0,hq0,_,mq0⟩:=aI (a:=b) (i:=b.size-1) (by exact pL nb);obtain⟨qf,hqf,_,mqf⟩:=aI (a:=b) (i:=0) (by exact rP nb);obtain⟨p0,hp0,_,mp0⟩:=aI (a:=a) (i:=a.size-1) (by exact pL na)
 have j0:HJ κ a b 0 #[] a.size b.size:=by
  have e1:a.toList.take a.size=a.toList:=QP (by simp);have e2:b.toList.take b.size=b.toList:=QP (by simp);refine⟨⟨?_,List.Pairwise.nil,by rw[e2];exact rc sb,by rw[e1];exact rc sa,λp hp=>(nomatch hp),λp hp=>(nomatch hp),λq hq l hl=>?_⟩,Qh _,Qh _,by simp,Q5 _⟩
  ·rw[e1,e2];show ([]++(b.toList.reverse++a.toList.reverse)).Perm _;rw[List.nil_append,<-List.reverse_append];exact List.reverse_perm _
  rw[e1,List.mem_reverse]at hq;rw[e2,List.getLast?_reverse]at hl;refine first q hq l ?_;rw[<-Qx,<-List.head?_eq_getElem?];exact hl
 have j1:=j0.pushA na nb hp0 hq0 (last q0 mq0 p0 hp0);have j1:HJ κ a b 1 #[p0] (a.size-1) b.size:=j1
 extract_lets tot dn fb na0 nb0 z0
 refine Ql (aP hp0 ?_);refine wpS_mono (Q:=λr st'=>Gs st st'/\Srt κ (a.toList++b.toList) r.toList) ?_ (λr st' z=>h r st' z.1 z.2);clear h
 extract_lets out0
 by_cases c1:na0=0
 ·refine aC (bT c1) ?_;exact Qq ⟨.refl _,j1.doneA c1⟩
 refine az (bF c1) ?_;by_cases c2:b.size=1
 ·refine aC (bT c2) ?_;exact Qq ⟨.refl _,j1.firstB c2⟩
 refine az (bF c2) ?_;refine Ql (wpS_get ?_)
 extract_lets mg0
 have e0:na0=a.size-1:=rfl
 refine Ql (wpS_mono (Xl (I:=BS κ a b st)
  (Q:=BR κ a b st) ?step ?fin ⟨.refl _,na0,nb0,out0,mg0,rfl,j1,by exact AV na nb c1 c2,by omega⟩) ?post)
 case post =>
  rintro c st' ⟨g,r,rest,rfl,hr⟩;exact Qq ⟨g,hr⟩
 case fin =>
  rintro c st' ⟨g,na,nb,out,mg,rfl,j,l1,l2⟩;have:=j.n;have:=j.lo;omega
 case step =>
  rintro x c st1 _ hx ⟨g,na,nb,out,mg,rfl,j,l1,l2⟩
  refine Ql (wpS_mono (Xl (I:=BQ κ a b st1 x)
   (Q:=BP κ a b st1 x) ?step1 ?fin1 ⟨rfl,na,nb,out,0,0,rfl,j,l1,l2⟩) ?post1)
  case fin1 =>
   rintro c st' ⟨rfl,na,nb,out,ac,bc,rfl,j,l1,l2⟩;have:=j.n;have:=j.lo;omega
  case step1 =>
   clear j l1 l2;rintro x' c st' _ hx' ⟨rfl,na,nb,out,ac,bc,rfl,j,l1,l2⟩;have la:=j.la;have lb:=j.lb;obtain⟨p,hp,_,mp⟩:=aI (a:=a) (i:=na-1) (by exact wu l1 la);obtain⟨q,hq,_,mq⟩:=aI (a:=b) (i:=nb-1) (by exact wt l2 lb);refine Ql (aP hq (Ql (aP hp (Ql (gO hL (by rw[g.kind];exact hk) (hb q mq) (ha p mp) ?_)))));dsimp -zeta only
   cases e:κ.blt (kv κ q) (kv κ p) with
   | true =>
    refine aC rfl ?_;refine Ql (aP hp ?_);have j2:=j.pushA l1 (by exact rO l2) hp hq (KeyOrd.kle_of_klt e);by_cases d1:na-1=0
    ·refine aC (bT d1) ?_;exact Qq ⟨rfl,.inl ⟨_,_,rfl,j2.doneA d1⟩⟩
    refine az (bF d1) ?_;by_cases d2:ac+1>=mg
    ·refine aC d2 ?_;exact Qq ⟨rfl,.inr ⟨_,_,_,_,_,rfl,j2.less (by omega),by exact xG l1 d1,l2⟩⟩
    refine az d2 ?_;exact Qq ⟨rfl,_,_,_,_,_,rfl,j2.less (by exact tV),by exact xG l1 d1,l2⟩
   | false =>
   refine az Qj ?_;refine Ql (aP hq ?_);have j2:=j.pushB l1 (by exact rO l2) hp hq e;by_cases d1:nb-1=1
   ·refine aC (bT d1) ?_;exact Qq ⟨rfl,.inl ⟨_,_,rfl,j2.firstB d1⟩⟩
   refine az (bF d1) ?_;by_cases d2:bc+1>=mg
   ·refine aC d2 ?_;exact Qq ⟨rfl,.inr ⟨_,_,_,_,_,rfl,j2.less (by omega),l1,by exact xF l2 d1⟩⟩
   refine az d2 ?_;exact Qq ⟨rfl,_,_,_,_,_,rfl,j2.less (by exact tV),l1,by exact xF l2 d1⟩
  case post1 =>
   clear j l1 l2;rintro c st' ⟨rfl,⟨r,rest,rfl,hr⟩|⟨na,nb,out,ac,bc,rfl,j,l1,l2⟩⟩
   ·exact Qq ⟨g,r,_,rfl,hr⟩
   refine Ql (wpS_lift (wpAny_rule ⟨rfl,?_⟩))
   refine Ql (wpS_mono (Xl (I:=BO κ a b st x)
    (Q:=BN κ a b st x) ?step2 ?fin2 ⟨g,na,nb,out,_,ac,bc,rfl,j,l1,l2⟩) ?post2)
   case fin2 =>
    rintro c st' ⟨g,na,nb,out,mg,ac,bc,rfl,j,l1,l2⟩;have:=j.n;have:=j.lo;omega
   case post2 =>
    rintro c st' ⟨g,⟨r,rest,rfl,hr⟩|⟨na,nb,out,mg,ac,bc,rfl,j,l1,l2⟩⟩
    ·exact Qq ⟨g,r,_,rfl,hr⟩
    refine Ql (c_ λst2 g2=>?_);exact Qq ⟨g.trans g2,_,_,_,_,rfl,j,l1,l2⟩
   case step2 =>
    clear j l1 l2 g;rintro x' c st2 _ hx' ⟨g,na,nb,out,mg,ac,bc,rfl,j,l1,l2⟩;have la:=j.la;have lb:=j.lb;obtain⟨p,hp,_,mp⟩:=aI (a:=a) (i:=na-1) (by exact wu l1 la);obtain⟨q,hq,_,mq⟩:=aI (a:=b) (i:=nb-1) (by exact wt l2 lb)
    extract_lets s1 x1 s2 y1 s3 o1 s4 m1 s5 ac1 bc1 nb2 jp mgm
    refine fJ (λm=>jp () m) (λ_=>True) (λm _=>?_) (λJ=>?_)
    ·refine Ql (c_ λst3 g3=>?_);have g4:=g.trans g3;have hk3:kindOf st3=kd:=by rw[g4.kind];exact hk
     refine Ql (aP hq ?_);refine Ql (d5 (a:=a) (base:=0) (n:=na) (hint:=na-1) hL hk3 (hb q mq) ha (by exact AU la) (λi j p q _ h _ e1 e2=>oP sa h e1 e2) (by exact pL l1) λk k1 k2 k3=>?_);simp only[Nat.zero_add]at k2 k3;dsimp -zeta only
     extract_lets kk ac2 jp2 o2 x2
     refine fJ (λz:Nat × Array Keyed=>jp2 () z.1 z.2) (λz=>HJ κ a b (x+1+x') z.2 z.1 nb/\1<=z.1/\∀p,a[z.1-1]?=some p->le κ p q) (λz hz=>?_) (λJ2=>?_)
     ·obtain⟨x3,o3⟩:=z;obtain⟨j3,l3,f3⟩:=hz;dsimp only at j3 l3 f3;have la3:=j3.la;obtain⟨p3,hp3,_,mp3⟩:=aI (a:=a) (i:=x3-1) (by exact wu l3 la3);refine Ql (aP hq ?_);have j4:=j3.pushB l3 (by exact rO l2) hp3 hq (f3 p3 hp3);by_cases d1:nb-1=1
      ·refine aC (bT d1) ?_;exact Qq ⟨g4,.inl ⟨_,_,rfl,j4.firstB d1⟩⟩
      refine az (bF d1) ?_;refine Ql (aP hp3 ?_);refine Ql (d5 (a:=b) (base:=0) (n:=nb-1) (hint:=nb-1-1) hL hk3 (ha p3 mp3) hb (by exact AT l2 lb) (λi j p q _ h _ e1 e2=>oP sb h e1 e2) (by exact AS l2) λk' k1' k2' k3'=>?_);simp only[Nat.zero_add]at k2' k3';dsimp -zeta only
      extract_lets kk' bc2 na4 jp3 o4 y4
      refine fJ (λz:Nat × Array Keyed=>jp3 () z.1 z.2) (λz=>HJ κ a b (x+1+x'+1) z.2 x3 z.1/\2<=z.1/\∀q,b[z.1-1]?=some q->le κ q p3) (λz hz=>?_) (λJ3=>?_)
      ·obtain⟨y5,o5⟩:=z;obtain⟨j5,l5,f5⟩:=hz;dsimp only at j5 l5 f5;have lb5:=j5.lb;obtain⟨q5,hq5,_,mq5⟩:=aI (a:=b) (i:=y5-1) (by exact wt l5 lb5);refine Ql (aP hp3 ?_);have j6:=j5.pushA l3 (by exact rO l5) hp3 hq5 (f5 q5 hq5);by_cases d2:x3-1=0
       ·refine aC (bT d2) ?_;exact Qq ⟨g4,.inl ⟨_,_,rfl,j6.doneA d2⟩⟩
       refine az (bF d2) ?_;by_cases d3:(decide (ac2<7)&&decide (bc2<7))=true
       ·refine aC d3 ?_;exact Qq ⟨g4,.inr ⟨_,_,_,_,_,_,rfl,j6.less (by omega),by omega,l5⟩⟩
       refine az d3 ?_;exact Qq ⟨g4,_,_,_,_,_,_,rfl,j6.less (by exact xV),by omega,l5⟩
      have ek':kk'=nb-1-k':=rfl;by_cases d2:kk'>0
      ·refine aC d2 ?_;have j5:HJ κ a b (x+1+x'+1) o4 x3 y4:=j4.runB l3 hp3 (by exact AR k1') λi h1 h2 p e=>kR (k3' i h1 h2 p e);have e2:y4=k':=rfl;by_cases d3:y4=1
       ·refine aC (bT d3) ?_;exact Qq ⟨g4,.inl ⟨_,_,rfl,j5.firstB d3⟩⟩
       refine az (bF d3) ?_;by_cases d4:y4=0
       ·refine aC (bT d4) ?_;exact Qq ⟨g4,.inl ⟨_,_,rfl,j5.doneB d4⟩⟩
       refine az (bF d4) ?_;exact J3 (y4,o4) ⟨j5,by dsimp only;exact AQ d3 d4,λq e=>kO (k2' (y4-1) (by omega) q e)⟩
      refine az d2 ?_;exact J3 (nb-1,_) ⟨j4,xI l2 d1,λq e=>kO (k2' (nb-1-1) (by exact AO l2 ek' d2) q e)⟩
     have ek:kk=na-k:=rfl;by_cases d1:kk>0
     ·refine aC d1 ?_;have j3:HJ κ a b (x+1+x') o2 x2 nb:=j.runA (by exact rO l2) hq (by exact wq k1) λi h1 h2 p e=>kQ (k3 i h1 h2 p e);have e2:x2=k:=rfl;by_cases d2:x2=0
      ·refine aC (bT d2) ?_;exact Qq ⟨g4,.inl ⟨_,_,rfl,j3.doneA d2⟩⟩
      refine az (bF d2) ?_;exact J2 (x2,o2) ⟨j3,by dsimp only;exact Ap d2,λp e=>kP (k2 (x2-1) (by omega) p e)⟩
     refine az d1 ?_;exact J2 (na,out) ⟨j,l1,λp e=>kP (k2 (na-1) (by exact Ao l1 ek d1) p e)⟩
    by_cases d:m1>1
    ·refine aC d ?_;exact J _ trivial
    refine az d ?_;exact J _ trivial
end
section
structure Sg (lo:Nat) (st st':SortSt):Prop where
 kind:kindOf st'=kindOf st
 pend:pendingOf st'=pendingOf st
 fail:failedOf st'=failedOf st
 head:∀i,i<lo->(arrOf st')[i]?=(arrOf st)[i]?
 perm:(arrOf st').Perm (arrOf st)
theorem Sg.refl (lo:Nat) (st:SortSt):Sg lo st st:=⟨rfl,rfl,rfl,λ_ _=>rfl,Array.Perm.refl _⟩
variable {a b c st:SortSt} {lo i n nrem:Nat}
theorem Sg.trans (x:Sg lo a b) (y:Sg lo b c):Sg lo a c:=⟨y.kind.trans x.kind,y.pend.trans x.pend,y.fail.trans x.fail,λi h=>(y.head i h).trans (x.head i h),y.perm.trans x.perm⟩
theorem Sg.size (x:Sg lo a b):(arrOf b).size=(arrOf a).size:=x.perm.size_eq
theorem Sg.keys (x:Sg lo a b) (h:∀p∈(arrOf a).toList,Hk κ p):∀p∈(arrOf b).toList,Hk κ p:=λp hp=>h p ((Array.perm_iff_toList_perm.mp x.perm).mem_iff.mp hp)
variable {xs:Array Keyed}
theorem sv {p:Keyed} (h:xs[i]?=some p):KK κ xs i=kv κ p:=by unfold KK kv;rw[h]
theorem dZ (hL:gz κ kd prog w A s) {i j:Nat} {Q:Option Bool->SortSt->Prop} (hk:kindOf st=kd) (ha:∀p∈(arrOf st).toList,Hk κ p) (hi:i<(arrOf st).size) (hj:j<(arrOf st).size)
  (h:Q (some (κ.blt (KK κ (arrOf st) i) (KK κ (arrOf st) j))) st):wpS (model prog w) A E s (ltAt' i j) Q st:=by
 obtain⟨p,hp,_,mp⟩:=aI hi;obtain⟨q,hq,_,mq⟩:=aI hj;rw[sv hp,sv hq]at h;rw[ltAt'_eq];exact Ql (wpS_get (Ql (aP hp (Ql (aP hq (gO hL hk (ha p mp) (ha q mq) h))))))
def Up (κ:KeyKind) (xs:Array Keyed) (lo n:Nat):Prop:=∀i j,i<=j->j<n->κ.kle (KK κ xs (lo+i)) (KK κ xs (lo+j))
def kT (κ:KeyKind) (xs:Array Keyed) (lo n:Nat):Prop:=∀i j,i<=j->j<n->κ.kle (KK κ xs (lo+j)) (KK κ xs (lo+i))
theorem Up.one:Up κ xs lo 1:=λi j h1 h2=>by
 have:i=j:=by exact An h1 h2
 subst this;exact Xw _
theorem Up.more (h:Up κ xs lo n) (h1:1<=n) (c:κ.kle (KK κ xs (lo+(n-1))) (KK κ xs (lo+n))):Up κ xs lo (n+1):=λi j hij hj=>by
 by_cases e:j<n
 ·exact h i j hij e
 have:j=n:=by exact vz hj e
 subst this;by_cases e2:i=j
 ·subst e2;exact Xw _
 exact KeyOrd.kle_trans (h i (j-1) (by exact vv hij h1 e2) (by exact pL h1)) c
theorem kT.more (h:kT κ xs lo n) (h1:1<=n) (c:κ.kle (KK κ xs (lo+n)) (KK κ xs (lo+(n-1)))):kT κ xs lo (n+1):=λi j hij hj=>by
 by_cases e:j<n
 ·exact h i j hij e
 have:j=n:=by exact vz hj e
 subst this;by_cases e2:i=j
 ·subst e2;exact Xw _
 exact KeyOrd.kle_trans c (h i (j-1) (by exact vv hij h1 e2) (by exact pL h1))
theorem n8 {lo a:Nat} {f:Nat->Option (Option Nat) × Nat->StateT SortSt Sem (ForInStep (Option (Option Nat) × Nat))} {Q:Option (Option Nat) × Nat->SortSt->Prop} (h1:1<=a) (h2:a<=nrem) (up:Up κ (arrOf st) lo a)
  (hf:∀x n (R:ForInStep (Option (Option Nat) × Nat)->SortSt->Prop),1<=n->n<nrem->(κ.klt (KK κ (arrOf st) (lo+n)) (KK κ (arrOf st) (lo+(n-1)))->R (.done (none,n)) st)->(κ.kle (KK κ (arrOf st) (lo+(n-1))) (KK κ (arrOf st) (lo+n))->R (.yield (none,n+1)) st)->wpS (model prog w) A E s (f x (none,n)) R st)
  (h:∀n,a<=n->n<=nrem->Up κ (arrOf st) lo n->(n=nrem\/κ.klt (KK κ (arrOf st) (lo+n)) (KK κ (arrOf st) (lo+(n-1))))->Q (none,n) st):wpS (model prog w) A E s (forIn [a:nrem] (none,a) f) Q st:=by
 refine Xl (I:=λx c st'=>st'=st/\c=(none,x)/\Up κ (arrOf st) lo x) ?_ ?_ ⟨rfl,rfl,up⟩
 ·rintro x c st' hax hx ⟨rfl,rfl,u⟩;exact hf x x _ (by exact vt h1 hax) hx (λe=>h x hax (by exact rV hx) u (.inr e)) λe=>⟨rfl,rfl,u.more (by exact vt h1 hax) e⟩
 rintro c st' ⟨rfl,rfl,u⟩;rw[show max a nrem=nrem by exact Am h2]at u ⊢;exact h nrem h2 (Qh _) u (.inl rfl)
theorem gA {lo i j:Nat} {Q:Unit->SortSt->Prop} (hi:lo<=i) (hj:j<=(arrOf st).size) (h:∀st',Sg lo st st'->(∀k,KK κ (arrOf st') k=if i<=k/\k<j then KK κ (arrOf st) (i+j-1-k) else KK κ (arrOf st) k)->Q () st'):wpS (model prog w) A E s (reverseSlice' i j) Q st:=by
 rw[reverseSlice'_eq];refine wpS_modify (h _ ⟨rfl,rfl,rfl,λk hk=>?_,mirror_perm _ _ _ _⟩ λk=>KK_mirror hj k);show (mirror (arrOf st) i j ((j-i) / 2))[k]?=_;rw[getElem?_mirror_all hj,Qz (by exact Al hi hk)]
theorem eY {U α β:Type} {M:Model} {Q:α->U->Prop} {st:U} {m:StateT U Sem α} (f:β->StateT U Sem α) (I:β->U->Prop) (J:∀z st',I z st'->wpS M A E s (f z) Q st') (h:(∀z st',I z st'->wpS M A E s (f z) Q st')->wpS M A E s m Q st):wpS M A E s m Q st:=h J
def jB:Nat->Nat->StateT SortSt Sem (Option Nat):=sortPriv% PySem.Builtin.countRun
theorem pi (hL:gz κ kd prog w A s) {lo nrem:Nat} {Q:Option Nat->SortSt->Prop} (hk:kindOf st=kd) (ha:∀p∈(arrOf st).toList,Hk κ p) (h1:1<=nrem) (hn:lo+nrem<=(arrOf st).size)
  (h:∀m st',Sg lo st st'->1<=m->m<=nrem->Up κ (arrOf st') lo m->Q (some m) st'):wpS (model prog w) A E s (jB lo nrem) Q st:=by
 unfold jB;refine Ql (n8 (κ:=κ) (lo:=lo) (Qh 1) h1 Up.one (λx n R a1 a2 r1 r2=>?_) λn a1 a2 up stop=>?_)
 ·extract_lets
  refine Ql (dZ hL hk ha (by omega) (by omega) ?_);rw[show lo+n-1=lo+(n-1) by exact vq a1];dsimp -zeta only
  cases e:κ.blt (KK κ (arrOf st) (lo+n)) (KK κ (arrOf st) (lo+(n-1))) with
  | true=>refine aC rfl ?_;exact Qq (r1 e)
  | false=>refine az Qj ?_;exact Qq (r2 e)
 show wpS _ _ _ _ (if (n==nrem)=true then pure (some n) else _) _ _;by_cases hnn:n=nrem
 ·refine aC (bT hnn) ?_;exact Qq (h n st (.refl _ _) a1 a2 up)
 refine az (bF hnn) ?_;have lt0:=stop.resolve_left hnn
 extract_lets jn jq jp
 refine eY (λ_:Unit=>jp ()) (λ_ st'=>Sg lo st st'/\kT κ (arrOf st') lo (n+1)) (λ_ st1 hz=>?_) (λJ=>?_)
 ·obtain⟨g1,dn⟩:=hz;refine Ql (wpS_lift (wpAny_rule ⟨rfl,?_⟩))
  refine Ql (wpS_mono (Xl (I:=λx c st'=>∃neq,c=(none,x,neq)/\Sg lo st st'/\kT κ (arrOf st') lo x/\neq+1<=x/\∀i,x-(neq+1)<=i->i<x->KK κ (arrOf st') (lo+i)=KK κ (arrOf st') (lo+(x-1)))
   (Q:=λc st'=>∃x neq,c=(none,x,neq)/\Sg lo st st'/\x<=nrem/\kT κ (arrOf st') lo x/\neq+1<=x/\∀i,x-(neq+1)<=i->i<x->KK κ (arrOf st') (lo+i)=KK κ (arrOf st') (lo+(x-1))) ?step ?fin ⟨0,rfl,g1,dn,by omega,λi i1 i2=>by rw[show i=n+1-1 by omega]⟩) ?post)
  case fin =>
   rintro c st' ⟨neq,rfl,b1,b2,b3,b4⟩;rw[show max (n+1) nrem=nrem by exact Aj a2 hnn]at b2 b3 b4 ⊢;exact⟨nrem,neq,rfl,b1,Qh _,b2,b3,b4⟩
  case step =>
   rintro x c st' hax hx ⟨neq,rfl,b1,b2,b3,b4⟩;have sz:=b1.size;have hk':kindOf st'=kd:=b1.kind.trans hk;have ha':=b1.keys ha;refine Ql (dZ (i:=lo+x) (j:=lo+x-1) hL hk' ha' (by exact oI hn hx sz) (by omega) ?_);rw[show lo+x-1=lo+(x-1) by exact Ai b3];dsimp -zeta only
   extract_lets
   cases e:κ.blt (KK κ (arrOf st') (lo+x)) (KK κ (arrOf st') (lo+(x-1))) with
   | true =>
    refine aC rfl ?_;have d1:=b2.more (by exact rT b3) (KeyOrd.kle_of_klt e);by_cases c:neq>0
    ·refine aC c ?_;refine Ql (gA (κ:=κ) (lo:=lo) (by exact vp b3) (by exact Ah hn hx sz) λst2 g2 kk=>?_)
     have kk:∀i,KK κ (arrOf st2) (lo+i)=KK κ (arrOf st') (lo+i):=λi=>by
      rw[kk]
      split
      ·rename_i q
       obtain⟨e1,e2,e3,e4,e5⟩:=u_ b3 q;rw[e1,b4 _ e2 e3,b4 i e4 e5]
      rfl
     exact Qq ⟨0,rfl,b1.trans g2,λi j h1 h2=>by rw[kk,kk];exact d1 i j h1 h2,by exact vn,λi i1 i2=>by rw[show i=x+1-1 by exact Ag i1 i2]⟩
    refine az c ?_;exact Qq ⟨0,rfl,b1,d1,by exact vn,λi i1 i2=>by rw[show i=x+1-1 by omega]⟩
   | false =>
   refine az Qj ?_;refine Ql (dZ (i:=lo+(x-1)) (j:=lo+x) hL hk' ha' (by omega) (by exact oI hn hx sz) ?_);dsimp -zeta only
   cases e2:κ.blt (KK κ (arrOf st') (lo+(x-1))) (KK κ (arrOf st') (lo+x)) with
   | true =>
    refine aC rfl ?_;exact Qq ⟨x,neq,rfl,b1,by exact rV hx,b2,b3,b4⟩
   | false =>
   refine az Qj ?_;have eq:KK κ (arrOf st') (lo+x)=KK κ (arrOf st') (lo+(x-1)):=KeyOrd.kle_antisymm e2 e;refine Qq ⟨neq+1,rfl,b1,b2.more (by exact rT b3) (by rw[eq];exact Xw _),by exact Af b3,λi i1 i2=>?_⟩;rw[show x+1-1=x by exact Ae];by_cases ix:i=x
   ·rw[ix]
   rw[b4 i (by omega) (by exact Ad i2 ix),eq]
  case post =>
   rintro c st2 ⟨x,neq,rfl,b1,b2,b3,b4,b5⟩
   extract_lets r2 s2 n2 q2 jp2
   have sz:=b1.size;refine eY (λ_:Unit=>jp2 ()) (λ_ st'=>Sg lo st st'/\kT κ (arrOf st') lo x) (λ_ st3 hz=>?_) (λJ2=>?_)
   ·obtain⟨g3,dn3⟩:=hz;have sz3:=g3.size;refine Ql (gA (κ:=κ) (lo:=lo) (Qh _) (show lo+x<=_ by exact Ac hn b2 sz sz3) λst4 g4 kk=>?_);have g5:=g3.trans g4;have sz5:=g5.size;refine Ql (n8 (κ:=κ) (lo:=lo) (show 1<=x by exact rT b4) b2 (λi j h1 h2=>?_) (λy n R a1 a2 r1 r2=>?_) λn a1 a2 up stop=>?_)
    ·have h2:j<x:=h2;rw[kk,kk,Qv (by exact Ab h1 h2),Qv (by exact Aa h2),show lo+(lo+x)-1-(lo+i)=lo+(x-1-i) by exact rN (Nat.lt_of_le_of_lt h1 h2),show lo+(lo+x)-1-(lo+j)=lo+(x-1-j) by exact rN h2];exact dn3 _ _ (by exact z_ h1 h2) (by exact zZ h1 h2)
    ·refine Ql (dZ hL (g5.kind.trans hk) (g5.keys ha) (by omega) (by omega) ?_);rw[show lo+n-1=lo+(n-1) by exact vq a1];dsimp -zeta only
     cases e:κ.blt (KK κ (arrOf st4) (lo+n)) (KK κ (arrOf st4) (lo+(n-1))) with
     | true=>refine aC rfl ?_;exact Qq (r1 e)
     | false=>refine az Qj ?_;exact Qq (r2 e)
    have a1:x<=n:=a1;exact Qq (h n st4 g5 (by exact zY b4 a1) a2 up)
   by_cases c:neq>0
   ·show wpS _ _ _ _ (if neq>0 then _ else _) _ _;refine aC c ?_;refine Ql (gA (κ:=κ) (lo:=lo) (i:=lo+x-(neq+1)) (j:=lo+x) (show lo<=lo+x-(neq+1) by exact vp b4) (show lo+x<=_ by exact zX hn b2 sz) λst3 g3 kk=>?_)
    have kk:∀i,KK κ (arrOf st3) (lo+i)=KK κ (arrOf st2) (lo+i):=λi=>by
     rw[kk]
     split
     ·rename_i q
      obtain⟨e1,e2,e3,e4,e5⟩:=u_ b4 q;rw[e1,b5 _ e2 e3,b5 i e4 e5]
     rfl
    exact J2 () st3 ⟨b1.trans g3,λi j h1 h2=>by rw[kk,kk];exact b3 i j h1 h2⟩
   show wpS _ _ _ _ (if neq>0 then _ else _) _ _;refine az c ?_;exact J2 () st2 ⟨b1,b3⟩
 by_cases c:n>1
 ·refine aC c ?_;refine Ql (dZ hL hk ha (by exact zV h1 hn) (by omega) ?_);rw[show lo+n-1=lo+(n-1) by exact zU c];dsimp -zeta only
  cases e:κ.blt (KK κ (arrOf st) lo) (KK κ (arrOf st) (lo+(n-1))) with
  | true =>
   refine aC rfl ?_;exact Qq (h n st (.refl _ _) a1 a2 up)
  | false =>
  refine az Qj ?_
  have all:∀i,i<n->KK κ (arrOf st) (lo+i)=KK κ (arrOf st) (lo+(n-1)):=λi hi =>
   KeyOrd.kle_antisymm (up i (n-1) (by exact zT c hi) (by exact zS c)) (KeyOrd.kle_trans e (by have:=up 0 i (by exact wx) hi;rwa [Nat.add_zero]at this))
  refine Ql (gA (κ:=κ) (lo:=lo) (Qh _) (show lo+n<=_ by exact zR hn a2) λst3 g3 kk=>?_)
  have kk:∀i,KK κ (arrOf st3) (lo+i)=KK κ (arrOf st) (lo+i):=λi=>by
   rw[kk]
   split
   ·rename_i q
    have l:=Nat.lt_of_add_lt_add_left q.2;rw[rN l,all _ (Nat.lt_of_le_of_lt (Nat.sub_le _ _) (Nat.sub_lt (Nat.lt_of_le_of_lt (Q5 _) l) Nat.zero_lt_one)),all i l]
   rfl
  refine J () st3 ⟨g3,kT.more (λi j h1 h2=>?_) a1 ?_⟩
  ·rw[kk,kk,all i (by exact zQ h1 h2),all j h2];exact Xw _
  rw[kk,kk];exact KeyOrd.kle_of_klt lt0
 refine az c ?_;refine J () st ⟨.refl _ _,kT.more (λi j h1 h2=>?_) a1 (KeyOrd.kle_of_klt lt0)⟩;have:i=j:=by exact zP a1 c h1 h2
 subst this;exact Xw _
end
section
def AC:Nat->Nat->Nat->StateT SortSt Sem Bool:=sortPriv% PySem.Builtin.binarySort
theorem tE (hL:gz κ kd prog w A s) {st:SortSt} {lo n ok:Nat} {Q:Bool->SortSt->Prop} (hk:kindOf st=kd) (ha:∀p∈(arrOf st).toList,Hk κ p) (h1:ok<=n) (hn:lo+n<=(arrOf st).size) (up:Up κ (arrOf st) lo ok)
  (h:∀st',Sg lo st st'->Up κ (arrOf st') lo n->Q true st'):wpS (model prog w) A E s (AC lo n ok) Q st:=by
 unfold AC;refine Ql (wpS_mono (Xl (I:=λk c st'=>c=(none,())/\Sg lo st st'/\Up κ (arrOf st') lo (min k n)) (Q:=λc st'=>c=(none,())/\Sg lo st st'/\Up κ (arrOf st') lo n) ?step ?fin ?init) ?post)
 case post =>
  rintro c st' ⟨rfl,g,u⟩;exact Qq (h st' g u)
 case init =>
  refine⟨rfl,.refl _ _,λi j hij hj=>?_⟩;by_cases e:ok=0
  ·have:i=j:=by exact zO hij hj e
   subst this;exact Xw _
  exact up i j hij (by exact zN h1 hj e)
 case fin =>
  rintro c st' ⟨rfl,g,u⟩;rw[show min (max (max ok 1) n) n=n by exact zM]at u;exact⟨rfl,g,u⟩
 case step =>
  rintro k c st' k1 k2 ⟨rfl,g,u⟩;rw[show min k n=k by exact zK k2]at u;have sz:=g.size
  refine Ql (wpS_mono (Xl (I:=λx c st2=>st2=st'/\∃l r,c=(none,l,r)/\l<=r/\r<=k/\r-l<=k-x/\(∀i,i<l->κ.kle (KK κ (arrOf st') (lo+i)) (KK κ (arrOf st') (lo+k)))/\(∀i,r<=i->i<k->κ.kle (KK κ (arrOf st') (lo+k)) (KK κ (arrOf st') (lo+i))))
   (Q:=λc st2=>st2=st'/\∃l,c=(none,l,l)/\l<=k/\(∀i,i<l->κ.kle (KK κ (arrOf st') (lo+i)) (KK κ (arrOf st') (lo+k)))/\(∀i,l<=i->i<k->κ.kle (KK κ (arrOf st') (lo+k)) (KK κ (arrOf st') (lo+i)))) ?istep ?ifin ⟨rfl,0,k,rfl,by exact wx,by exact zJ,by exact zI,λi hi=>by omega,λi a b=>by omega⟩) ?ipost)
  case ifin =>
   rintro c st2 ⟨rfl,l,r,rfl,a1,a2,a3,a4,a5⟩;have:l=r:=by exact yn a1 a3
   subst this;exact⟨rfl,l,rfl,a2,a4,a5⟩
  case istep =>
   rintro x c st2 _ hx ⟨rfl,l,r,rfl,a1,a2,a3,a4,a5⟩;dsimp -zeta only
   extract_lets
   by_cases c:l>=r
   ·show wpS _ _ _ _ (if l>=r then _ else _) _ _;refine aC c ?_;have:l=r:=by exact wy a1 c
    subst this;exact Qq ⟨rfl,l,rfl,a2,a4,a5⟩
   show wpS _ _ _ _ (if l>=r then _ else _) _ _;refine az c ?_;refine Ql (dZ (i:=lo+k) (j:=lo+(l+r) / 2) hL (g.kind.trans hk) (g.keys ha) (by exact oI hn k2 sz) (by omega) ?_);dsimp -zeta only
   cases e:κ.blt (KK κ (arrOf st2) (lo+k)) (KK κ (arrOf st2) (lo+(l+r) / 2)) with
   | true =>
    refine aC rfl ?_;refine Qq ⟨rfl,l,(l+r) / 2,rfl,by exact zH c,by exact zF a2 c,xL a3 c,a4,λi b1 b2=>?_⟩;exact KeyOrd.kle_trans (KeyOrd.kle_of_klt e) (u _ _ b1 b2)
   | false =>
   refine az Qj ?_;refine Qq ⟨rfl,(l+r) / 2+1,r,rfl,by exact zE c,by exact wq a2,xM a3 c,λi b1=>?_,a5⟩;exact KeyOrd.kle_trans (u i ((l+r) / 2) (by exact zD b1) (by exact zC a2 c)) e
  case ipost =>
   rintro c st2 ⟨rfl,l,rfl,a2,a4,a5⟩;show wpS _ _ _ _ (moveDown' (lo+k) (lo+l) >>= _) _ _;rw[moveDown'_eq];have hks:lo+k<(arrOf st2).size:=by exact oI hn k2 sz
   refine Ql (wpS_modify (Qq ⟨rfl,g.trans ⟨rfl,rfl,rfl,λi hi=>?_,bubble_perm _ _ _⟩,λi j hij hj=>?_⟩))
   ·show (bubble (arrOf st2) (lo+k) (lo+k-(lo+l)))[i]?=_;rw[getElem?_bubble hks _ (by exact zB a2 hi),Qz (by exact zw a2 hi),Qz (by omega)]
   rw[show min (k+1) n=k+1 by exact zu k2]at hj;show κ.kle (KK κ (bubble (arrOf st2) (lo+k) (lo+k-(lo+l))) (lo+i)) (KK κ (bubble (arrOf st2) (lo+k) (lo+k-(lo+l))) (lo+j));rw[KK_bubble hks (by exact vm a2),KK_bubble hks (by exact vm a2),show lo+k-(lo+k-(lo+l))=lo+l by exact zt a2];have sh:∀i,l<i->lo+i-1=lo+(i-1):=λi hi=>by exact zq hi
   by_cases ci:i<l
   ·rw[Qz (by exact vj ci),Qz (by exact vi ci)];by_cases cj:j<l
    ·rw[Qz (by exact vj cj),Qz (by exact vi cj)];exact u i j hij (by exact zp a2 hj cj)
    by_cases cj2:j=l
    ·rw[Qv (by exact vh cj2)];exact a4 i ci
    rw[Qz (by exact vg cj2),Qv (by omega),sh j (by exact vf cj cj2)];exact u i (j-1) (by exact zo hij ci cj) (by exact zn a2 hij hj ci)
   by_cases ci2:i=l
   ·rw[Qv (by exact vh ci2)];by_cases cj2:j=l
    ·rw[Qv (by exact zm ci2 cj2)];exact Xw _
    rw[Qz (by exact zk ci2 cj2),Qv (by omega),sh j (by exact zj hij ci2 cj2)];exact a5 (j-1) (by exact zi hij ci2 cj2) (by exact zh hij hj ci2 cj2)
   rw[Qz (by exact vg ci2),Qv (by omega),Qz (by exact zg hij ci ci2),Qv (by omega),sh i (by exact vf ci ci2),sh j (by exact ze hij ci ci2)];exact u (i-1) (j-1) (by exact zd hij) (by exact zc hij hj ci ci2)
end
theorem lQ (o:Nat):∀(M:List Keyed) (j:Nat) (arr:Array Keyed) (P S T:List Keyed),arr.toList=P++(S++T)->P.length=o+j->S.length=M.length->((M.zipIdx j).foldl (λa (x:Keyed × Nat)=>a.setIfInBounds (o+x.2) x.1) arr).toList=P++(M++T)
 | [],j,arr,P,S,T,h,hp,hs=>by
  have:S=[]:=Q2 hs;subst this;exact h
 | p::M,j,arr,P,[],T,h,hp,hs=>by simp at hs
 | p::M,j,arr,P,q::S,T,h,hp,hs=>by
  rw[List.zipIdx_cons,List.foldl_cons]
  have e:(arr.setIfInBounds (o+j) p).toList=(P++[p])++(S++T):=by
   rw[Array.toList_setIfInBounds,h,List.set_append,Qz (by exact zb hp),show o+j-P.length=0 by exact za hp];simp
  have:=lQ o M (j+1) (arr.setIfInBounds (o+j) p) (P++[p]) S T e (by rw[Qd];simp;exact y_ hp) (by simpa using hs);rw[this];simp
def dq:Nat->List (List Keyed)->List (Nat × Nat)
 | _,[]=>[]
 | b,r::rs=>(b,r.length)::dq (b+r.length) rs
theorem fo (u w:List (List Keyed)):∀b,dq b (u++w)=dq b u++dq (b+u.flatten.length) w:=by
 induction u with
 | nil=>intro b;simp[dq]
 | cons r u ih =>
 intro b;show (b,r.length)::dq (b+r.length) (u++w)=_;rw[ih];show _=(b,r.length)::(dq (b+r.length) u++_);rw[List.flatten_cons,Qd,Nat.add_assoc]
theorem lW (u:List (List Keyed)):∀b,(dq b u).length=u.length:=by
 induction u with
 | nil=>intro b;rfl
 | cons r u ih=>intro b;show (dq _ u).length+1=_;rw[ih];rfl
structure RI (κ:KeyKind) (kd:SortKind) (a₀:Array Keyed) (st:SortSt) (rs:List (List Keyed)) (rest:List Keyed):Prop where
 arr:(arrOf st).toList=rs.flatten++rest
 perm:(arrOf st).Perm a₀
 ok:∀r∈rs,r≠[]/\r.Pairwise (le κ)
 pend:(pendingOf st).toList.map (λp=>(p.1,p.2.1))=dq 0 rs
 kind:kindOf st=kd
 fail:failedOf st=none
theorem tT {ps:Array (Nat × Nat × Nat)} {u v:List (List Keyed)} {X Y:List Keyed} (h:ps.toList.map (λp=>(p.1,p.2.1))=dq 0 (u++X::Y::v)) :
  ∃p1 p2,ps[u.length]?=some (u.flatten.length,X.length,p1)/\ps[u.length+1]?=some (u.flatten.length+X.length,Y.length,p2) /\
   ((ps.setIfInBounds u.length (u.flatten.length,X.length+Y.length,p1)).eraseIdxIfInBounds (u.length+1)).toList.map (λp=>(p.1,p.2.1))=dq 0 u++(u.flatten.length,X.length+Y.length)::dq (u.flatten.length+X.length+Y.length) v:=by
 rw[fo,Nat.zero_add]at h;have h:ps.toList.map (λp=>(p.1,p.2.1))=dq 0 u++(u.flatten.length,X.length)::(u.flatten.length+X.length,Y.length)::dq (u.flatten.length+X.length+Y.length) v:=h;have lu:=lW u 0;obtain⟨l1,l2,e,e1,e2⟩:=List.map_eq_append_iff.mp h
 cases l2 with
 | nil=>simp at e2
 | cons a l2 =>
 cases l2 with
 | nil=>simp at e2
 | cons b l2 =>
 obtain⟨a1,a2,a3⟩:=a;obtain⟨b1,b2,b3⟩:=b;simp only[QL,List.cons.injEq,Prod.mk.injEq]at e2;obtain⟨⟨rfl,rfl⟩,⟨rfl,rfl⟩,e3⟩:=e2;have l1l:l1.length=u.length:=by rw[<-lu,<-e1,Qa]
 have pe:ps=(l1++(u.flatten.length,X.length,a3)::(u.flatten.length+X.length,Y.length,b3)::l2).toArray:=by rw[<-e]
 subst pe;refine⟨a3,b3,?_,?_,?_⟩
 ·rw[<-l1l];simp
 ·rw[<-l1l];simp[QK]
 rw[<-l1l,<-e1,<-e3];simp[Array.eraseIdxIfInBounds,List.set_append,List.eraseIdx_append];rw[Qz (by exact yZ)];simp
section
theorem tD {U:Type} {M:Model} {x:U} {Q:PUnit->U->Prop} {st:U} (h:Q ⟨⟩ x):wpS M A E s (set x:StateT U Sem PUnit) Q st:=by
 unfold wpS;rw[StateT.run_set];exact QJ ⟨rfl,h⟩
theorem gb (hL:gz κ kd prog w A s) {st:SortSt} {a₀:Array Keyed} {u v:List (List Keyed)} {X Y rest:List Keyed} {Q:Bool->SortSt->Prop} (ha:∀p∈a₀.toList,Hk κ p) (I:RI κ kd a₀ st (u++X::Y::v) rest)
  (h:∀Z st',Z.length=X.length+Y.length->RI κ kd a₀ st' (u++Z::v) rest->Q true st'):wpS (model prog w) A E s (mergeAt' u.length) Q st:=by
 obtain⟨earr,perm,ok,pend,kind,fail⟩:=I;obtain⟨p1,p2,e1,e2,e3⟩:=tT pend;obtain⟨xne,sx⟩:=ok X (by simp);obtain⟨yne,sy⟩:=ok Y (by simp);have xl:1<=X.length:=Nat.pos_of_ne_zero λz=>xne (Q2 z);have yl:1<=Y.length:=Nat.pos_of_ne_zero λz=>yne (Q2 z);have ha':∀p∈(arrOf st).toList,Hk κ p:=λp hp=>ha p ((Array.perm_iff_toList_perm.mp perm).mem_iff.mp hp);have earr:(arrOf st).toList=u.flatten++(X++(Y++(v.flatten++rest))):=by rw[earr];simp
 have sz:(arrOf st).size=u.flatten.length+(X.length+(Y.length+(v.flatten++rest).length)):=by rw[<-QC,earr];simp only[Qd]
 have atX:∀i,i<X.length->(arrOf st)[u.flatten.length+i]?=X[i]?:=λi hi=>by rw[<-Qx,earr,QK (by exact rQ),Xy,QT hi]
 have atY:∀i,i<Y.length->(arrOf st)[u.flatten.length+X.length+i]?=Y[i]?:=λi hi=>by rw[<-Qx,earr,QK (by exact yY xl sz),QK (by exact yX xl sz),show u.flatten.length+X.length+i-u.flatten.length-X.length=i by exact yW,QT hi]
 obtain⟨y0,hy0⟩:∃y0,Y[0]?=some y0:=⟨Y[0],by rw[Qb]⟩;obtain⟨xz,hxz⟩:∃xz,X[X.length-1]?=some xz:=⟨X[X.length-1],by rw[Qb]⟩;have key0:(arrOf st)[u.flatten.length+X.length]?=some y0:=by have:=atY 0 (by exact rP yl);rw[Nat.add_zero]at this;rw[this,hy0]
 have pwi:∀{L:List Keyed},L.Pairwise (le κ)->∀{i j:Nat} {p q:Keyed},i<=j->L[i]?=some p->L[j]?=some q->le κ p q:=λ{L} sl {i j p q} hij hi hj=>by
  by_cases e:i=j
  ·subst e;rw[hi]at hj;cases hj;exact Xw _
  obtain⟨li,ei⟩:=Qc.mp hi;obtain⟨lj,ej⟩:=Qc.mp hj;have:=(List.pairwise_iff_getElem.mp sl) i j li lj (by exact xZ hij e);rwa [ei,ej]at this
 have leY:∀q∈Y,le κ y0 q:=λq hq=>by
  obtain⟨j,hj,ej⟩:=QH.mp hq;exact pwi sy (Q5 j) hy0 (by rw[Qb hj,ej])
 have leX:∀p∈X,le κ p xz:=λp hp=>by
  obtain⟨j,hj,ej⟩:=QH.mp hp;exact pwi sx (show j<=X.length-1 by exact yV xl sz hj) (by rw[Qb hj,ej]) hxz
 have same:∀st',arrOf st'=arrOf st->kindOf st'=kindOf st->failedOf st'=failedOf st->(pendingOf st').toList.map (λp=>(p.1,p.2.1))=dq 0 u++(u.flatten.length,X.length+Y.length)::dq (u.flatten.length+X.length+Y.length) v->(∀p∈X,∀q∈Y,le κ p q)->Q true st':=λst' h1 h2 h3 h4 h5=>by
  refine h (X++Y) st' (by simp) ⟨by rw[h1,earr];simp,by rw[h1];exact perm,λr hr=>?_,?_,h2.trans kind,h3.trans fail⟩
  ·rcases Qk.mp hr with e|e
   ·exact ok r (by simp[e])
   rcases Qu.mp e with e|e
   ·subst e;exact⟨by simp[xne],Q7.mpr ⟨sx,sy,h5⟩⟩
   exact ok r (by simp[e])
  rw[h4,fo,Nat.zero_add];show _=_++(u.flatten.length,(X++Y).length)::dq (u.flatten.length+(X++Y).length) v;rw[Qd,Nat.add_assoc]
 unfold mergeAt';refine Ql (wpS_get ?_);show wpS _ _ _ _ (match ((pendingOf st)[u.length]?,(pendingOf st)[u.length+1]?) with|(some (sa,na,power),some (sb,nb,_))=>_|x=>_) _ _;rw[e1,e2];dsimp -zeta only;refine Ql (tD ?_);refine Ql (aP key0 ?_);have hk0:Hk κ y0:=ha' y0 (by rw[Array.mem_toList_iff];exact Array.mem_of_getElem? key0);refine Ql (d5 (a:=arrOf st) (base:=u.flatten.length) (n:=X.length) (hint:=0) hL (by exact kind) hk0 ha' (by exact yU yl sz) (λi j p q b1 b2 b3 c1 c2=>?_) (by exact yT xl sz) λk k1 k2 k3=>?_)
 ·have f1:=atX (i-u.flatten.length) (by omega);have f2:=atX (j-u.flatten.length) (by omega);rw[show u.flatten.length+(i-u.flatten.length)=i by exact yS b1,c1]at f1;rw[show u.flatten.length+(j-u.flatten.length)=j by exact yR b1 b2,c2]at f2;exact pwi sx (show i-u.flatten.length<=j-u.flatten.length by exact yQ b1 b2) f1.symm f2.symm
 dsimp -zeta only;have k2':∀i,i<k->∀p,X[i]?=some p->le κ p y0:=λi hi p e=>kP (k2 i hi p (by rw[atX i (by exact yP sz k1 hi)];exact e))
 have k3':∀i,k<=i->∀p,X[i]?=some p->le κ y0 p:=λi hi p e=>by
  have hl:=(Qc.mp e).1;exact kQ (k3 i hi hl p (by rw[atX i hl];exact e))
 by_cases d1:X.length-k=0
 ·refine aC (bT d1) ?_;refine Qq (same _ rfl rfl rfl e3 λp hp q hq=>?_);obtain⟨j,hj,ej⟩:=QH.mp hp;exact le_trans (k2' j (by omega) p (by rw[Qb hj,ej])) (leY q hq)
 refine az (bF d1) ?_
 have keyz:(arrOf st)[u.flatten.length+k+(X.length-k)-1]?=some xz:=by
  rw[(xK (f:=u.flatten.length) k1).resolve_right (λz=>by rw[z]at xl;exact absurd xl (by decide)),atX _ (by exact yO xl sz),hxz]
 refine Ql (aP keyz ?_);have hkz:Hk κ xz:=ha' xz (by rw[Array.mem_toList_iff];exact Array.mem_of_getElem? keyz);refine Ql (d5 (a:=arrOf st) (base:=u.flatten.length+X.length) (n:=Y.length) (hint:=Y.length-1) hL (by exact kind) hkz ha' (by exact yN sz) (λi j p q b1 b2 b3 c1 c2=>?_) (by exact pL yl) λm m1 m2 m3=>?_)
 ·have f1:=atY (i-(u.flatten.length+X.length)) (by omega);have f2:=atY (j-(u.flatten.length+X.length)) (by omega);rw[show u.flatten.length+X.length+(i-(u.flatten.length+X.length))=i by omega,c1]at f1;rw[show u.flatten.length+X.length+(j-(u.flatten.length+X.length))=j by omega,c2]at f2;exact pwi sy (show i-(u.flatten.length+X.length)<=j-(u.flatten.length+X.length) by omega) f1.symm f2.symm
 dsimp -zeta only;have m2':∀i,i<m->∀p,Y[i]?=some p->le κ p xz:=λi hi p e=>kO (m2 i hi p (by rw[atY i (by exact yM m1 hi)];exact e))
 have m3':∀i,m<=i->∀p,Y[i]?=some p->le κ xz p:=λi hi p e=>by
  have hl:=(Qc.mp e).1;exact kR (m3 i hi hl p (by rw[atY i hl];exact e))
 by_cases d2:m=0
 ·refine aC (bT d2) ?_;refine Qq (same _ rfl rfl rfl e3 λp hp q hq=>?_);obtain⟨j,hj,ej⟩:=QH.mp hq;exact le_trans (leX p hp) (m3' j (by exact yL d2) q (by rw[Qb hj,ej]))
 refine az (bF d2) ?_
 extract_lets x y jp
 have ex:x.toList=X.drop k:=by
  show ((arrOf st).extract (u.flatten.length+k) (u.flatten.length+X.length)).toList=_;rw[show u.flatten.length+X.length=(u.flatten.length+k)+(X.length-k) by omega,gL,earr,<-List.drop_drop,List.drop_left,List.drop_append_of_le_length (by exact wq k1),List.take_append_of_le_length (by rw[Xd];exact om1),QP (by rw[Xd];exact om1)]
 have ey:y.toList=Y.take m:=by
  show ((arrOf st).extract (u.flatten.length+X.length) (u.flatten.length+X.length+m)).toList=_;rw[gL,earr,<-List.drop_drop,List.drop_left,List.drop_left,List.take_append_of_le_length m1]
 have zx:x.size=X.length-k:=by rw[<-QC,ex,Xd]
 have zy:y.size=m:=by rw[<-QC,ey,QF];omega
 have atx:∀{i p},x[i]?=some p->X[k+i]?=some p:=λ{i p} e=>by rw[<-Qx,ex,List.getElem?_drop]at e;exact e
 have aty:∀{i p},y[i]?=some p->Y[i]?=some p:=λ{i p} e=>by
  have hl:=(QB.mp e).1;rw[<-Qx,ey,List.getElem?_take,Qv (by exact nC zy hl)]at e;exact e
 have inX:∀p∈x.toList,∃i,k<=i/\X[i]?=some p:=λp hp=>by
  obtain⟨i,hi,ei⟩:=QH.mp hp;exact⟨k+i,by exact rQ,atx (by rw[<-Qx,Qb hi,ei])⟩
 have inY:∀p∈y.toList,∃i,i<m/\Y[i]?=some p:=λp hp=>by
  obtain⟨i,hi,ei⟩:=QH.mp hp;rw[QC]at hi;exact⟨i,by exact nC zy hi,aty (by rw[<-Qx,Qb (by rw[QC];exact hi),ei])⟩
 have mX:∀{p i},X[i]?=some p->p∈X:=λe=>Qn e
 have hx:∀p∈x.toList,Hk κ p:=λp hp=>by
  obtain⟨i,_,e⟩:=inX p hp;exact ha' p (by rw[earr];simp[Qn e])
 have hy:∀p∈y.toList,Hk κ p:=λp hp=>by
  obtain⟨i,_,e⟩:=inY p hp;exact ha' p (by rw[earr];simp[Qn e])
 have ssx:x.toList.Pairwise (le κ):=by rw[ex];exact sx.sublist (List.drop_sublist _ _)
 have ssy:y.toList.Pairwise (le κ):=by rw[ey];exact sy.sublist (List.take_sublist _ _)
 have first:∀p∈x.toList,∀q,y[0]?=some q->le κ q p:=λp hp q hq=>by
  obtain⟨i,hi,e⟩:=inX p hp;have:=aty hq;rw[hy0]at this;cases this;exact k3' i hi p e
 have last:∀q∈y.toList,∀p,x[x.size-1]?=some p->le κ q p:=λq hq p hp=>by
  obtain⟨i,hi,e⟩:=inY q hq;have:=atx hp;rw[xJ k1 d1 zx,hxz]at this;cases this;exact m2' i hi q e
 refine eY (λz:Array Keyed=>jp z) (λz st'=>Gs (setPending st (((pendingOf st).setIfInBounds u.length (u.flatten.length,X.length+Y.length,p1)).eraseIdxIfInBounds (u.length+1))) st'/\Srt κ (x.toList++y.toList) z.toList) (λz st1 hz=>?_) (λJ=>?_)
 ·obtain⟨g,so⟩:=hz;refine Ql (wpS_modify ?_);refine Ql (wpS_get ?_);have f1:failedOf st1=none:=g.fail.trans fail;have lz:z.toList.length=(X.length-k)+m:=by rw[so.1.length_eq,Qd,QC,QC,zx,zy]
  have ar:(List.foldl (λa (x:Keyed × Nat)=>a.setIfInBounds (u.flatten.length+k+x.snd) x.fst) (arrOf st1) z.toList.zipIdx).toList=u.flatten++((X.take k++(z.toList++Y.drop m))++(v.flatten++rest)):=by
   rw[lQ (u.flatten.length+k) z.toList 0 (arrOf st1) (u.flatten++X.take k) (X.drop k++Y.take m) (Y.drop m++(v.flatten++rest)) ?_ ?_ ?_]
   ·simp only[Q0]
   ·rw[show arrOf st1=arrOf st from g.arr,earr]
    conv=>lhs;rw[<-Q3 k X,<-Q3 m Y]
    simp only[Q0]
   ·rw[Qd,QF];exact yK sz k1
   rw[lz,Qd,Xd,QF];exact yJ m1 zy
  have pz:(X.take k++(z.toList++Y.drop m)).Perm (X++Y):=by
   conv=>rhs;rw[<-Q3 k X,<-Q3 m Y]
   rw[Q0];refine List.Perm.append_left _ ?_;rw[<-Q0];refine List.Perm.append_right _ ?_;rw[<-ex,<-ey];exact so.1
  have mz:∀p∈z.toList,(∃i,k<=i/\X[i]?=some p)\/∃i,i<m/\Y[i]?=some p:=λp hp=>by
   rcases Qk.mp (so.1.mem_iff.mp hp) with e|e
   ·exact .inl (inX p e)
   exact .inr (inY p e)
  have tk:∀p∈X.take k,∃i,i<k/\X[i]?=some p:=λp hp=>by
   obtain⟨i,hi,ei⟩:=QH.mp hp;have:=Qb hi;rw[ei,List.getElem?_take]at this;rw[QF]at hi;rw[Qv (by omega)]at this;exact⟨i,by omega,this⟩
  have dm:∀p∈Y.drop m,∃i,m<=i/\Y[i]?=some p:=λp hp=>by
   obtain⟨i,hi,ei⟩:=QH.mp hp;have:=Qb hi;rw[ei,List.getElem?_drop]at this;exact⟨m+i,by exact rQ,this⟩
  have sz':(X.take k++(z.toList++Y.drop m)).Pairwise (le κ):=by
   refine Q7.mpr ⟨sx.sublist (List.take_sublist _ _),Q7.mpr ⟨so.2,sy.sublist (List.drop_sublist _ _),λp hp q hq=>?_⟩,λp hp q hq=>?_⟩
   ·obtain⟨j,hj,ej⟩:=dm q hq;rcases mz p hp with⟨i,hi,ei⟩|⟨i,hi,ei⟩
    ·exact le_trans (leX p (mX ei)) (m3' j hj q ej)
    exact pwi sy (by exact yI zy hj hi) ei ej
   obtain⟨i,hi,ei⟩:=tk p hp;rcases Qk.mp hq with e|e
   ·rcases mz q e with⟨j,hj,ej⟩|⟨j,hj,ej⟩
    ·exact pwi sx (by exact yH hi hj) ei ej
    exact le_trans (k2' i hi p ei) (leY q (Qn ej))
   obtain⟨j,hj,ej⟩:=dm q e;exact le_trans (k2' i hi p ei) (leY q (Qn ej))
  have fin:∀st',arrOf st'=List.foldl (λa (x:Keyed × Nat)=>a.setIfInBounds (u.flatten.length+k+x.snd) x.fst) (arrOf st1) z.toList.zipIdx->kindOf st'=kindOf st1->failedOf st'=failedOf st1->pendingOf st'=pendingOf st1->Q true st':=λst' h1 h2 h3 h4=>by
   refine h (X.take k++(z.toList++Y.drop m)) st' (by rw[pz.length_eq,Qd]) ⟨?_,?_,λr hr=>?_,?_,h2.trans (g.kind.trans kind),h3.trans f1⟩
   ·rw[h1,ar];simp
   ·refine Array.Perm.trans ?_ perm;rw[Array.perm_iff_toList_perm,h1,ar,earr];refine List.Perm.append_left _ ?_;rw[<-Q0 X];exact List.Perm.append_right _ pz
   ·rcases Qk.mp hr with e|e
    ·exact ok r (by simp[e])
    rcases Qu.mp e with e|e
    ·subst e;refine⟨λz0=>?_,sz'⟩;have:=pz.length_eq;rw[z0,Qd]at this;simp at this;omega
    exact ok r (by simp[e])
   rw[h4,show pendingOf st1=_ from g.pend];rw[fo,Nat.zero_add];show _=_++(u.flatten.length,(X.take k++(z.toList++Y.drop m)).length)::dq (u.flatten.length+(X.take k++(z.toList++Y.drop m)).length) v;rw[pz.length_eq,Qd,<-Nat.add_assoc];exact e3
  refine Qq ?_;show Q (failedOf st1).isNone (setArr st1 (List.foldl (λa (x:Keyed × Nat)=>a.setIfInBounds (u.flatten.length+k+x.snd) x.fst) (arrOf st1) z.toList.zipIdx));rw[show (failedOf st1).isNone=true by rw[f1];rfl];exact fin _ rfl rfl rfl rfl
 by_cases d3:X.length-k<=m
 ·refine aC d3 ?_;refine Ql (kY hL (by exact kind) hx hy (by omega) (by omega) ⟨by simp,List.Pairwise.nil,ssx,ssy,λp hp=>(nomatch hp),λp hp=>(nomatch hp),λq hq l hl=>last q hq l ?_⟩ first λr st' g so=>J r st' ⟨g,so⟩);rw[List.getLast?_eq_getElem?,Qx,QC]at hl;exact hl
 refine az d3 ?_;exact Ql (kZ hL (by exact kind) hx hy (by omega) (by omega) ssx ssy first last λr st' g so=>J r st' ⟨g,so⟩)
end
section
variable {xs a₀:Array Keyed}
theorem tG {lo n:Nat} (h:Up κ xs lo n) (hn:lo+n<=xs.size):((xs.toList.drop lo).take n).Pairwise (le κ):=by
 rw[List.pairwise_iff_getElem];intro i j hi hj hij;rw[QF,Xd,QC]at hi hj
 have at_:∀(m:Nat) (hm:m<((xs.toList.drop lo).take n).length),kv κ ((xs.toList.drop lo).take n)[m]=KK κ xs (lo+m):=λm hm=>by
  have e:=Qb hm;rw[QF,Xd,QC]at hm;rw[List.getElem?_take,Qv (by exact ve hm),List.getElem?_drop,Qx]at e;exact(sv e).symm
 unfold le;rw[at_,at_];exact h i j (by exact rV hij) (by exact ve hj)
variable {rest:List Keyed} {rs:List (List Keyed)} {st st2:SortSt}
theorem lU (I:RI κ kd a₀ st rs rest):(pendingOf st).size=rs.length:=by
 have:=congrArg List.length I.pend;rwa [Qa,lW,QC]at this
theorem qQ {rs:List (List Keyed)} {i:Nat} (h:i+1<rs.length):∃u X Y v,rs=u++X::Y::v/\u.length=i:=by
 refine⟨rs.take i,rs[i],rs[i+1],rs.drop (i+2),?_,by rw[QF];exact yG h⟩;rw[<-List.drop_eq_getElem_cons,<-List.drop_eq_getElem_cons,Q3]
theorem RI.seg (I:RI κ kd a₀ st rs rest) (g:Sg rs.flatten.length st st2):RI κ kd a₀ st2 rs ((arrOf st2).toList.drop rs.flatten.length):=by
 refine⟨?_,g.perm.trans I.perm,I.ok,by rw[g.pend];exact I.pend,g.kind.trans I.kind,g.fail.trans I.fail⟩
 have:(arrOf st2).toList.take rs.flatten.length=rs.flatten:=by
  refine List.ext_getElem? λi=>?_;rw[List.getElem?_take]
  split
  ·rename_i hi
   rw[Qx,g.head i hi,<-Qx,I.arr,QT hi]
  rename_i hi
  rw[List.getElem?_eq_none (by exact om2 hi)]
 conv=>lhs;rw[<-Q3 rs.flatten.length (arrOf st2).toList]
 rw[this]
variable {ps:Array (Nat × Nat × Nat)}
theorem RI.power (I:RI κ kd a₀ st rs rest) (h:ps.toList.map (λp=>(p.1,p.2.1))=(pendingOf st).toList.map (λp=>(p.1,p.2.1))):RI κ kd a₀ (setPending st ps) rs rest :=
 ⟨I.arr,I.perm,I.ok,h.trans I.pend,I.kind,I.fail⟩
theorem nG {i pw:Nat}:(ps.modify i λx=>match x with|(st,len,_)=>(st,len,pw)).toList.map (λp=>(p.1,p.2.1))=ps.toList.map (λp=>(p.1,p.2.1)):=by
 refine List.ext_getElem? λj=>?_;rw[Qe,Qe,Qx,Qx,Array.getElem?_modify]
 split
 ·cases ps[j]? with
  | none=>rfl
  | some p=>rfl
 rfl
theorem qC (hL:gz κ kd prog w A s) {st:SortSt} {a₀:Array Keyed} {Q:Unit->SortSt->Prop} (ha:∀p∈a₀.toList,Hk κ p) (I:RI κ kd a₀ st [] a₀.toList)
  (h:∀st',(arrOf st').Perm a₀->failedOf st'=none->(arrOf st').toList.Pairwise (le κ)->Q () st'):wpS (model prog w) A E s sortRuns' Q st:=by
 have ha2:∀{st:SortSt} {rs:List (List Keyed)} {rest:List Keyed},RI κ kd a₀ st rs rest->∀p∈(arrOf st).toList,Hk κ p:=λI p hp=>ha p ((Array.perm_iff_toList_perm.mp I.perm).mem_iff.mp hp)
 have sz:∀{st:SortSt} {rs:List (List Keyed)} {rest:List Keyed},RI κ kd a₀ st rs rest->(arrOf st).size=a₀.size/\a₀.size=rs.flatten.length+rest.length:=λI=>by
  have:=I.perm.size_eq;refine⟨this,?_⟩;rw[<-this,<-QC,I.arr,Qd]
 unfold sortRuns';refine Ql (wpS_get ?_)
 extract_lets szv mr lo0
 have ez:szv=a₀.size:=(sz I).1
 clear_value szv mr
 subst ez;refine Ql (wpS_mono (Xl (I:=λx c st'=>∃rs rest,c=(none,rs.flatten.length)/\RI κ kd a₀ st' rs rest/\(x<=rs.flatten.length\/rest=[])) (Q:=λc st'=>∃rs lo,c=(none,lo)/\RI κ kd a₀ st' rs []) ?step ?fin ⟨[],_,rfl,I,.inl (Q5 _)⟩) ?post)
 case fin =>
  rintro c st' ⟨rs,rest,rfl,J,o⟩;have:=(sz J).2
  have e:rest=[]:=by
   rcases o with o|o
   ·exact Q2 (by exact yF this o)
   exact o
  subst e;exact⟨rs,_,rfl,J⟩
 case step =>
  rintro x c st' _ hx ⟨rs,rest,rfl,J,o⟩;have zz:=(sz J).2;have zs:=(sz J).1;generalize hlo:rs.flatten.length=lo at *;by_cases c1:lo>=a₀.size
  ·show wpS _ _ _ _ (if lo>=a₀.size then _ else _) _ _;refine aC c1 ?_;have e:rest=[]:=Q2 (by exact yE zs zz c1);subst e;exact Qq ⟨rs,_,rfl,J⟩
  show wpS _ _ _ _ (if lo>=a₀.size then _ else _) _ _;refine az c1 ?_
  have xlo:x<=lo:=by
   rcases o with o|o
   ·exact o
   subst o;simp at zz;exact yD zs c1 zz
  refine Ql (pi (lo:=lo) (nrem:=a₀.size-lo) hL J.kind (ha2 J) (by exact yC zs zz c1) (by exact yB zs zz c1) λm st1 g1 m1 m2 up=>?_);dsimp -zeta only
  extract_lets n jp
  refine eY (λz:Nat=>jp () z) (λz st2=>Sg lo st' st2/\1<=z/\lo+z<=a₀.size/\Up κ (arrOf st2) lo z) (λn st2 hz=>?_) (λJJ=>?_)
  ·obtain⟨g2,n1,n2,up2⟩:=hz;have J2:=J.seg (by rw[hlo];exact g2);rw[hlo]at J2;have z2:=(sz J2).2;have up3:=tG up2 (by rw[(sz J2).1];exact n2);generalize hr2:(arrOf st2).toList.drop lo=rest2 at J2 up3 z2;rw[hlo]at z2;refine Ql (wpS_get ?_)
   extract_lets ln jp2
   refine eY (λ_:Unit=>jp2 ()) (λ_ st3=>∃rs3,RI κ kd a₀ st3 rs3 rest2/\rs3.flatten.length=lo) (λ_ st3 hz=>?_) (λJP=>?_)
   ·obtain⟨rs3,J3,l3⟩:=hz;refine Ql (wpS_modify ?_);refine Qq ⟨rs3++[rest2.take n],rest2.drop n,?_,⟨?_,J3.perm,λr hr=>?_,?_,J3.kind,J3.fail⟩,.inl ?_⟩
    ·have:(rs3++[rest2.take n]).flatten.length=lo+n:=by rw[List.flatten_append,Qd,l3];simp;omega
     rw[this]
    ·rw[List.flatten_append];show (arrOf st3).toList=_;rw[J3.arr];simp
    ·rcases Qk.mp hr with e|e
     ·exact J3.ok r e
     have e:r=rest2.take n:=by simpa using e
     subst e;refine⟨λz0=>?_,up3⟩;have:=congrArg List.length z0;rw[QF,List.length_nil]at this;omega
    ·show ((pendingOf st3).push (lo,n,0)).toList.map _=_;rw[Array.toList_push,Qr,J3.pend,fo,Nat.zero_add,l3];show _=_++[(lo,(rest2.take n).length)];rw[QF,show min n rest2.length=n by omega];rfl
    have:(rs3++[rest2.take n]).flatten.length=lo+n:=by rw[List.flatten_append,Qd,l3];simp;omega
    exact yA xlo n1 l3 this
   cases hb:(pendingOf st2).back? with
   | none=>exact JP () st2 ⟨rs,J2,hlo⟩
   | some p =>
   obtain⟨s1,l1,pw1⟩:=p;dsimp -zeta only
   extract_lets pw
   refine Ql (wpS_mono (Xl (I:=λ_ c st3=>c=(none,())/\∃rs3,RI κ kd a₀ st3 rs3 rest2/\rs3.flatten.length=lo) (Q:=λc st3=>c=(none,())/\∃rs3,RI κ kd a₀ st3 rs3 rest2/\rs3.flatten.length=lo) ?_ (λ_ _ z=>z) ⟨rfl,rs,J2,hlo⟩) ?_)
   ·rintro y c st3 _ _ ⟨rfl,rs3,J3,l3⟩;have pl:=lU J3;refine Ql (wpS_get ?_);show wpS _ _ _ _ (match (if (pendingOf st3).size>1 then (pendingOf st3)[(pendingOf st3).size-2]? else none) with|some (_,_,older)=>_|x=>_) _ _;by_cases c2:(pendingOf st3).size>1
    ·rw[Qv c2];obtain⟨q,hq⟩:∃q,(pendingOf st3)[(pendingOf st3).size-2]?=some q:=⟨(pendingOf st3)[(pendingOf st3).size-2],by rw[Array.getElem?_eq_getElem]⟩;rw[hq];obtain⟨q1,q2,older⟩:=q;dsimp -zeta only;by_cases c3:older<=pw
     ·refine aC c3 ?_;exact Qq ⟨rfl,rs3,J3,l3⟩
     refine az c3 ?_;obtain⟨u,X,Y,v,rfl,ul⟩:=qQ (rs:=rs3) (i:=(pendingOf st3).size-2) (by exact yz pl c2);rw[<-ul];refine Ql (gb hL ha J3 λZ st4 lz J4=>?_);refine az Qj ?_;refine Qq ⟨rfl,_,J4,?_⟩;rw[<-l3];simp;exact yy lz
    rw[Qz c2];exact Qq ⟨rfl,rs3,J3,l3⟩
   rintro c st3 ⟨rfl,rs3,J3,l3⟩;refine Ql (wpS_modify ?_);exact JP () _ ⟨rs3,J3.power nG,l3⟩
  have z1:=g1.size;by_cases c2:n<mr
  ·refine aC c2 ?_;refine Ql (wpS_lift (wpAny_rule ⟨rfl,?_⟩));have en:n=m:=rfl;refine Ql (tE (lo:=lo) (n:=min (a₀.size-lo) mr) (ok:=m) hL (g1.kind.trans J.kind) (g1.keys (ha2 J)) (by omega) (by omega) up λst2 g2 up2=>?_);refine az Qj ?_;exact JJ _ st2 ⟨g1.trans g2,by omega,by omega,up2⟩
  refine az c2 ?_;exact JJ m st1 ⟨g1,m1,by omega,up⟩
 case post =>
  rintro c st1 ⟨rs,lo,rfl,J⟩;have zz:=(sz J).2
  have short:∀(rs:List (List Keyed)),(∀r∈rs,r≠[]/\r.Pairwise (le κ))->rs.length<=rs.flatten.length:=λrs=>by
   induction rs with
   | nil=>intro _;simp
   | cons r rs ih =>
   intro hr;have h1:=(hr r (by simp)).1;have h2:=ih λr' h'=>hr r' (by simp[h']);have:r.length≠0:=λe=>h1 (Q2 e);rw[List.flatten_cons,Qd,Xh];exact yx h2 this
  have len0:=short rs J.ok;simp only[List.length_nil,Nat.add_zero]at zz;refine Ql (wpS_mono (Xl (I:=λx c st'=>c=(none,())/\∃rs,RI κ kd a₀ st' rs []/\rs.length+x<=a₀.size+1) (Q:=λc st'=>c=(none,())/\∃rs,RI κ kd a₀ st' rs []/\rs.length<=1) ?_ ?_ ⟨rfl,rs,J,by exact yw zz len0⟩) ?_)
  ·rintro x c st' _ hx ⟨rfl,rs,J,l⟩;have pl:=lU J;refine Ql (wpS_get ?_);show wpS _ _ _ _ (if (pendingOf st').size<=1 then _ else _) _ _;by_cases c2:(pendingOf st').size<=1
   ·refine aC c2 ?_;exact Qq ⟨rfl,rs,J,by exact yu pl c2⟩
   refine az c2 ?_
   extract_lets i bf j
   have hj:j+1<rs.length:=by
    have h1:j=i-1\/j=i:=by
     show (if _ then i-1 else i)=i-1\/(if _ then i-1 else i)=i
     split
     ·exact .inl rfl
     exact .inr rfl
    exact xH h1 c2 pl
   obtain⟨u,X,Y,v,rfl,ul⟩:=qQ hj
   clear_value j
   subst ul;refine Ql (gb hL ha J λZ st4 lz J4=>?_);refine az Qj ?_;refine Qq ⟨rfl,_,J4,?_⟩;simp only[Qd,Xh]at l ⊢;omega
  ·rintro c st' ⟨rfl,rs,J,l⟩;exact⟨rfl,rs,J,by exact yt zz l⟩
  rintro c st' ⟨rfl,rs,J,l⟩;refine Qq (h st' J.perm J.fail ?_);rw[J.arr,Xa]
  match rs,l,J.ok with
  | [],_,_=>exact List.Pairwise.nil
  | [r],_,ok=>simpa using(ok r (by simp)).2
end
end Tm
namespace Tm
open PySem PySem.Spec PyProof.Rows
def leV (κ:PyProof.Rows.KeyKind) (u v:Value):Prop:=le κ (u,u) (v,v)
theorem kU {vs:List Value} {p:Keyed} (h:p∈vs.zip vs):p.1=p.2/\p.1∈vs:=by
 obtain⟨i,hi,e⟩:=QH.mp h;rw[List.getElem_zip]at e;subst e;exact⟨rfl,Xe _⟩
theorem rM {κ:PyProof.Rows.KeyKind} {vs:List Value} {xs:Array Keyed} (hp:xs.Perm (pairsOf vs)) (hs:xs.toList.Pairwise (le κ)):((xs.map (·.2)).toList).Perm vs/\((xs.map (·.2)).toList).Pairwise (leV κ):=by
 have hl:xs.toList.Perm (vs.zip vs):=by rw[<-pairsOf_toList];exact Array.perm_iff_toList_perm.mp hp
 have self:∀p∈xs.toList,p.1=p.2:=λp h=>(kU (hl.mem_iff.mp h)).1
 have e:vs=(vs.zip vs).map (·.2):=by
  rw[List.map_snd_zip];exact Qh _
 refine⟨?_,?_⟩
 ·rw[Array.toList_map]
  conv=>rhs;rw[e]
  exact hl.map _
 rw[Array.toList_map,List.pairwise_map];refine hs.imp_of_mem λ{a b} ha hb h=>?_;have h1:=self a ha;have h2:=self b hb;unfold leV le kv at *;rw[<-h1,<-h2];exact h
section
variable {prog:Program} {w:World} {A:Around} {E:B0} {s:Shared}
structure Can (prog:Program) (w:World) (κ:PyProof.Rows.KeyKind) (kd:SortKind) (h:Heap) (a:Addr) (vs:List Value):Prop where
 key:∀v∈vs,∃x,κ.keyOf v=some x
 lt:∀(A:Around) (s:Shared),(∀b o,b≠a->h.get? b=some o->s.heap.get? b=some o)->gz κ kd prog w A s
 kind:2<=vs.length->∀(A:Around) (E:B0) (s:Shared) (Q:SortKind->Shared->Prop),(∀b o,b≠a->h.get? b=some o->s.heap.get? b=some o)->Q kd s->wpAny (model prog w) A (keyKind' vs.toArray) Q E s
variable {a b d:Addr}
theorem nM {κ:PyProof.Rows.KeyKind} {kd:SortKind} {vs:List Value} {n:Nat} {P:Fin->Shared->Prop} (ho:s.heap.get? a=some (seqObj "list" vs.toArray n)) (c:Can prog w κ kd s.heap a vs) (hn:vs.length<=100000)
  (h:∀out:Array Value,out.toList.Perm vs->out.toList.Pairwise (leV κ)->P (.done (.ret .none)) { s with heap:=sortedHeap s.heap a vs out }):wpAny (model prog w) A (Builtin.«list.sort» ⟨[.ref a],[]⟩) P E s:=by
 rw[list_sort_plain];have ha:a<s.heap.objs.size:=Qo ho;refine Qi (listItems_at ho rfl (Qi (listUpdate_at ho rfl ?_)));obtain⟨e1,ho1⟩:∃e1,(s.heap.update a (Obj.mapSeq λ_=>#[])).get? a=some (seqObj "list" #[] e1):=⟨_,get?_update_seq ho (λ_=>#[])⟩;refine Qi (seqEpoch_at ho1 rfl (Qi (wpAny_newTuple (Qi (wpAny_newList (XA ?_))) (by rw[sizeLine_eq];show vs.length<=_;exact vd hn))))
 have keep:∀b o,b≠a->s.heap.get? b=some o->(((s.heap.update a (Obj.mapSeq λ_=>#[])).push (seqObj "tuple" vs.toArray 0)).push (seqObj "list" #[] 0)).get? b=some o:=λb o hb e =>
  Qf _ (Qf _ ((Qw _ _ (Xz hb)).trans e))
 have ho6:(((s.heap.update a (Obj.mapSeq λ_=>#[])).push (seqObj "tuple" vs.toArray 0)).push (seqObj "list" #[] 0)).get? a=some (seqObj "list" #[] e1):=Qf _ (Qf _ ho1);show wpAny (model prog w) A _ P E { s with heap:=((s.heap.update a (Obj.mapSeq λ_=>#[])).push (seqObj "tuple" vs.toArray 0)).push (seqObj "list" #[] 0) };dsimp only;have zs:vs.toArray.size=vs.length:=by simp
 by_cases c2:vs.toArray.size<2
 ·rw[Qv c2,Qv c2];refine Qi (QJ ?_);rw[StateT.run_pure];refine Qi (QJ (Qi (seqEpoch_at ho6 rfl (Qi (listUpdate_at ho6 rfl ?_ (hsz2:=by rw[Array.size_map];show (pairsOf vs).size<=_;rw[pairsOf_size,sizeLine_eq];exact yr hn zs c2))))));simp only[bne_self_eq_false,Xx,if_false]
  have sh:(pairsOf vs).toList.Pairwise (le κ):=by
   rw[pairsOf_toList]
   match vs,zs,c2 with
   | [],_,_=>exact List.Pairwise.nil
   | [v],_,_=>exact List.pairwise_singleton _ _
   | v::u::r,zs,c2=>exact absurd c2 (by simp)
  obtain⟨p1,p2⟩:=rM (Array.Perm.refl _) sh;exact QJ (h _ p1 p2)
 rw[Qz c2,Qz c2];refine Qi (c.kind (by exact yq hn zs c2) _ _ _ _ keep ?_)
 refine Qi (Xg (qC (κ:=κ) (kd:=kd) (a₀:=pairsOf vs) (st:=SortSt.mk' kd (vs.toArray.zip vs.toArray) #[] 7 none) (Q:=λ_ st'=>(arrOf st').Perm (pairsOf vs)/\failedOf st'=none/\(arrOf st').toList.Pairwise (le κ))
  (c.lt _ _ keep) (λp hp=>?_) ⟨rfl,Array.Perm.refl _,λr hr=>(nomatch hr),rfl,rfl,rfl⟩ λst' a1 a2 a3=>⟨a1,a2,a3⟩) ?_ λ_ _ e=>e)
 ·rw[pairsOf_toList]at hp;exact c.key _ (kU hp).2
 rintro⟨⟨⟩,st'⟩ s' ⟨rfl,hp,hf,hs⟩;dsimp only;refine Qi (seqEpoch_at ho6 rfl (Qi (listUpdate_at ho6 rfl ?_ (hsz2:=by refine QQ (Nat.le_of_eq ((Array.size_map ..).trans (hp.size_eq.trans (pairsOf_size _)))) ?_;rw[sizeLine_eq];exact yp hn zs c2))));rw[hf];simp only[bne_self_eq_false,Xx,if_false];obtain⟨p1,p2⟩:=rM hp hs;exact QJ (h _ p1 p2)
theorem gU {h:Heap} {vs:List Value} {out:Array Value} {o:Obj} (hb:b≠a) (e:h.get? b=some o):(sortedHeap h a vs out).get? b=some o:=by
 unfold sortedHeap;exact(Qw _ _ (Xz hb)).trans (Qf _ (Qf _ ((Qw _ _ (Xz hb)).trans e)))
theorem iO {h:Heap} {vs:List Value} {out:Array Value} {n:Nat} (e:h.get? a=some (seqObj "list" vs.toArray n)):∃m,(sortedHeap h a vs out).get? a=some (seqObj "list" out m):=by
 unfold sortedHeap;exact⟨_,get?_update_seq (Qf _ (Qf _ (get?_update_seq e (λ_=>#[])))) (λ_=>out)⟩
theorem je {κ:Heap->PyProof.Rows.KeyKind} {kd:SortKind} {r:Value} {Q:B0} {G:Heap->List Value->Prop}
  (col:∀(A:Around) (E:B0) (R:List Value->Shared->Prop),A.handled=none->(∀h' tk vs,(∀b o,s.heap.get? b=some o->h'.get? b=some o)->s.heap.objs.size<=h'.objs.size->G h' vs->R vs { s with heap:=h',toks:=tk })->wpAny (model prog w) A (collect r) R E s)
  (hh:A.handled=none) (can:∀h' vs D,(∀b o,s.heap.get? b=some o->h'.get? b=some o)->G h' vs->D=h'.objs.size->vs.length<=100000/\Can prog w (κ h') kd (h'.push (seqObj "list" vs.toArray 0)) D vs)
  (h:∀D h' tk vs h1 (out:Array Value) m,(∀b o,s.heap.get? b=some o->h1.get? b=some o)->G h1 vs->(∀b o,h1.get? b=some o->h'.get? b=some o)->s.heap.objs.size<=D->h1.objs.size<=D->h'.get? D=some (seqObj "list" out m)->out.toList.Perm vs->out.toList.Pairwise (leV (κ h1))->Q (.ref D) { s with heap:=h',toks:=tk }) :
  wpAny (model prog w) A (call (.builtin "sorted") [r]) Q E s:=by
 refine Calls.call_function_entry kind_sorted plain_sorted entry_sorted (args_sorted1 _) ?_;unfold Builtin.«sorted»;refine Qi (m:=checkCount "sorted" 1 1 _) (QJ ?_);refine Qi (col A.in1 E _ hh λh1 tk vs k1 z1 g1=>?_);obtain⟨len,_⟩:=can h1 vs h1.objs.size k1 g1 rfl;refine Qi (wpAny_newList ?_ (by rw[sizeLine_eq];exact vd len));obtain⟨_,cn⟩:=can h1 vs h1.objs.size k1 g1 rfl;have hoL:(h1.push (seqObj "list" vs.toArray 0)).get? h1.objs.size=some (seqObj "list" vs.toArray 0):=QS _ rfl;refine Qi (XA (wpAny_call_entry (s:={ s with heap:=h1.push (seqObj "list" vs.toArray 0),toks:=tk }) slot_list_sort ⟨_,hoL,rfl⟩ entry_list_sort (nM hoL cn len λout p1 p2=>⟨_,rfl,?_⟩) (args_list_sort _)));obtain⟨m,at'⟩:=iO (vs:=vs) (out:=out) hoL;exact QJ ⟨_,rfl,h _ _ _ vs h1 out m k1 g1 (λb o e=>gU (QI (Qo e)) (Qf _ e)) z1 (Qh _) at' p1 p2⟩
theorem sZ {T:String} {r:Addr} {n:Nat} {P:Nat->Value->Prop} {OK:Heap->Prop} {R:List Value->Shared->Prop} (K:PySem.W.KdlSrc prog w T r d n P OK) (hh:A.handled=none) (ok:OK s.heap) (hn:n<=sizeLine)
  (h:∀(g:Heap) (tk:Nat) (acc:Array Value),(∀b o,s.heap.get? b=some o->g.get? b=some o)->s.heap.objs.size<=g.objs.size->PySem.ItemsOf P acc n->R acc.toList { s with heap:=g,toks:=tk }):wpAny (model prog w) A (collect (.ref r)) R E s:=by
 obtain⟨l1,l2⟩:=K.there _ ok;unfold collect;refine Qi (wpAny_runValue (codeAny_builtin entry_proto_collect' ?_));rw[Around.under_plainId PySem.F.plain_proto_collect _];refine Qi (wpAny_newObj_type (QJ ⟨plainId_quiet PySem.F.plain_list_iadd _,codeAny_builtin entry_list_iadd' ?_⟩));rw[Around.under_plainId PySem.F.plain_list_iadd _]
 refine Xg (PySem.W.kdl_extend (A:=A) (s:={ s with heap:=s.heap.push { cls:=.type "list", data:=.seq ([]:List Value).toArray } }) (R:=λq s'=>∃(g:Heap) (tk:Nat) (acc:Array Value) (c:Nat),q=.ok (.ret (.ref s.heap.objs.size))/\s'={ s with heap:=g,toks:=tk } /\
   (∀b o,s.heap.get? b=some o->g.get? b=some o)/\g.get? s.heap.objs.size=some { cls:=.type "list", dict:=none,data:=.seq acc c,slots:=#[] }/\PySem.ItemsOf P acc n)
  K hh (K.keep _ _ ok λb _ o e=>Qf _ e) s.heap.objs.size (Nat.ne_of_gt l1) (Nat.ne_of_gt l2) (.ref s.heap.objs.size) 0 (QS _ rfl)
  (λg tk acc c k at' it=>⟨g,tk,acc,c,rfl,rfl,λb o e=>k b o (QI (Qo e)) (Qf _ e),at',it⟩) hn) (λfn s' x=>?_) λe s' x=>?_
 ·cases fn with
  | done f =>
   obtain⟨g,tk,acc,c,e,rfl,k,at',it⟩:=x;cases e;exact Qi (wpAny_load at' (QJ (h g tk acc k (Nat.le_of_lt (Qo at')) it)))
  | again c1 =>
   refine⟨x.1,codeAny_mono x.2 λq s2 y=>?_⟩;obtain⟨g,tk,acc,c,rfl,rfl,k,at',it⟩:=y;exact Qi (wpAny_load at' (QJ (h g tk acc k (Nat.le_of_lt (Qo at')) it)))
 obtain⟨_,_,_,_,z,_⟩:=x;cases z
end
end Tm
set_option maxHeartbeats 4000000
namespace L2
open PySem PySem.Spec PyProof.Rows
section
variable {X:Cx} {elts:List Expr} {k:Nat} {tpos:Pos}
end
section
variable {X:Cx}
end
end L2
namespace LY
open PySem LZ
section
variable {prog:Program} {w:World} {A:Around} {E:B0} {s:Shared}
end
structure ApartM (z TI TO i1 i2 l m d:Addr):Prop extends ApartD z TI TO i1 i2 l d where
 mz:m≠z
 mTO:m≠TO
 mi1:m≠i1
 mi2:m≠i2
 dm:d≠m
structure ZS (h:Heap) (z TI TO i1 i2 l d:Addr) (m:Addr) (xs ys:Array Value) (k:Nat):Prop where
 zf:(IsZ h z TI TO .none false/\∃a b,IsPair h TO a b)\/∃(T:Addr) (f1:Bool) (oT:Obj),IsZ h z TI TO (rawInt (T:Nat)) f1/\h.get? T=some oT/\T≠z/\T≠i1/\T≠i2/\T≠d
 ti:IsPair h TI (.ref i1) (.ref i2)
 a1:h.IsListIter i1 l k
 a2:h.IsListIter i2 m k
 li:h.IsList l xs
 mi:h.IsList m ys
section
variable {prog:Program} {w:World} {K:Type} [DecidableEq K] {knd:KeyKind prog w K} {A:Around} {R:Result->Shared->Prop}
end
end LY
namespace L2
open PySem PySem.Spec PyProof.Rows
section
variable {X:Cx} {elts:List Expr} {k:Nat} {tpos:Pos}
end
section
variable {X:Cx}
def oa (ta:TA):TE:=λU H Q=>ta U H λvs H1=>∃(lo:Int) (n:Nat),vs=[.int lo,.int (lo+n)]/\-1000<=lo/\lo<=1000/\n<=1000/\∀l,H1 l=none->Q (.ref l) (upd H1 l (.lst ((List.range n).map λ(i:Nat)=>V.int (lo+(i:Int)))))
theorem pJ {a b:Expr} {ta:TA} {p1 p2 pos1 pos2:Pos} (hc:X.calm=true) (hg:Gl X "list") (hm:X.mg "list" = none) (hg2:Gl X "range") (hm2:X.mg "range" = none) (ha:PA X [a,b] ta)
  (hs:starEach [a,b] X.env=[(false,eval a X.env),(false,eval b X.env)]:=by rfl) (hs2:starEach [b] X.env=[(false,eval b X.env)]:=by rfl)
  (hs0:starEach [.Call (.Name "range" p2) [a,b] [] pos2] X.env=[(false,eval (.Call (.Name "range" p2) [a,b] [] pos2) X.env)]:=by rfl) :
  PE X (.Call (.Name "list" p1) [.Call (.Name "range" p2) [a,b] [] pos2] [] pos1) (oa ta):=by
 intro pins s U H Q I h;refine Call_ (dy I hg hm PyProof.Rows.boot_list (Xf ?_ hs0 rfl));rw[hs0];show wpAny _ _ (spliced [(false,eval (.Call (.Name "range" p2) [a,b] [] pos2) X.env)]) _ _ s;refine Calls.spliced_cons ?_;refine Call_ (dy I hg2 hm2 boot_range (Xf (thn (ha pos2 pins s U H _ I h) λws s1 ⟨vs,H1,I1,r1,q1⟩=>?_) (by rw[hs,hs2]) (by rw[hs2];rfl)));obtain⟨lo,n,e,l1,l2,hn,q⟩:=q1;subst e;obtain⟨u1,u2,e,⟨t,ru1⟩,⟨t',ru2⟩⟩:=i7 r1;subst e ru1 ru2;refine call_range_2 ?_;refine Calls.spliced_nil ?_;have I2:Inv X pins U H1 { s1 with heap:=s1.heap.push { cls:=.type "range", data:=.fields #[.int lo t,.int (lo+n) t',.int 1 s1.toks] },toks:=s1.toks+1 }:=I1.kept λb o e=>Qf _ e;have hr:IsRange (s1.heap.push { cls:=.type "range", data:=.fields #[.int lo t,.int (lo+n) t',.int 1 s1.toks] }) s1.heap.objs.size lo (lo+n) 1 t t' s1.toks:=IsRange.new ..;refine call_list_range (n:=n) (I2.ok.hd hc) hr (small_one (by omega) (by omega) (by omega) (by omega)) (by rw[rangeSize_one];split <;> omega) (by omega) λh' tk acc' c' hk hS' hacc=>?_
 have r:aG ((List.range n).map λ(i:Nat)=>V.int (lo+(i:Int))) acc'.toList:=by
  refine paired_get (by rw[Qa,Xj,QC,hacc.1]) λj x y e1 e2=>?_;obtain⟨t2,e3⟩:=hacc.2 j y (by simpa using e2);rw[Qe]at e1
  cases e4:(List.range n)[j]? with
  | none=>rw[e4]at e1;cases e1
  | some j' =>
  rw[e4]at e1;cases e1
  have:j'=j:=by
   have:=Qc.mp e4;obtain⟨h1,h2⟩:=this;rw[List.getElem_range]at h2;exact h2.symm
  subst this;exact⟨t2,by rw[e3];simp⟩
 have big:1000<sizeLine:=by decide
 exact⟨.ref _,_,I2.laid (t':=tk) hk (Qh _) (show aX X.prog X.w _ h' _ (.lst _) from⟨by rw[Qa,Xj];omega,acc'.toList,c',r,by simpa using hS'⟩),rfl,q _ (I2.hok.fresh (Qh _))⟩
theorem oU:∀{xs:List Int} {its:List Value},aG (xs.map V.int) its->IntsAre its xs
 | [],_,h=>by cases h;exact .nil
 | x::xs,_,h=>by
  cases h with
  | cons a r=>obtain⟨t,rfl⟩:=a;exact .cons _ _ (oU r)
end
end L2
namespace Tm
open PySem PyProof.Rows
@[reducible] def nO:PyProof.Rows.KeyKind where
 α:=Int
 blt a b:=decide (a<b)
 irrefl a:=by simp
 trans a b c h1 h2:=by simp only[decide_eq_true_eq] at *;exact Int.lt_trans h1 h2
 negTrans a b c h:=by
  simp only[decide_eq_true_eq] at *;by_cases hab:a<b
  ·exact .inl hab
  exact .inr (Int.lt_of_le_of_lt (Int.not_lt.mp hab) h)
 total a b h1 h2:=by simp only[decide_eq_false_iff_not] at *;exact Int.le_antisymm (Int.not_lt.mp h2) (Int.not_lt.mp h1)
 keyOf v:=match v with|.int x _=>some x|_=>none
 dflt:=0
theorem iy:∀{vs:List Value} {ns:List Int},IntsAre vs ns->∀v∈vs,∃x t,v=.int x t
 | _,_,.nil,v,h=>nomatch h
 | _,_,.cons n t r,v,h=>by
  rcases Qu.mp h with e|h
  ·exact⟨n,t,e⟩
  exact iy r v h
section
variable {prog:Program} {w:World}
theorem mL {h:Heap} {a:Addr} {vs:List Value} {ss:List Int} (hS:IntsAre vs ss):Can prog w nO oneType' h a vs where
 key v hv:=by
  obtain⟨x,t,e⟩:=iy hS v hv;exact⟨x,by rw[e]⟩
 lt A s _:=λE x y a b Q ha hb hq=>by
  rw[keyLt'_oneType];cases x <;> simp only[nO,reduceCtorEq,Option.some.injEq]at ha;cases y <;> simp only[nO,reduceCtorEq,Option.some.injEq]at hb;cases ha;cases hb;exact oneLt_int hq
 kind h2 A E s Q _ hq:=by
  match vs,hS,h2 with
  | v₁::v₂::rest,hS,_=>rw[keyKind_ints hS];exact QJ hq
end
end Tm
namespace L2
open PySem PySem.Spec PyProof.Rows
theorem pE {xs ys:List Int} (hx:xs.Pairwise (·<=·)) (hy:ys.Pairwise (·<=·)) (p:xs.Perm ys):xs=ys:=List.Perm.eq_of_pairwise (λa b _ _ h1 h2=>Int.le_antisymm h1 h2) hx hy p
theorem iw:∀{vs:List Value} {ns:List Int},IntsAre vs ns->vs.length=ns.length
 | _,_,.nil=>rfl
 | _,_,.cons _ _ r=>congrArg (·+1) (iw r)
def sE:Value->Int
 | .int a _=>a
 | _=>0
theorem ma:∀(vs:List Value),(∀v∈vs,∃x t,v=.int x t)->IntsAre vs (vs.map sE)
 | [],_=>.nil
 | v::vs,h=>by
  obtain⟨x,t,rfl⟩:=h v (by simp);exact .cons x t (ma vs λu hu=>h u (Qs _ hu))
theorem me:∀{vs:List Value} {ns:List Int},IntsAre vs ns->vs.map sE=ns
 | _,_,.nil=>rfl
 | _,_,.cons n t r=>by rw[QL,me r];rfl
theorem pD {ts:List Int} {out:List Value}:∀{us:List Value},IntsAre us ts->out.Perm us->out.Pairwise (Tm.leV Tm.nO)->∃ss,IntsAre out ss/\ss.Perm ts/\ss.Pairwise (·<=·):=λ{us} h p s=>by
 have all:∀v∈out,∃x t,v=.int x t:=λv hv=>Tm.iy h v (p.mem_iff.mp hv);refine⟨out.map sE,ma out all,by rw[<-me h];exact p.map _,?_⟩;rw[List.pairwise_map];refine s.imp_of_mem λ{a b} ha hb q=>?_;obtain⟨x,t,rfl⟩:=all a ha;obtain⟨y,u,rfl⟩:=all b hb;have q:decide (y<x)=false:=q;show x<=y;simpa using q
theorem jw:∀{ys:List Int} {us:List Value},IntsAre us ys->aG (ys.map V.int) us
 | _,_,.nil=>.nil
 | _,_,.cons x t h=>.cons ⟨t,rfl⟩ (jw h)
theorem oV:∀{as:List Value} {ss:List Int},as.length=ss.length->(∀(j:Nat) v,as[j]?=some v->∃x t,ss[j]?=some x/\v=.int x t)->IntsAre as ss
 | [],[],_,_=>.nil
 | [],_::_,h,_=>by simp at h
 | _::_,[],h,_=>by simp at h
 | a::as,x::ss,h,f=>by
  obtain⟨y,t,e1,e2⟩:=f 0 a rfl;cases e1;subst e2;exact .cons x t (oV (by simpa using h) λj v e=>by obtain⟨y,t,e1,e2⟩:=f (j+1) v (by simpa using e);exact⟨y,t,by simpa using e1,e2⟩)
section
variable {X:Cx}
def BE (K:PySem.W.Frag) (H:Hp) (l:Addr) (ss:List Int):Prop:=SqL K H l (ss.map V.int)\/∃kvs,Rd H l (.dK kvs)/\kvs.map (·.1)=ss.map Sum.inl
def qZ (K:PySem.W.Frag):List V->Hp->VK->Prop:=λxs H Q=>∃(l:Addr) (ss:List Int),xs=[.ref l]/\BE K H l ss/\ss.length<=100000/\∀(p:Addr) (ss':List Int),H p=none->ss'.Perm ss->ss'.Pairwise (·<=·)->Q (.ref p) (upd H p (.lst (ss'.map V.int)))
theorem iL (hc:X.calm=true):cO X (.builtin "sorted") (qZ X.K):=by
 intro pins s U H xs us Q I r h;obtain⟨l,ss,rfl,src,hz,q⟩:=h;obtain⟨u,rfl,ru⟩:=dE r;cases ru
 have fin:∀(D:Addr) (h':Heap) (tk:Nat) (vs:List Value) (h1:Heap) (out:Array Value) (m:Nat),(∀b o,s.heap.get? b=some o->h1.get? b=some o)->IntsAre vs ss->(∀b o,h1.get? b=some o->h'.get? b=some o)->s.heap.objs.size<=D->h1.objs.size<=D->h'.get? D=some (seqObj "list" out m)->out.toList.Perm vs->out.toList.Pairwise (Tm.leV Tm.nO)->EP X pins U Q (.ref D) { s with heap:=h',toks:=tk }:=λD h' tk vs h1 out m k1 g1 k2 hle hD at' p1 p2=>by
  obtain⟨ss',so,pm,st⟩:=pD g1 p1 p2;have lo:ss'.length=ss.length:=pm.length_eq;exact⟨.ref D,_,I.laid (o:=.lst (ss'.map V.int)) (t':=tk) (λb o g=>k2 b o (k1 b o g)) hle ⟨by rw[Qa,sizeLine_eq];exact wz hz lo,out.toList,m,jw so,at'⟩,rfl,q _ ss' (I.hok.fresh hle) pm st⟩
 rcases src with hl|⟨kvs,rd,ek⟩
 ·obtain⟨its,rv,pl,_⟩:=I.list hl;have sa:=oU rv;have hlen:its.length=ss.length:=by rw[<-rv.length,Qa]
  refine Tm.je (s:=s) (κ:=λ_=>Tm.nO) (kd:=oneType') (G:=λ_ vs=>IntsAre vs ss) (λA E R _ hR=>collect_list pl.isList (hR _ _ its (λb o e=>?_) (by rw[Heap.size_update,size_push'];exact Nat.le_succ _) sa) (by rw[sizeLine_eq];exact wz hz hlen)) (I.ok.hd hc) (λh' vs D k g _=>⟨by rw[iw g];exact hz,Tm.mL g⟩) fin;exact(Qw _ _ (Nat.ne_of_gt (Qo e))).trans (Qf _ e)
 obtain⟨z,hm,vs,rel,dd⟩:=gm I.hok rd;obtain⟨ep,da⟩:=dd.dictAt
 have kl:vs.length=ss.length:=by
  have:=congrArg List.length ek;rw[Qa,Qa]at this;rw[<-this];exact(KV.len rel).symm
 refine Tm.je (s:=s) (κ:=λ_=>Tm.nO) (kd:=oneType') (G:=λ_ vs=>IntsAre vs ss) (λA E R hA hR=>Tm.sZ (PySem.W.kdl_dict (knd:=aZ X.prog X.w) (kvs:=vs) (ep:=ep) hm) hA da (by rw[sizeLine_eq];exact wz hz kl) λh' tk acc k z it=>hR h' tk acc.toList k z ?_) (I.ok.hd hc) (λh' vs D k g _=>⟨by rw[iw g];exact hz,Tm.mL g⟩) fin;have al:acc.toList.length=ss.length:=by rw[QC,it.1,kl]
 have at_:∀(j:Nat) v,acc.toList[j]?=some v->∃x t,ss[j]?=some x/\v=.int x t:=λj v e=>by
  obtain⟨k,x,e1,e2⟩:=it.2 j v (by rw[<-Qx];exact e)
  obtain⟨y,e3⟩:∃y,kvs[j]?=some (k,y):=by
   have hj:j<kvs.length:=by rw[KV.len rel];exact(Qc.mp e1).1
   obtain⟨u,hu,_⟩:=KV.get (i:=j) (k:=kvs[j].1) (v:=kvs[j].2) rel (by rw[Qb hj]);rw[e1]at hu;cases hu;exact⟨kvs[j].2,by rw[Qb hj]⟩
  have e4:=congrArg (·[j]?) ek;simp only[Qe,e3]at e4
  cases e5:ss[j]? with
  | none=>rw[e5]at e4;cases e4
  | some y' =>
  rw[e5]at e4;have e6:k=Sum.inl y':=QY e4;subst e6;obtain⟨t,e7⟩:=vB e2;exact⟨y',t,rfl,e7⟩
 exact oV al at_
end
end L2
namespace XE
open PySem
open Sem (wp)
structure XN (fs:B3) (e T:Addr) (oe:Obj) (h h':Heap):Prop where
 keep:∀b o,b≠e->b∉fs->h.get? b=some o->h'.get? b=some o
 slot:∀b o,b≠e->h.get? b=some o->∃sl,h'.get? b=some { o with slots:=sl }
 at_:h'.get? e=some (oe.mapFields (·.setIfInBounds 1 (.ref T)))
 new:h.get? T=none
abbrev tbO (head:Value) (L:Addr) (pc:List Value):Obj:={ cls:=.type "traceback", dict:=none,data:=.fields ([head,.ref L,.none,rawInt L,.none]++(if pc.isEmpty then List.replicate 6 Value.none else pc)).toArray }
section
variable {M:Model} {A:Around} {E:B0} {s:Shared}
variable {Q:Unit->Shared->Prop} {vs ts:Array Value} {oe oT o:Obj} {L e T:Addr} {outer:List Env} {env:Env}
theorem qz {base:Heap} {head:Value} {hadNext:Bool}
  (fr:A.frames=some (env::outer)) (ff:s.heap.FunFrames base (env::outer)) (fL:env.frame=some L)
  (ee:s.heap.get? e=some oe) (ed:oe.data=.fields vs) (sz:1<vs.size)
  (h:∀h' T oT ts,XN ((env::outer).filterMap (·.frame)) e T oe s.heap h'->h'.get? T=some oT->oT.data=.fields ts->ts[3]?=some (rawInt L)->T≠e->Q () { s with heap:=h' }) :
  wpAny M A (do let a <-frameOf env;let pc <-entryPlaceOf L hadNext;let b <-EntryCells.newEntry head a .none (rawInt L) .none pc;setField (.ref e) 1 b) Q E s:=by
 have nef:e∉(env::outer).filterMap (·.frame):=λmm=>by
  obtain⟨_,o,eo,nf⟩:=ff.mem mm;rw[ee]at eo;injection eo with eo;subst eo;exact nf vs ed
 refine Qi (wpAny_frameOf_fun fr ff fL λg1 so=>?_);refine Qi (wpAny_entryPlaceOf λpc pk=>?_);unfold EntryCells.newEntry newFields;refine Qi (wpAny_newObj_type ?_ (pk.sizeOk5 _ _ _ _ _));have x1:g1.get? e=some oe:=(so.2.1 e nef).trans ee;have x2:=Qf (h:=g1) (tbO head L pc) x1;refine wpAny_setField x2 ed sz ?_;have nTe:g1.objs.size≠e:=Nat.ne_of_gt (Qo x1);have x3:=Xm ed (·.setIfInBounds 1 (Value.ref g1.objs.size));have x4:=Xu (Obj.mapFields (·.setIfInBounds 1 (Value.ref g1.objs.size))) x2 (Obj.isFreed_of_fields x3)
 have x5:=(Qw (g1.push (tbO head L pc))
  (Obj.mapFields (·.setIfInBounds 1 (Value.ref g1.objs.size))) (Xz nTe)).trans (QS g1 rfl)
 have keep:∀b o,b≠e->g1.get? b=some o ->
   ((g1.push (tbO head L pc)).update e (Obj.mapFields (·.setIfInBounds 1 (Value.ref g1.objs.size)))).get? b=some o :=
  λb o nbe eb=>by
   rw[Qw _ _ (Xz nbe)];exact Qf _ eb
 refine h _ g1.objs.size _ _ ⟨λb o nbe nbf eb=>keep b o nbe ((so.2.1 b nbf).trans eb),λb o nbe eb=>?_,x4,?_⟩ x5 rfl ?_ nTe
 ·obtain⟨sl,ez⟩:=so.2.2 b o eb;exact⟨sl,keep b _ nbe ez⟩
 ·exact Heap.get?_none_of_le (by first|exact Nat.le_of_eq so.1.symm|exact Nat.le_of_eq so.1|(rw[so.1];exact Qh _))
 first|(simp;done)|(rcases pk with rfl|⟨_,_,_,_,_,_,_,rfl⟩ <;> simp)
theorem jJ {f:Option Addr} (ee:s.heap.get? e=some oe) (ed:oe.data=.fields vs) (v1:vs[1]?=some (.ref T))
  (eT:s.heap.get? T=some oT) (dT:oT.data=.fields ts) (v3:3<ts.size)
  (h:Q () { s with heap:=s.heap.update T (Obj.mapFields (·.setIfInBounds 3 (f.elim Value.none λf=>rawInt f))) }):wpAny M A (setFlight (.ref e) f) Q E s:=by
 unfold setFlight;refine Qi (wpAny_field ee ed v1 ?_);rw[Qv (show (Value.ref T != Value.none)=true from by simp)];exact wpAny_setField eT dT v3 h
structure Tr (e T:Addr) (h:Heap):Prop where
 ex:∃oe vs oT ts,h.get? e=some oe/\oe.data=.fields vs/\vs[1]?=some (.ref T)/\h.get? T=some oT/\oT.data=.fields ts/\ts[3]?=some .none
 ne:T≠e
structure XL (fs:B3) (e:Addr) (Ts:B3) (h h':Heap):Prop where
 keep:∀b o,b≠e->b∉Ts->b∉fs->h.get? b=some o->h'.get? b=some o
 slot:∀b o,b≠e->b∉Ts->h.get? b=some o->∃sl,h'.get? b=some { o with slots:=sl }
 at_:∀oe,h.get? e=some oe->∃oe',h'.get? e=some oe'/\oe'.cls=oe.cls/\oe'.dict=oe.dict
theorem eg {f:Array Value->Array Value}:(o.mapFields f).cls=o.cls/\(o.mapFields f).dict=o.dict:=by
 obtain⟨c,d,dt,sl⟩:=o;cases dt <;> exact⟨rfl,rfl⟩
theorem vO {base:Heap}
  (fr:A.frames=some (env::outer)) (ff:s.heap.FunFrames base (env::outer)) (fL:env.frame=some L)
  (ee:s.heap.get? e=some oe) (ed:oe.data=.fields vs) (v1:vs[1]?=some .none)
  (h:∀h' T,XL ((env::outer).filterMap (·.frame)) e [] s.heap h'->Tr e T h'->s.heap.get? T=none->Q () { s with heap:=h' }):wpAny M A (leaving env (.ref e)) Q E s:=by
 unfold leaving noteFrame;simp only[fL];refine Qi (Qi (wpAny_field ee ed v1 ?_));rw[Qz (by decide)];have sz:=(QB.mp v1).1;refine qz fr ff fL ee ed sz λh' T oT ts x eT dT v3 hne=>?_;have x3:=Xm ed (·.setIfInBounds 1 (Value.ref T));have v3':=(QB.mp v3).1;refine jJ (s:={ s with heap:=h' }) x.at_ x3 (by simp[sz]) eT dT v3' ?_;have ne:∀b o,s.heap.get? b=some o->T≠b:=λb o q z=>by rw[<-z,x.new]at q;cases q
 refine h _ T ⟨λb o eb _ fL q=>?_,λb o eb _ q=>?_,λoe' q=>?_⟩ ⟨⟨_,_,_,_,?_,x3,by simp[sz],Xu _ eT (Obj.isFreed_of_fields (Xm dT _)),Xm dT _,by simp[v3']⟩,hne⟩ x.new
 ·exact(Qw _ _ (ne b o q)).trans (x.keep b o eb fL q)
 ·obtain⟨sl,z⟩:=x.slot b o eb q;exact⟨sl,(Qw _ _ (ne b o q)).trans z⟩
 ·rw[ee]at q;cases q;exact⟨_,(Qw _ _ hne).trans x.at_,eg.1,eg.2⟩
 exact(Qw _ _ hne).trans x.at_
theorem uK {base:Heap}
  (fr:A.frames=some (env::outer)) (ff:s.heap.FunFrames base (env::outer)) (fL:env.frame=some L) (t:Tr e T s.heap)
  (h:∀h' T',XL ((env::outer).filterMap (·.frame)) e [T] s.heap h'->Tr e T' h'->s.heap.get? T'=none->Q () { s with heap:=h' }) :
  wpAny M A (noteFrame (.ref e) env) (λ_ s₂=>wpAny M A (setFlight (.ref e) none) Q E s₂) E s:=by
 obtain⟨⟨oe,vs,oT,ts,ee,ed,v1,eT,dT,v3⟩,nTe⟩:=t;unfold noteFrame;simp only[fL];refine Qi (wpAny_field ee ed v1 ?_);rw[Qv (show (Value.ref T != Value.none)=true from by simp)];refine Qi (wpAny_field eT dT v3 ?_);rw[Qz (show ¬((Value.none==rawInt L)=true) from by simp[rawInt])];refine Qi (wpAny_setField eT dT (QB.mp v3).1 ?_);have sz:=(QB.mp v1).1;have els:∀b,b≠T->(s.heap.update T (Obj.mapFields (·.setIfInBounds 3 Value.none))).get? b=s.heap.get? b:=λb eb=>Qw _ _ (Xz eb)
 have norec:∀b o,s.heap.get? b=some o->(∀vs,o.data≠.fields vs)->b≠T:=λb o eb nf q=>by
  rw[q,eT]at eb;injection eb with eb;subst eb;exact nf ts dT
 refine qz (ff:=ff.of_keeps λb o eb nf=>⟨o,(els b (norec b o eb nf)).trans eb,rfl⟩) fr (fL:=fL) (ee:=(els e (Xz nTe)).trans ee) ed sz λh' T' oT' ts' x eT' dT' v3' hne=>?_;have x3:=Xm ed (·.setIfInBounds 1 (Value.ref T'));have v3'':=(QB.mp v3').1
 have nT:T≠T':=λz=>by
  have q:=x.new;rw[<-z,Xu _ eT (Obj.isFreed_of_fields (Xm dT _))]at q;cases q
 have new:s.heap.get? T'=none:=by
  have q:=x.new
  change (s.heap.update T (Obj.mapFields (·.setIfInBounds 3 Value.none))).get? T'=none at q
  rwa [els T' (Xz nT)]at q
 refine jJ (s:={ s with heap:=h' }) x.at_ x3 (by simp[sz]) eT' dT' v3'' ?_;have ne:∀b o,s.heap.get? b=some o->T'≠b:=λb o q z=>by rw[<-z,new]at q;cases q
 refine h _ T' ⟨λb o eb ht fL q=>?_,λb o eb ht q=>?_,λoe' q=>?_⟩ ⟨⟨_,_,_,_,?_,x3,by simp[sz],Xu _ eT' (Obj.isFreed_of_fields (Xm dT' _)),Xm dT' _,by simp[v3'']⟩,hne⟩ new
 ·exact(Qw _ _ (ne b o q)).trans (x.keep b o eb fL ((els b (λz=>ht (by simp[z]))).trans q))
 ·obtain⟨sl,z⟩:=x.slot b o eb ((els b (λz=>ht (by simp[z]))).trans q);exact⟨sl,(Qw _ _ (ne b o q)).trans z⟩
 ·rw[ee]at q;cases q;exact⟨_,(Qw _ _ hne).trans x.at_,eg.1,eg.2⟩
 exact(Qw _ _ hne).trans x.at_
theorem ph {base:Heap}
  (fr:A.frames=some (env::outer)) (ff:s.heap.FunFrames base (env::outer)) (fL:env.frame=some L) (t:Tr e T s.heap)
  (h:∀h' T',XL ((env::outer).filterMap (·.frame)) e [T] s.heap h'->Tr e T' h'->s.heap.get? T'=none->Q () { s with heap:=h' }):wpAny M A (leaving env (.ref e)) Q E s:=by
 unfold leaving;exact Qi (uK fr ff fL t h)
theorem vQ {fs:B3} (t:Tr e T s.heap) (h:∀h',XL fs e [T] s.heap h'->Tr e T h'->Q () { s with heap:=h' }):wpAny M A (setFlight (.ref e) none) Q E s:=by
 obtain⟨⟨oe,vs,oT,ts,ee,ed,v1,eT,dT,v3⟩,nTe⟩:=t;have v3':=(QB.mp v3).1;have els:∀b,b≠T->(s.heap.update T (Obj.mapFields (·.setIfInBounds 3 ((none:Option Addr).elim Value.none λf=>rawInt f)))).get? b=s.heap.get? b:=λb eb=>Qw _ _ (Xz eb);refine jJ ee ed v1 eT dT v3' (h _ ⟨λb o _ ht _ q=>(els b (λz=>ht (by simp[z]))).trans q,λb o _ ht q=>⟨o.slots,(els b (λz=>ht (by simp[z]))).trans q⟩,λoe' q=>⟨oe',(els e (Xz nTe)).trans q,rfl,rfl⟩⟩ ⟨⟨oe,vs,_,_,(els e (Xz nTe)).trans ee,ed,v1,Xu _ eT (Obj.isFreed_of_fields (Xm dT _)),Xm dT _,by simp[v3']⟩,nTe⟩)
end
end XE
namespace XE
open PySem
abbrev Lk {α:Type} (M:Model) (g:Heap) (t:Sem α) (r:α):Prop:=∀(A:Around) (Q:α->Shared->Prop) (E:B0) (s:Shared),(∀b o,g.get? b=some o->s.heap.get? b=some o)->Q r s->wpAny M A t Q E s
abbrev nE (us:List Value):Obj:={ cls:=.type "tuple", data:=.seq us.toArray }
abbrev h_ (C p:Addr):Obj:={ cls:=.ref C,data:=.fields #[.ref p,.none,.none,.none,.bool false,.none] }
structure XC (g:Heap) (C:Addr) (B new:String) (up top:List Value):Prop where
 obj:∃nm q N bs hd sn sub ab col dd a0 a1 a2 a3 a5,g.get? C=some (excClassObj nm q C N bs up hd sn sub ab col dd a0 a1 a2 a3 a5 new)
 tail:OwnTail g top up
theorem XC.keeps {g g':Heap} {C:Addr} {B new:String} {up top:List Value} (x:XC g C B new up top) (k:∀b o,g.get? b=some o->g'.get? b=some o):XC g' C B new up top:=by
 obtain⟨a1,a2,a3,a4,a5,a6,a7,a8,a9,a10,a11,a12,a13,a14,a15,e⟩:=x.obj;exact⟨⟨a1,a2,a3,a4,a5,a6,a7,a8,a9,a10,a11,a12,a13,a14,a15,k _ _ e⟩,x.tail.keeps k⟩
section
variable {P:Program} {w:World} {A:Around} {E:B0} {g:Heap} {gs:Array GenState} {dr:Drawn} {tk:Nat} {os:OsState} {C:Addr} {B new init:String} {up top:List Value}
abbrev pY (g:Heap) (C:Addr) (us:List Value):Heap:=(g.push (nE us)).push (h_ C g.objs.size)
theorem fA {b:Addr} {o:Obj} {us:List Value} (e:g.get? b=some o):(pY g C us).get? b=some o:=Qf _ (Qf _ e)
theorem sk {us:List Value}:(pY g C us).get? (g.objs.size+1)=some (h_ C g.objs.size):=by
 have e:=QS (g.push (nE us)) (o:=h_ C g.objs.size) rfl;rwa [Heap.size_push]at e
theorem w6 (F:ExcBaseFacts B new init top) (x:XC g C B new up top) {e p:Addr} {ob:Obj} {us:List Value} {Q:B0} (e1:g.get? e=some ob) (e2:ob.cls=.ref C)
  (e3:ob.data=.fields #[.ref p,.none,.none,.none,.bool false,.none]) (few:us.length<=sizeLine)
  (k:∀g',(∀b o,b≠e->g.get? b=some o->g'.get? b=some o)->g'.get? e=some { ob with data:=.fields #[.ref g.objs.size,.none,.none,.none,.bool false,.none] }->Q .none ⟨g',gs,dr,tk,os⟩) :
  wpAny (model P w) A (call (.builtin init) (.ref e::us)) Q E ⟨g,gs,dr,tk,os⟩:=by
 obtain⟨⟨nm,q,N,bs,hd,sn,sub,ab,col,dd,a0,a1,a2,a3,a5,eC⟩,T⟩:=x;refine wpAny_call (codeAny_call_builtin F.init.plain F.initEntry (wpAny_check_init_subT F T eC e1 e2 ?_));have e4:=Qf (nE us) e1;obtain⟨oc,od,odt,osl⟩:=ob;dsimp only at e2 e3;subst e2 e3
 wp_walk
 refine k _ (λb o ne z=>(Qw _ _ (Xz ne)).trans (Qf _ z)) ?_;rw[Xu _ e4 rfl];rfl
theorem vL {M:Model} {env:Env} {s:Shared} {t:Sem Value} {Q:Flow->Shared->Prop} (hb:top.contains (.type "BaseException")=true) (hh:A.handled=none)
  (k:wpAny M A t (λv s1=>∃e ob p,v=.ref e/\XC s1.heap C B new up top/\s1.heap.get? e=some ob/\ob.cls=.ref C/\ob.data=.fields #[.ref p,.none,.none,.none,.bool false,.none]/\E (.ref e) s1) E s) :
  wpAny M A (raiseStmt env (some t) none) Q E s:=by
 unfold raiseStmt;refine Qi (Xg k (λv s1 z=>?_) λ_ _ z=>z);obtain⟨e,ob,p,e0,⟨⟨nm,q,N,bs,hd,sn,sub,ab,col,dd,a0,a1,a2,a3,a5,eC⟩,T⟩,e1,e2,e3,z⟩:=z;subst e0;have base:(Value.ref C::up).contains (.type "BaseException")=true:=by rw[List.contains_cons,T.hasType hb];rfl
 obtain⟨h1,g1,d1,t1,o1⟩:=s1;obtain⟨oc,od,odt,osl⟩:=ob;dsimp only at e2 e3;subst e2 e3
 repeat (first|with_reducible refine wpAny_loadPart_at e1 ?_|(with_reducible refine wpAny_isSubtype_exc eC ?_;rw[base])|wp_step)
 exact wpAny_raiseNew_none hh z
end
end XE
set_option maxHeartbeats 1000000
namespace XE
open PySem PySem.W PySem.Calls PyProof.Rows Builtin Builtin.ObjectAttr
abbrev iN:List Value:=[.type "ValueError", .type "Exception", .type "BaseException", .type "object"]
structure XKl (K:Frag) (C NE:Addr):Prop where
 mr:((clsIn K C).any λcd=>cd.mro==.ref C::.ref NE::iN)=true
 ga:findIn K (.ref C) "__getattribute__" = some (some (.builtin "BaseException.__getattribute__"))
 gh:findIn K (.ref C) "__getattr__" = some none
 sb:subIn K (.ref C) (.type "BaseException")=some true
 hd:hasDictIn K C=true
 cl:findIn K (.ref C) "__class__" = some (some (.builtin "object.__class__"))
 cg:specialIn K (.builtin "object.__class__") "__get__" = some (some (.builtin "getset_descriptor.__get__"))
 ct:takesIn K (.builtin "object.__class__")=some true
 ob:mroIn K C (.type "object")=some true
 sa:findIn K (.ref C) "__setattr__" = some (some (.builtin "object.__setattr__"))
theorem bga:Slot "ValueError" "__getattribute__" "BaseException.__getattribute__" :=
 .of (owner := "BaseException") (n := "__getattribute__") (by rw[typeLookup_type,builtinLookup_eq_fast];kernel_rfl) (by decide +kernel) (by decide +kernel) (by decide +kernel) (by first|exact .inl (by decide +kernel)|exact .inr (by decide +kernel)) (by rw[isSubtype_type];kernel_rfl)
theorem AF:builtinKind "BaseException.__getattribute__" = some .slot:=by decide +kernel
theorem AD:splitId "BaseException.__getattribute__" = some ("BaseException", "__getattribute__"):=by decide +kernel
theorem AE:(Value.builtin "BaseException.__getattribute__" == Value.builtin "object.__getattribute__")=false:=by decide +kernel
section
variable {P:Program} {w:World} {A:Around} {E:B0} {R:Result->Shared->Prop} {s:Shared} {K:Frag} {x C NE:Addr} {ox:Obj} {od:Option Obj} {name:Str}
theorem xby {tk:Tok} {fill expr:Bool} {Q:B0} (X:K.In s.heap) (I:InstAt s.heap x ox C od) (k:XKl K C NE)
  (h:wpAny (model P w) A.in1 (Builtin.«object.__getattribute__» ⟨[.ref x,.str name tk],[]⟩) (λfin s'=>match fin with|.done (.ret v)=>wpAny (model P w) A (handedOut v) Q E s'|_=>False) (λ_ _=>False) s) :
  wpAny (model P w) A (getAttrBy (.ref x) (.str name tk) fill expr) Q E s:=by
 have hx:(expr&&onTheHeap (Value.builtin "BaseException.__getattribute__"))=false:=by cases expr <;> rfl
 unfold getAttrBy;refine XA (Qi (I.type.here (Qi ((looks_findIn X k.ga).here ?_))));dsimp only;rw[AE,Bool.and_false,Qz (by decide)];unfold getAttrByItsOwn;refine Qi ((looks_hook (mc:=.ref C) X (r:=none) (by rw[Qv (show onTheHeap (Value.ref C)=true from rfl)];exact k.gh)).here (Qi (wpAny_attempt (XA ?_))));unfold callGetattribute;rw[hx,Qz (by decide)];unfold boundAndCalled;rw[bga.bind];refine Qi (QJ ?_);show wpAny _ _ (call (.builtin "BaseException.__getattribute__") [.ref x,.str name tk]) _ _ _;refine wpAny_call ?_;refine codeAny_call_builtin bga.plain F.entry_bexc_ga ?_;refine @check_slot (model P w) _ _ s "BaseException.__getattribute__" "BaseException" "__getattribute__" (.ref x) [.str name tk] [] _ AF AD (I.type.andThen (looks_subIn X k.sb)) (F.args_bexc_ga (.ref x) (.str name tk)) ?_;refine Xg h (λfin s' z=>?_) λ_ _ z=>z.elim;rcases fin with(_|_|_|_)|_ <;> first|exact z|exact z.elim
end
end XE
namespace L2
open PySem PySem.Spec PyProof.Rows PySem.Calls
def XOk (e C:Addr) (d:Option Addr) (fresh:Bool) (h:Heap):Prop:=∃o vs,h.get? e=some o/\o.cls=.ref C/\o.dict=d/\o.data=.fields vs/\(fresh=true->∃t,vs=#[.ref t,.none,.none,.none,.bool false,.none])
abbrev XO (e C:Addr) (d:Option Addr) (fresh:Bool):HO:=.ext (XOk e C d fresh)
section
variable {P:Program} {w:World} {H H1 H2:Hp} {h h1 h2:Heap} {a e C L:Addr} {d:Option Addr} {b:Bool} {o u:HO} {fs Ts:B3}
theorem nZ (x:XOk e C d b h):aX P w H h e (XO e C d b):=by
 obtain⟨o,vs,h1,r⟩:=id x;exact⟨x,⟨o,h1⟩,λg1 g2 ⟨o,vs,q,r⟩ k=>⟨o,vs,k o q,r⟩⟩
theorem aX.there (x:aX P w H h a o):∃u,h.get? a=some u:=by
 induction o with
 | lst xs=>obtain⟨_,_,_,_,e⟩:=x;exact⟨_,e⟩
 | tup xs=>obtain⟨_,_,_,_,e,_⟩:=x;exact⟨_,e⟩
 | dK kvs=>obtain⟨_,_,_,_,o,_,_,e,_⟩:=x;exact⟨_,e⟩
 | dT kvs=>obtain⟨_,_,_,_,o,_,_,e,_⟩:=x;exact⟨_,e⟩
 | set S n=>obtain⟨o,_,_,_,e,_⟩:=x;exact⟨_,e⟩
 | ins C dx fs=>obtain⟨_,_,_,e,_⟩:=x;exact⟨_,e⟩
 | own y=>obtain⟨_,e⟩:=x;exact⟨_,e⟩
 | xd fs=>obtain⟨_,⟨_,_,_,e,_⟩,_⟩:=x;exact⟨_,e⟩
 | rng lo hi=>obtain⟨_,_,_,e⟩:=x;exact⟨_,e⟩
 | frz ob u ih=>obtain⟨e,_⟩:=x;exact⟨_,e⟩
 | tbl ps=>exact⟨_,(show h.get? a=some _ from x)⟩
 | met f y=>exact⟨_,(show h.get? a=some _ from x)⟩
 | ext φ=>obtain⟨_,e,_⟩:=x;exact e
theorem HOk.nothere (x:HOk P w H h) (n:h.get? a=none):H a=none:=by
 cases q:H a with
 | none=>rfl
 | some u=>obtain⟨v,z⟩:=(x a u q).there;rw[n]at z;cases z
variable {ψ φ:Heap->Prop}
theorem Un.exc (x:Un fs [] H H1 h h1) (he:H1 e=some (.ext φ)) (he2:H2 e=some (.ext ψ)) (els:∀b,b≠e->H2 b=H1 b) (y:XE.XL (L::fs) e Ts h1 h2) (hL:h.get? L=none) (hT:∀T∈Ts,h.get? T=none):Un fs [] H H2 h h2:=by
 have ne:∀b ob,h.get? b=some ob->H b=none->b≠e:=λb ob q n z=>by
  have:=x.free b ob q n (by simp);rw[z,he]at this;cases this
 have nT:∀b ob,h.get? b=some ob->b∉Ts:=λb ob q z=>by rw[hT b z]at q;cases q
 have nL:∀b ob,h.get? b=some ob->b≠L:=λb ob q z=>by rw[z,hL]at q;cases q
 refine⟨λb ob q n hb _=>?_,λb ob q n hb _=>?_,λb ob q n _=>?_,λb ob q _=>?_,λb xs q=>?_,λb ob u q=>?_,λb ps q=>?_⟩
 ·exact y.keep b ob (ne b ob q n) (nT b ob q) (λz=>(Qu.mp z).elim (nL b ob q) hb) (x.keep b ob q n hb (by simp))
 ·obtain⟨sl,z⟩:=x.slot b ob q n hb (by simp);obtain⟨sl2,z2⟩:=y.slot b _ (ne b ob q n) (nT b ob q) z;exact⟨sl2,z2⟩
 ·rw[els b (ne b ob q n)];exact x.free b ob q n (by simp)
 ·obtain⟨o',z⟩:=x.there b ob q (by simp);by_cases hb:b=e
  ·subst hb;obtain⟨oe,z2,_⟩:=y.at_ o' z;exact⟨oe,z2⟩
  obtain⟨sl,z2⟩:=y.slot b o' hb (nT b ob q) z;exact⟨_,z2⟩
 ·have z:=x.tups b xs q;rw[els b (ie z he (by intro k;cases k))];exact z
 ·have z:=x.frzs b ob u q;rw[els b (ie z he (by intro k;cases k))];exact z
 obtain⟨m,z⟩:=x.tbls b ps q;exact⟨m,by rw[els b (ie z he (by intro k;cases k))];exact z⟩
theorem HOk.exc (x:HOk P w H1 h1) (he:H1 e=some (.ext φ)) (he2:H2 e=some (.ext ψ)) (new:aX P w H2 h2 e (.ext ψ)) (els:∀b,b≠e->H2 b=H1 b) (y:XE.XL fs e Ts h1 h2) (hf:∀b∈fs,H1 b=none) (hT:∀T∈Ts,H1 T=none):HOk P w H2 h2:=λb u q=>by
 by_cases hb:b=e
 ·subst hb;rw[he2]at q;cases q;exact new
 rw[els b hb]at q
 have trk:∀c v ob,c≠e->H1 c=some v->h1.get? c=some ob->h2.get? c=some ob:=λc v ob hc z k =>
  y.keep c ob hc (λi=>by rw[hT c i]at z;cases z) (λi=>by rw[hf c i]at z;cases z) k
 refine(x b u q).stay (λc ob hc k=>?_) (λc z=>?_) λc xs z=>?_
 ·rcases hc with z|z
  ·subst z;exact trk c u ob hb q k
  exact trk c _ ob (ie z he (by intro k;cases k)) z k
 ·rw[els c (ie z he (by intro k;cases k))];exact z
 rw[els c (ie z he (by intro k;cases k))];exact z
theorem mU (x:XOk e C d b h1) (y:XE.XL fs e Ts h1 h2) (t:∃T,XE.Tr e T h2):XOk e C d false h2:=by
 obtain⟨o,vs,h1,c1,c2,_⟩:=x;obtain⟨oe,z,e1,e2⟩:=y.at_ o h1;obtain⟨T,⟨oe',vs',_,_,z',dd,_⟩,_⟩:=t;rw[z]at z';cases z';exact⟨oe,vs',z,e1.trans c1,e2.trans c2,dd,λk=>by cases k⟩
end
noncomputable def CX1 (P:Program) (w:World):CXT:=λouter H s E ev s'=>∃(e C T:Addr) (d:Option Addr) (H':Hp),ev=.ref e/\s'.os=s.os/\AllBare s'.gens/\Un (frs outer) [] H H' s.heap s'.heap/\HOk P w H' s'.heap /\
 H' e=some (XO e C d false)/\s.heap.get? T=none/\H' T=none/\XE.Tr e T s'.heap/\E (.ref C) (some e) H'
theorem vJ {base h h':Heap}:∀{l:List Env},h.FunFrames base l->(∀b∈frs l,∀o,h.get? b=some o->∃sl,h'.get? b=some { o with slots:=sl })->h'.FunFrames base l
 | [],_,_=>trivial
 | env::r,⟨hk,⟨L,o,hf,hn,ho,hd⟩,hr⟩,k=>by
  have hL:L∈frs (env::r):=by unfold frs;rw[Xq,hf];exact Q4
  obtain⟨sl,e⟩:=k L hL o ho;exact⟨hk,⟨L,_,hf,hn,e,hd⟩,vJ hr λb hb=>k b (by unfold frs;rw[Xq,hf];exact Qs _ hb)⟩
section
variable {P:Program} {w:World} {K:PySem.W.Frag} {mg:B2} {base:Heap} {N:List Str} {qual:Str} {scope:Scope} {f:Addr} {cd:Value} {A:Around} {outer:List Env} {s s1:Shared} {H H1:Hp} {E:XK} {pins:B1} {U:St} {e C:Addr} {d:Option Addr}
theorem i5 (I:Inv (cxOf (CX1 P w) P w K mg base N qual scope f cd A outer s H E) pins U H1 s1) (he:H1 e=some (XO e C d true)) (hE:E (.ref C) (some e) (upd H1 e (XO e C d false))) :
  (cxOf (CX1 P w) P w K mg base N qual scope f cd A outer s H E).xe (.ref e) s1:=by
 have xo:XOk e C d true s1.heap:=(I.hok e _ he).1;obtain⟨o,vs,g1,g2,g3,g4,g5⟩:=id xo;obtain⟨t,rfl⟩:=g5 rfl;refine XE.vO (base:=base) I.ok.frames I.stack rfl g1 g4 rfl λh' T xl tr new=>?_;have hT1:H1 T=none:=I.hok.nothere new;have nTe:T≠e:=tr.ne;have hL:s.heap.get? s.heap.objs.size=none:=Heap.get?_none_of_le (Qh _);have els:∀b,b≠e->upd H1 e (XO e C d false) b=H1 b:=λb hb=>af hb;refine⟨e,C,T,d,upd H1 e (XO e C d false),rfl,I.os,I.bare,Un.exc (L:=s.heap.objs.size) (Ts:=[]) I.base he ag els xl hL (by simp),?_,ag,?_,by rw[af nTe];exact hT1,tr,hE⟩
 ·exact HOk.exc (Ts:=[]) I.hok he ag (nZ (mU xo xl ⟨T,tr⟩)) els xl (λb hb=>I.stkFree b hb) (by simp)
 cases q:s.heap.get? T with
 | none=>rfl
 | some ob =>
 obtain⟨o',z⟩:=I.base.there T ob q (λz=>absurd (show T∈([]:B3) from z) (by simp));rw[new]at z;cases z
end
section
variable {X:Cx} {pins:B1} {U:St} {H:Hp} {s:Shared}
abbrev Cx.marked (X:Cx) (e:Addr):Cx:={ X with A:=X.A.mark (some (.ref e)),calm:=false,xe:=λ_ _=>False }
theorem Inv.mark (I:Inv X pins U H s) (e:Addr):Inv (X.marked e) pins U H s :=
 ⟨⟨I.ok.mod,I.ok.kind,I.ok.glob,I.ok.blt,I.ok.above,I.ok.inj,I.ok.has,I.ok.cab,(λz=>by cases z),I.ok.frames,I.ok.stk,I.ok.exf,I.ok.bs,I.ok.bsz,I.ok.noex,I.ok.exfs,I.ok.funs,I.ok.frf⟩,I.os,I.bare,I.base,I.loc,I.cell,I.free,I.freeC,I.pin,I.hok,I.len⟩
theorem Inv.unmark {e:Addr} (I:Inv (X.marked e) pins U H s) (hd:X.calm=true->X.A.handled=none):Inv X pins U H s :=
 ⟨⟨I.ok.mod,I.ok.kind,I.ok.glob,I.ok.blt,I.ok.above,I.ok.inj,I.ok.has,I.ok.cab,hd,I.ok.frames,I.ok.stk,I.ok.exf,I.ok.bs,I.ok.bsz,I.ok.noex,I.ok.exfs,I.ok.funs,I.ok.frf⟩,I.os,I.bare,I.base,I.loc,I.cell,I.free,I.freeC,I.pin,I.hok,I.len⟩
theorem uA {M:Model} {A:Around} {E:B0} {i:Nat} {x:Str} {pos:Pos} {Q:Unit->Shared->Prop} (I:Inv X pins U H s) (hN:X.N.Nodup) (hi:X.N[i]?=some x) (hk:X.env.kindOf x=some .local)
  (h:∀s',Inv X pins (U.set i none) H s'->Q () s'):wpAny M A (do bindName X.env x .none;unbindBehindTheSuite X.env x pos) Q E s:=by
 obtain⟨m,hn,hl⟩:=id I.loc;have hcls:(X.env.scope.kind==.class || (X.env.scope.kind==.module&&X.env.locals != X.env.globals))=false:=by rw[I.ok.kind];rfl
 have hiσ:i<U.length:=by rw[I.len];exact(Qc.mp hi).1
 refine wpAny_nameGoes_keeps hk hn hcls λh' v hn' hs=>?_;obtain⟨oL,_,_,hoL,_⟩:=id hn;have neL:∀b o,X.s₀.heap.get? b=some o->b≠X.env.locals:=λb o e=>QI (Qy (Qo e) I.ok.above);refine h { s with heap:=h',toks:=s.toks+1 } ⟨I.ok,I.os,I.bare,⟨λb o e n hb hx=>(hs.2 b (neL b o e)).trans (I.base.keep b o e n hb hx),λb o e n hb hx=>?_,I.base.free,λb o e hx=>?_,I.base.tups,I.base.frzs,I.base.tbls⟩,⟨_,hn',λj y v' e1 e2 e3=>?_⟩,λy c e=>?_,I.free,I.freeC,λp hp=>?_,λb ob e=>?_,by simpa using I.len⟩
 ·obtain⟨sl,e1⟩:=I.base.slot b o e n hb hx;exact⟨sl,(hs.2 b (neL b o e)).trans e1⟩
 ·obtain⟨o',e1⟩:=I.base.there b o e hx;exact⟨o',(hs.2 b (neL b o e)).trans e1⟩
 ·have hj:j≠i:=λz=>by
   subst z;rw[List.getElem?_set_self hiσ]at e2;cases e2
  rw[List.getElem?_set_ne (Xz hj)]at e2;obtain⟨u',r',q⟩:=hl j y v' e1 e2 e3;refine⟨u',r',?_⟩;rcases q with⟨k,z⟩|⟨k,c,z,z2⟩
  ·have ny:y≠x:=λz=>hj (h9 hN e1 (z▸hi));exact .inl ⟨k,by show (if y=x then v else m y)=some u';rw[Qz ny];exact z⟩
  exact .inr ⟨k,c,z,z2.sameBut hs (I.cne y c z)⟩
 ·obtain⟨w',z⟩:=I.cell y c e;exact⟨w',z.sameBut hs (I.cne y c e)⟩
 ·obtain⟨e,n,ne,nf,dd⟩:=I.pin p hp;exact⟨(hs.2 p.1 ne).trans e,n,ne,nf,dd⟩
 refine(I.hok b ob e).stay (λc w' hc q=>(hs.2 c ?_).trans q) (λ_ q=>q) λ_ _ q=>q;intro z;subst z;rcases hc with z|z
 ·rw[<-z,I.free]at e;cases e
 rw[I.free]at z;cases z
end
def vT (C:Addr) (te:TE) (R:Addr->Option Addr->Hp->Prop):TS:=λ_ U H=>te U H λv H1=>∃e d,v=.ref e/\H1 e=some (XO e C d true)/\R e d H1
section
variable {X:Cx}
structure XMk (K:PySem.W.Frag) (C NE:Addr):Prop where
 xc:∀h:Heap,K.In h->XE.XC h C "ValueError" "ValueError.__new__" (.ref NE::XE.iN) XE.iN
 kp:PySem.W.keepIn K (.ref C)=true
 kl:XE.XKl K C NE
theorem lS {ex:Expr} {te:TE} {R:Addr->Option Addr->Hp->Prop} {pos:Pos} {C NE:Addr} (M:XMk X.K C NE) (hc:X.calm=true) (he:PE X ex te)
  (hx:∀pins U H s e d,Inv X pins U H s->H e=some (XO e C d true)->R e d H->X.xe (.ref e) s) :
  PS X (.Raise (some ex) none pos) (vT C te R):=by
 intro pins s U H D I h;rw[arm_exec_Raise];refine Qi (wpAny_standAt (XE.vL (C:=C) (B := "ValueError") (new := "ValueError.__new__") (up:=.ref NE::XE.iN) (top:=XE.iN) (by decide +kernel) (I.ok.hd hc) ?_));refine Qi (thn (he pins s U H _ I h) λv s1 z=>Qi (wpAny_standAt (QJ ?_)));obtain⟨x,H1,I1,rx,e,d,ex,eo,r⟩:=z;subst ex;cases (show v=Value.ref e from rx);have xo:XOk e C d true s1.heap:=(I1.hok e _ eo).1;obtain⟨o,vs,g1,g2,g3,g4,g5⟩:=xo;obtain⟨t,rfl⟩:=g5 rfl;exact⟨e,o,t,rfl,M.xc _ I1.kIn,g1,g2,g4,hx pins U H1 s1 e d I1 eo r⟩
end
section
variable {X:Cx}
variable {pins:B1}
theorem sR {U:St} {H H1:Hp} {s s1:Shared} {e C T T2:Addr} {d:Option Addr} {h2:Heap} {Ts:B3} (I:Inv X pins U H s) (hst:X.stack=X.env::X.outer) (hos:s1.os=s.os) (hb:AllBare s1.gens) (un:Un (frs X.stack) [] H H1 s.heap s1.heap) (hok:HOk X.prog X.w H1 s1.heap)
  (eo:H1 e=some (XO e C d false)) (hT:∀T∈Ts,s.heap.get? T=none) (hT1:∀T∈Ts,H1 T=none) (xl:XE.XL (frs X.stack) e Ts s1.heap h2) (tr:XE.Tr e T2 h2) (fr:∀b∈frs X.stack,H1 b=none) :
  Un (frs X.stack) [] H H1 s.heap h2/\HOk X.prog X.w H1 h2:=by
 have xo:XOk e C d false s1.heap:=(hok e _ eo).1;have xl':XE.XL (s.heap.objs.size::frs X.stack) e Ts s1.heap h2:=⟨λb o n t f q=>xl.keep b o n t (λz=>f (Qs _ z)) q,xl.slot,xl.at_⟩;exact⟨Un.exc (L:=s.heap.objs.size) un eo eo (λ_ _=>rfl) xl' (Heap.get?_none_of_le (Qh _)) hT,HOk.exc hok eo eo (nZ (mU xo xl ⟨T2,tr⟩)) (λ_ _=>rfl) xl fr hT1⟩
theorem tz {U:St} {H:Hp} {s:Shared} {e C dx:Addr} {fr:Bool} {fs:List (Str × V)} (I:Inv X pins U H s) (eo:H e=some (XO e C (some dx) fr)) (ed:H dx=some (.xd fs)) :
  ∃(ox od:Obj) (mA:B2),PySem.W.InstAt s.heap e ox C (some od)/\(∀n,PySem.W.lookIn n od=some (mA n))/\∀f,eU (fs.lookup f) (mA f):=by
 have xo:XOk e C (some dx) fr s.heap:=(I.hok e _ eo).1;obtain⟨ob,vs,g1,g2,g3,g4,g5⟩:=xo;obtain⟨mA,ns,r⟩:=(I.hok dx _ ed:aX X.prog X.w H s.heap dx (.xd fs));obtain⟨od,ho,hl⟩:=jt ns;refine⟨ob,od,mA,⟨g1,g2,?_,by rw[g3];exact ho⟩,hl,r⟩;obtain⟨_,_,dt,_⟩:=ob;dsimp only at g4;subst g4;rfl
def wT:V->Value
 | .ref a=>.ref a
 | .ty n=>.type n
 | _=>.none
end
end L2
namespace XE
open PySem PySem.W PySem.Calls PyProof.Rows
section
variable {P:Program} {w:World} {A:Around} {E:B0} {g:Heap} {gs:Array GenState} {dr:Drawn} {tk:Nat} {os:OsState} {C:Addr} {B new init:String} {up top:List Value}
theorem vN (F:ExcBaseFacts B new init top) (x:XC g C B new up top) {us:List Value} {Q:B0}
  (hi:Lk (model P w) g (typeLookup (.ref C) "__init__") (some (.builtin init))) (few:us.length<=sizeLine)
  (k:∀g' p,(∀b o,g.get? b=some o->g'.get? b=some o)->g'.get? (g.objs.size+1)=some (h_ C p)->Q (.ref (g.objs.size+1)) ⟨g',gs,dr,tk,os⟩) :
  wpAny (model P w) A (call (.ref C) us) Q E ⟨g,gs,dr,tk,os⟩:=by
 have xx:=x;obtain⟨⟨nm,q,N,bs,hd,sn,sub,ab,col,dd,a0,a1,a2,a3,a5,eC⟩,T⟩:=x;have l1:=tc_lookup;have l2:=tc_bind (.ref C);have ty:(⟨g,gs,dr,tk,os⟩:Shared).TypeIs (.ref C) "type" := ⟨_,eC,rfl⟩;refine wpAny_call (codeAny_of_tree (?_:wpAny _ _ (callAny (.ref C) ⟨us,[]⟩) _ _ _))
 repeat (any_goals (first|assumption|wp_step))
 refine⟨rfl,codeAny_call_builtin_at (Code.quiet_builtin _ (by decide +kernel)) entry_typeCall (wpAny_check_type_call_sub eC ?_)⟩
 repeat (first|with_reducible refine wpAny_madeBy_exc eC ?_|wp_step)
 refine codeAny_call_builtin_code (Code.quiet_builtin _ F.quiet) (wpAny_check_new_subT F T eC (codeAny_exc_new_subT F T eC (?_:wpAny _ _ _ _ _ _) few));have eC':=fA (C:=C) (us:=us) eC;have eN:(pY g C us).get? (g.objs.size+1)=some (h_ C g.objs.size):=sk;have own:(Value.ref C::up).contains (.ref C)=true:=by simp
 unfold isInstance
 repeat (first|with_reducible refine wpAny_loadPart_at eN ?_|wp_step)
 refine wpAny_isSubtype_exc eC' ?_;rw[own]
 repeat (first|with_reducible refine wpAny_loadPart_at eN ?_|wp_step)
 refine(?_:wpAny _ _ (typeLookup (.ref C) "__init__") _ _ _);refine hi _ _ _ _ (λb o e=>fA e) (XA (Qi (wpAny_of_eq (F.init.bind _) ?_)));refine Qi (w6 F (xx.keeps λb o e=>fA e) eN rfl rfl few λg' kp ne=>?_)
 wp_walk
 exact k g' _ (λb o e=>kp b o (QI (Nat.lt_succ_of_lt (Qo e))) (fA e)) ne
end
section
variable {P:Program} {w:World} {A:Around} {E:B0} {s:Shared} {K:Frag} {x C NE:Addr} {ox:Obj} {od:Option Obj}
theorem iW {a g:Value} {name:Str} (hc:(clsIn K C).isSome=true) (ha:findIn K (.ref C) name=some (some a)) (hg:specialIn K a "__get__" = some (some g)) (ht:takesIn K a=some true):findObj K C od name=some (.bind g a):=by
 obtain⟨cd,hc⟩:=Option.isSome_iff_exists.mp hc;unfold findObj;rw[hc,Option.bind_some,ha,Option.bind_some];simp[hg,ht]
theorem wZ {Q:Option Value->Shared->Prop} (X:K.In s.heap) (I:InstAt s.heap x ox C od) (k:XKl K C NE) (h:Q (some (.ref C)) { s with toks:=s.toks+1 }):wpAny (model P w) A (getAttr? (.ref x) "__class__") Q E s:=by
 have hf:findObj K C od "__class__" = some (.bind (.builtin "getset_descriptor.__get__") (.builtin "object.__class__")):=iW (by obtain⟨cd,hc,_⟩:=any_some k.hd;rw[hc];rfl) k.cl k.cg k.ct;unfold getAttr? getAttrBy?;refine Qi (wpAny_mkText (Qi (wpAny_attempt (xby (s:={ s with toks:=s.toks+1 }) X I k ?_))));have L0:=I.type (M:=model P w);have L1:=looks_find (M:=model P w) X I hf;refine Qi (QJ (Qi (QJ (Qi (Looks.here (s:={ s with toks:=s.toks+1 }) L0 (Qi (Looks.here (s:={ s with toks:=s.toks+1 }) L1 ?_)))))));refine(?_:wpAny _ _ (holding [Value.builtin "object.__class__"] (call (.builtin "getset_descriptor.__get__") [.builtin "object.__class__", .ref x,.ref C]) >>= ret) _ _ _);refine Qi (XA (wpAny_call (class_get (s:={ s with toks:=s.toks+1 }) (ox:=ox) (od:=od) X I k.ob (QJ ?_))));exact handed_on rfl (QJ h)
theorem wY (k:XKl K C NE):KitX K (.ref x) (.ref C) (λg=>InstAt g x ox C od) where
 ty:=λ_ _ _ I=>I.type
 it:=λ_ _ X _=>by
  obtain⟨cd,hc,_⟩:=any_some k.hd;unfold clsIn at hc
  split at hc
  ·rename_i ho
   intro A' Q' E' s' kk q;unfold isType loadHead;exact Qi (wpAny_loadPart (kk _ _ (X _ _ ho)) (QJ q))
  cases hc
 ne:=λg tp dd its n sl X htp=>by
  obtain⟨cd,hc,_⟩:=any_some k.hd;refine Xs.mpr λq=>?_;cases Value.ref.inj (beq_iff_eq.mp q);unfold clsIn at hc
  split at hc
  ·rename_i ho
   cases (X _ _ ho).symm.trans htp
  cases hc
 ca:=λX I q=>wZ X I k q
end
end XE
namespace L2
open PySem PySem.Spec PyProof.Rows PySem.Calls
section
variable {X:Cx}
def n9 (C:Addr) (t:TA):TE:=λU H Q=>t U H λvs H1=>vs.length<=sizeLine/\∀x,H1 x=none->Q (.ref x) (upd H1 x (XO x C none true))
theorem ji {x:Str} {p pos:Pos} {e:Expr} {es:List Expr} {t:TA} {C NE:Addr} (M:XMk X.K C NE) (hin:PySem.W.findIn X.K (.ref C) "__init__" = some (some (.builtin "ValueError.__init__")))
  (hg:Gl X x) (hm:X.mg x=some (.ref C)) (ha:PA X (e::es) t)
  (hdb:(x==("__debug__" : Str))=false:=by decide) (he:starEach (e::es) X.env=(false,eval e X.env)::starEach es X.env:=by rfl) (hpl:(backTo pos (starEach es X.env)).any (·.1)=false:=by rfl) :
  PE X (.Call (.Name x p) (e::es) [] pos) (n9 C t):=by
 intro pins s U H Q I h;refine wpAny_Call_Name_kw (d9 I hg hm ?_ hdb);refine PySem.W.callWith_K (h₀:=X.base) I.ok.mod.kin M.kp (thn (ha pos pins s U H _ I h) λus s1 ⟨vs,H1,I1,r,few,q⟩=>⟨I1.kIn,?_⟩) he hpl;have few':us.length<=sizeLine:=by rw[<-r.length];exact few
 have hq:=q (s1.heap.objs.size+1) (I1.hok.fresh (Nat.le_succ _));obtain⟨hh,g,dd,tk,os⟩:=s1;refine XE.vN PySem.F.excBase_ValueError (M.xc _ I1.kIn) (PySem.W.looks_findIn I1.kIn hin) few' λg' p kp ne=>?_;exact⟨.ref (hh.objs.size+1),_,I1.laid (t':=tk) kp (Nat.le_succ _) (nZ ⟨_,_,ne,rfl,rfl,rfl,λ_=>⟨_,rfl⟩⟩),rfl,hq⟩
theorem qy {pins:B1} {U:St} {H:Hp} {s:Shared} {e C:Addr} {d:Option Addr} {fr:Bool} (I:Inv X pins U H s) (eo:H e=some (XO e C d fr)) (ed:∀dx,d=some dx->∃fs,H dx=some (.xd fs)) :
  ∃(ox:Obj) (od:Option Obj),PySem.W.InstAt s.heap e ox C od:=by
 cases d with
 | some dx =>
  obtain⟨fs,q⟩:=ed dx rfl;obtain⟨ox,od,_,J,_⟩:=tz I eo q;exact⟨ox,some od,J⟩
 | none =>
 have xo:XOk e C none fr s.heap:=(I.hok e _ eo).1;obtain⟨ob,vs,g1,g2,g3,g4,g5⟩:=xo;refine⟨ob,none,g1,g2,?_,by rw[g3];trivial⟩;obtain⟨_,_,dt,_⟩:=ob;dsimp only at g4;subst g4;rfl
def u5 (K:PySem.W.Frag):List V->Hp->VK->Prop:=λxs H Q=>∃e C NE d fr c b,xs=[.ref e,c]/\((∃a,c=.ref a)\/∃n,c=.ty n)/\H e=some (XO e C d fr)/\(∀dx,d=some dx->∃fs,H dx=some (.xd fs))/\XE.XKl K C NE/\PySem.W.kitOne K (.ref C) (wT c)=some b/\Q (.bl b) H
theorem bz:cO X (.builtin "isinstance") (u5 X.K):=by
 intro pins s U H xs us Q I r h;obtain⟨e,C,NE,d,fr,c,b,ex,hc,eo,ed,k,kt,q⟩:=h;subst ex;obtain⟨u1,u2,eu,r1,r2⟩:=i7 r;subst eu;cases (show u1=Value.ref e from r1)
 have e2:u2=wT c:=by
  rcases hc with⟨a,rfl⟩|⟨n,rfl⟩ <;> exact r2
 subst e2;obtain⟨ox,od,J⟩:=qy I eo ed;exact Xn (XE.wY k) I.kIn J kt (λz=>nomatch z) λtk=>⟨.bl b,H,I.tok tk,rfl,q⟩
end
section
variable {P:Program} {w:World} {K:PySem.W.Frag} {mg:B2} {base:Heap} {N:List Str} {qual:Str} {scope:Scope} {f:Addr} {cd:Value} {A:Around} {outer:List Env} {s:Shared} {H:Hp} {E:XK}
theorem oD:eV (CX1 P w) (cxOf (CX1 P w) P w K mg base N qual scope f cd A outer s H E) E:=by
 intro pins U H1 s1 ev s2 I z;obtain⟨e,C,T,d,H2,rfl,os2,bare2,un2,hok2,eo,nT,nT2,tr,q⟩:=z;have I2:Inv (cxOf (CX1 P w) P w K mg base N qual scope f cd A outer s H E) pins U H2 s2:=I.call' (ch:=[]) os2 un2 hok2 bare2 (λb z=>absurd z (by simp));have xo:XOk e C d false s2.heap:=(hok2 e _ eo).1;have hL:s.heap.get? s.heap.objs.size=none:=Heap.get?_none_of_le (Qh _)
 have down:∀T',s2.heap.get? T'=none->s.heap.get? T'=none:=λT' n=>by
  cases q:s.heap.get? T' with
  | none=>rfl
  | some ob =>
  obtain⟨o',z⟩:=I2.base.there T' ob q (λz=>absurd (show T'∈([]:B3) from z) (by simp));rw[n]at z;cases z
 have nTs:s.heap.get? T=none:=by
  cases q:s.heap.get? T with
  | none=>rfl
  | some ob =>
  obtain⟨o',z⟩:=I.base.there T ob q (λz=>absurd (show T∈([]:B3) from z) (by simp));rw[nT]at z;cases z
 refine XE.ph (base:=base) I2.ok.frames I2.stack rfl tr λh' T' xl tr' new=>?_;refine⟨e,C,T',d,H2,rfl,I2.os,I2.bare,Un.exc (L:=s.heap.objs.size) (Ts:=[T]) I2.base eo eo (λ_ _=>rfl) xl hL (by simpa using nTs),?_,eo,down T' new,hok2.nothere new,tr',q⟩;exact HOk.exc (Ts:=[T]) hok2 eo eo (nZ (mU xo xl ⟨T',tr'⟩)) (λ_ _=>rfl) xl (λb hb=>I2.stkFree b hb) (by simpa using nT2)
end
section
variable {X:Cx}
def XP (X:Cx) (pins:B1) (U:St) (E:XK) (ev:Value) (s':Shared):Prop:=∃H1 s1,Inv X pins U H1 s1/\CX1 X.prog X.w X.stack H1 s1 E ev s'
def PX (X:Cx) (st:List Stmt) (t:XK->TS):Prop :=
 ∀(pins:B1) (s:Shared) (U:St) (H:Hp) (D:Ends) (E:XK),Inv X pins U H s->t E D U H->wpAny (model X.prog X.w) X.A (execs st X.env) (SP X pins D) (XP X pins U E) s
def uM (K:PySem.W.Frag) (NE:Addr) (i:Nat) (tb:XK->TS) (tsu:TS):TS:=λD U H =>
 tb (λcls ea H2=>∃e,ea=some e/\PySem.W.exmOne K cls (.ref NE)=some true/\tsu { nx:=λσ' H'=>D.nx (σ'.set i none) H',rt:=λ_ _=>False } (U.set i (some (.ref e))) H2)
  { nx:=D.nx,rt:=λ_ _=>False } U H
theorem tS {cn n:Str} {body:List Stmt} {st:Stmt} {suite:List Stmt} {cp hpos pos:Pos} {NE:Addr} {i:Nat} {tb:XK->TS} {tsu:TS} (hb:PX X body tb)
  (hgc:Gl X cn) (hmc:X.mg cn=some (.ref NE)) (hN:X.N.Nodup) (hi:X.N[i]?=some n) (hl:X.env.kindOf n=some .local) (hsu:∀e,PSs (X.marked e) (st::suite) tsu) (hc:X.calm=true)
  (hst:X.stack=X.env::X.outer:=by rfl) (hfr:X.env.frame=some X.env.locals:=by rfl) (hf:X.fn n=true\/X.env.scope.names.lookup n=some .local:=by z_go)
  (hdc:(cn==("__debug__" : Str))=false:=by decide) :
  PS X (.Try body [.ExceptHandler (some (.Name cn cp)) (some n) (st::suite) hpos] [] [] pos) (uM X.K NE i tb tsu):=by
 intro pins s U H D I h;refine wpAny_Try_except (Xg (hb pins s U H _ _ I h) (λfl s2 z=>?_) λev s2 z=>?_)
 ·cases fl with
  | next=>exact wpAny_execs_nil z
  | ret u=>obtain⟨_,_,_,_,_,q6⟩:=z;exact False.elim q6
  | brk=>obtain⟨_,_,_,q6⟩:=z;exact False.elim q6
  | cont=>obtain⟨_,_,_,q6⟩:=z;exact False.elim q6
 obtain⟨H1,s1,I1,e,C,T,d,H2,rfl,os2,bare2,un2,hok2,eo,nT,nT2,tr,e',ee,hx,q3⟩:=z;cases ee;have fr1:∀b∈frs X.stack,H1 b=none:=I1.stkFree
 have fr2:∀b∈frs X.stack,H2 b=none:=λb hb=>by
  obtain⟨_,o,ho,_⟩:=I1.stack.mem hb;exact un2.free b o ho (fr1 b hb) (by simp)
 have ff:s2.heap.FunFrames X.base (X.env::X.outer):=by
  rw[<-hst];exact vJ I1.stack λb hb o ho=>un2.slot b o ho (fr1 b hb) hb (by simp)
 refine XE.uK (s:=s2) (base:=X.base) (by rw[I1.ok.frames,hst]) ff hfr tr λh3 T3 xl3 tr3 new3=>?_;have xl3':XE.XL (frs X.stack) e [T] s2.heap h3:=by rw[hst];exact xl3
 obtain⟨un3,hok3⟩:=sR (T:=T) I1 hst os2 bare2 un2 hok2 eo (by simpa using nT) (by simpa using nT2) xl3' tr3 fr2;have I3:Inv X pins U H2 { s2 with heap:=h3 }:=I1.call' (ch:=[]) os2 un3 hok3 bare2 (λb z=>absurd z (by simp))
 have nT3:s1.heap.get? T3=none:=by
  cases qq:s1.heap.get? T3 with
  | none=>rfl
  | some ob =>
  obtain⟨o',z⟩:=un2.there T3 ob qq (by simp);rw[new3]at z;cases z
 have nT3':H2 T3=none:=hok2.nothere new3
 have hce:∃oe,h3.get? e=some oe/\oe.cls=.ref C:=by
  obtain⟨o,vs',g1,g2,_⟩:=((hok3 e _ eo).1:XOk e C d false h3);exact⟨o,g1,g2⟩
 have LT:PySem.W.Looks (model X.prog X.w) h3 (typeOf (.ref e)) (.ref C):=by
  obtain⟨oe,g1,g2⟩:=hce;rw[<-g2];exact(PySem.W.Looks.ld g1).andThen .now
 refine wpAny_handleBy_cons (codeAny_handlers_test (d9 (X:=X.marked e) (I3.mark e) hgc hmc ?_ hdc)) (by intro z;cases z);refine PySem.W.Looks.here (s:={ s2 with heap:=h3 }) (PySem.W.exm_one I3.kIn LT hx) (codeAny_handlers_suite_as ?_);refine XE.vQ (s:={ s2 with heap:=h3 }) (fs:=frs X.stack) tr3 λh4 xl4 tr4=>?_;obtain⟨un4,hok4⟩:=sR (s1:={ s2 with heap:=h3 }) (T:=T3) I1 hst os2 bare2 un3 hok3 eo (by simpa using nT3) (by simpa using nT3') xl4 tr4 fr2;have I4:Inv X pins U H2 { s2 with heap:=h4 }:=I1.call' (ch:=[]) os2 un4 hok4 bare2 (λb z=>absurd z (by simp));refine dI (X:=X.marked e) (v:=.ref e) (I4.mark e) hN hi (.inl hl) rfl (λs5 I5=>?_) hf;refine Xg (hsu e pins s5 _ H2 _ I5 q3) (λfl s6 z=>?_) λ_ _ z=>z.elim
 cases fl with
 | next =>
  obtain⟨σ6,H6,I6,q6⟩:=z;exact uA (I6.unmark I.ok.hd) hN hi hl λs7 I7=>⟨_,H6,I7,q6⟩
 | ret u=>obtain⟨_,_,_,_,_,q6⟩:=z;exact False.elim q6
 | brk=>obtain⟨_,_,_,q6⟩:=z;exact False.elim q6
 | cont=>obtain⟨_,_,_,q6⟩:=z;exact False.elim q6
end
end L2
set_option maxHeartbeats 4000000
namespace L2
open PySem PySem.Spec PyProof.Rows
section
variable {X:Cx}
theorem jb:∀{ys:List Str} {us:List Value},StrsAre us ys->aG (ys.map V.str) us
 | _,_,.nil=>.nil
 | _,_,.cons x t h=>.cons ⟨t,rfl⟩ (jb h)
def tN:List V->Hp->VK->Prop:=λxs H Q=>∃(l:Addr) (ss:List Str),xs=[.ref l]/\H l=some (.lst (ss.map V.str))/\ss.length<64/\∀p ss',H p=none->ss'.Perm ss->sortedS ss'=true->Q (.ref p) (upd H p (.lst (ss'.map V.str)))
theorem mO:cO X (.builtin "sorted") tN:=by
 intro pins s U H xs us Q I r h;obtain⟨l,ss,rfl,hH,hz,q⟩:=h;obtain⟨u,rfl,ru⟩:=dE r;cases ru;obtain⟨z,its,n,r,hl,e⟩:=I.lstM hH;have sa:=de r;rw[Qa]at hl z;refine sorted_strs ⟨_,e,rfl,n,rfl⟩ sa (by omega) λout ss' so pm st=>?_;have vo:=jb so;have lo:ss'.length=ss.length:=pm.length_eq;obtain⟨en,at'⟩:=sortedAll_at s.heap its out;have hle:s.heap.objs.size<=s.heap.objs.size+1:=Nat.le_succ _;refine⟨.ref (s.heap.objs.size+1),_,I.laid (o:=.lst (ss'.map V.str)) (t':=s.toks) (λ_ _ g=>sortedAll_old g) hle ⟨by rw[Qa];omega,out.toList,en,vo,at'⟩,rfl,q _ ss' (I.hok.fresh hle) pm st⟩
end
theorem sU {x:V} (h:bI x=true):eqV x x=true:=by
 cases x <;> first|(simp[eqV];done)|(simp[bI]at h;done)|simp_all [eqV,bI]
theorem wV (n:Nat):((List.range n).all λ_=>true)=true:=Xi.mpr λ_ _=>rfl
section
variable {K:PySem.W.Frag} {H:Hp} {Q:VK}
theorem sT {n:Nat} {x:V} (h:bI x=true):EqD K H n x x true:=by
 have q:=EqD.flat (K:=K) (H:=H) (n:=n) h h;rwa [sU h]at q
theorem qj {n:Nat} {xs:List V} (f:xs.all bI=true):∀(j:Nat) x y,xs[j]?=some x->xs[j]?=some y->EqD K H n x y true:=λj x y e1 e2=>by
 rw[e1]at e2;cases e2;exact sT (Xi.mp f x (Qn e1))
theorem Ay {a b:Addr} {xs ys:List V} (h1:SqT K H a xs) (h2:SqT K H b ys) (hl:xs.length=ys.length) (hi:∀(j:Nat) x y,xs[j]?=some x->ys[j]?=some y->EqD K H 8 x y true) (q:Q (.bl false) H):xv K true (.ref a) (.ref b) H Q:=by
 refine⟨a,b,xs,ys,λ_=>true,rfl,rfl,h1,h2,hi,?_⟩;rw[wV,hl,beq_self_eq_true];exact q
end
theorem mH {H1:Hp} {D:Addr} {σ0:St} {g:TG} {te:TE} {tt:TT} {QD:Hp->Prop} {lo:Int} {n:Nat} (Pv:Nat->Hp->List V->Prop) (h0:Pv 0 (upd H1 D (.lst [])) []) (hD:∀i H ys,Pv i H ys->H D=some (.lst ys))
  (hs:∀i H ys,i<n->Pv i H ys->g (.int (lo+i)) σ0 H λσ2 H2=>wk σ0 σ2/\tt σ2 H2 λb H3=>if b=true then te σ2 H3 (cs Pv n D i ys) else ∃m',m'<n-i/\(m'=n-(i+1)/\i+1<=n/\Pv (i+1) H3 ys)) (hd:∀H ys,Pv n H ys->QD H) :
  ∃W:Nat->Nat->Hp->List V->Prop,(∃m,W 0 m (upd H1 D (.lst [])) [])/\∀i m H ys,W i m H ys->H D=some (.lst ys)/\(((Itr lo n).stop i H/\QD H)\/((Itr lo n).go i H/\∀x H',(Itr lo n).yld i H x H'->g x σ0 H' λσ2 H2=>wk σ0 σ2/\tt σ2 H2 λb H3 =>
   if b=true then te σ2 H3 λv H4=>H4 D=some (.lst ys)/\ys.length<sizeLine/\∃m',m'<m/\W (i+1) m' (upd H4 D (.lst (ys++[v]))) (ys++[v]) else ∃m',m'<m/\W (i+1) m' H3 ys)):=by
 refine⟨λi m H ys=>m=n-i/\i<=n/\Pv i H ys,⟨n,by simp,Q5 _,h0⟩,?_⟩;rintro i m H ys ⟨rfl,hi,p⟩;refine⟨hD i H ys p,?_⟩;by_cases hlt:i<n
 ·refine .inr ⟨hlt,λx H' y=>?_⟩;obtain⟨e,y⟩:=y;subst e y;exact hs i _ ys hlt p
 have e:i=n:=by exact om0 hi hlt
 subst e;exact .inl ⟨Qh _,hd H ys p⟩
theorem iG {K:PySem.W.Frag} {H1:Hp} {D:Addr} {σ0:St} {g:TG} {te:TE} {tt:TT} {QD:Hp->Prop} {a:Addr} {xs:List V} (Pv:Nat->Hp->List V->Prop) (h0:Pv 0 (upd H1 D (.lst [])) []) (hD:∀i H ys,Pv i H ys->H D=some (.lst ys)/\SqL K H a xs)
  (hs:∀i x H ys,xs[i]?=some x->Pv i H ys->g x σ0 H λσ2 H2=>wk σ0 σ2/\tt σ2 H2 λb H3=>if b=true then te σ2 H3 (cs Pv xs.length D i ys) else ∃m',m'<xs.length-i/\(m'=xs.length-(i+1)/\i+1<=xs.length/\Pv (i+1) H3 ys)) (hd:∀H ys,Pv xs.length H ys->QD H) :
  ∃W:Nat->Nat->Hp->List V->Prop,(∃m,W 0 m (upd H1 D (.lst [])) [])/\∀i m H ys,W i m H ys->H D=some (.lst ys)/\(((Itl K a).stop i H/\QD H)\/((Itl K a).go i H/\∀x H',(Itl K a).yld i H x H'->g x σ0 H' λσ2 H2=>wk σ0 σ2/\tt σ2 H2 λb H3 =>
   if b=true then te σ2 H3 λv H4=>H4 D=some (.lst ys)/\ys.length<sizeLine/\∃m',m'<m/\W (i+1) m' (upd H4 D (.lst (ys++[v]))) (ys++[v]) else ∃m',m'<m/\W (i+1) m' H3 ys)):=by
 refine⟨λi m H ys=>m=xs.length-i/\i<=xs.length/\Pv i H ys,⟨xs.length,by simp,Q5 _,h0⟩,?_⟩;rintro i m H ys ⟨rfl,hi,p⟩;obtain⟨d1,d2⟩:=hD i H ys p;refine⟨d1,?_⟩;by_cases hlt:i<xs.length
 ·refine .inr ⟨⟨xs,xs[i],d2,by simp[hlt]⟩,λx H' y=>?_⟩;obtain⟨e,y⟩:=y;subst e;exact hs i x _ ys (y xs d2) p
 have e:i=xs.length:=by exact om0 hi hlt
 subst e;exact .inl ⟨⟨xs,d2,Qh _⟩,hd H ys p⟩
theorem sY {xs:List V} {a:Nat} (h:a<=xs.length):iX xs (some (a:Int)) none=xs.drop a:=by
 unfold iX;rw[HT.oz,HT.lM,Nat.min_eq_left h,QP (by rw[Xd];exact om1)]
theorem wS {xs:List V} {a:Nat} (h:a<=xs.length):iX xs none (some (a:Int))=xs.take a:=by
 unfold iX;rw[HT.oz,HT.lM,Nat.min_eq_left h];simp
section
variable {X:Cx}
end
end L2
set_option maxHeartbeats 1000000
namespace L2
open PySem PySem.Spec PyProof.Rows PySem.Calls
section
variable {X:Cx}
def vR (sp:Sp) (i:Nat) (t:TA):XK->TS:=λE D U H=>t U H λvs H1=>sp vs H1 (λv H2=>D.nx (U.set i (some v)) H2) E
theorem v7 {x fn:Str} {a1:Expr} {args:List Expr} {xp np cpos epos:Pos} {f:Addr} {fd:FuncData} {ps:List Str} {k i:Nat} {sp:Sp} {t:TA} (hN:X.N.Nodup) (hi:X.N[i]?=some x) (hx:Loc X.env.scope x)
  (F:FnOk X.prog X.w X.K X.mg X.base (CX1 X.prog X.w) k f fd ps sp) (hr:Room k X.A) (hg:Gl X fn) (hm:X.mg fn=some (.ref f)) (hk:PySem.W.keepIn X.K (.ref f)=true) (hb:dY X.K fd ps []) (ha:PA X.nox (a1::args) t)
  (hdb:(fn==("__debug__" : Str))=false:=by decide) (he:starEach (a1::args) X.env=(false,eval a1 X.env)::starEach args X.env:=by rfl) (hpl:(backTo cpos (starEach args X.env)).any (·.1)=false:=by rfl)
  (hs:swapsWith (.Call (.Name fn np) (a1::args) [] cpos) (some (.Name x xp)) epos.line X.env=pure false:=by rfl) (hf:X.fn x=true\/X.env.scope.names.lookup x=some .local:=by z_go) :
  PX X [.Assign [.Name x xp] (.Call (.Name fn np) (a1::args) [] cpos) epos] (vR sp i t):=by
 intro pins s U H D E I h;refine wpAny_execs_cons (wpAny_Assign_Name ?_ hs);refine wpAny_Call_Name_kw (d9 I hg hm ?_ hdb);refine PySem.W.callWith_K (h₀:=X.base) I.ok.mod.kin hk (Xg (ha cpos pins s U H _ (I.wish _) h) (λus s1 z=>?_) λ_ _ z=>z.elim) he hpl;obtain⟨vs,H1,I1',r,q⟩:=z;have I1:Inv X pins U H1 s1:=I1'.unwish;refine⟨I1.kIn,?_⟩;have hlen:(us++[]).length=ps.length:=by rw[Xa,<-r.length];exact F.len _ _ _ _ q
 have hbb:=hb s1 us I1.kIn hlen;rw[Xa]at hbb;refine wpAny_call (codeAny_mono (F.run X.A X.stack s1 H1 ⟨us,[]⟩ us vs _ _ hr I1.env0 hbb r q) λrr s2 z=>?_)
 cases rr with
 | ok fl =>
  cases fl with
  | ret u =>
   obtain⟨v,H2,I2,rv,q2⟩:=I1.after z;exact dI I2 hN hi hx rv (λs3 I3=>wpAny_execs_nil ⟨_,H2,I3,q2⟩) hf
  | next=>exact False.elim z
  | brk=>exact False.elim z
  | cont=>exact False.elim z
 | error ev=>exact⟨H1,s1,I1,z⟩
end
def vA (sl:Array (Option Value)):Bool:=sl.toList.length==6&&sl.toList[4]?==some (some (.builtin "ValueError.__new__"))
theorem Aq {A:Type}:∀{us:List A},us.length=6->∃a0 a1 a2 a3 a4 a5,us=[a0,a1,a2,a3,a4,a5]
 | [],h=>nomatch h
 | a0::us,h=>by
  have h:us.length+1=6:=h
  cases us with
  | nil=>cases h
  | cons a1 us =>
  cases us with
  | nil=>cases h
  | cons a2 us =>
  cases us with
  | nil=>cases h
  | cons a3 us =>
  cases us with
  | nil=>cases h
  | cons a4 us =>
  cases us with
  | nil=>cases h
  | cons a5 us =>
  cases us with
  | nil=>exact⟨_,_,_,_,_,_,rfl⟩
  | cons a6 us=>cases h
def vP (K:PySem.W.Frag) (C NE:Addr):Bool:=match K.lookup C with
 | some ⟨.type "type", _,.cls cd,sl⟩=>vA sl&&cd.mro==.ref C::.ref NE::XE.iN&&!cd.hasDel
 | _=>false
def xn:Value->Bool
 | .str _ _=>true
 | _=>false
noncomputable def jO (K:PySem.W.Frag) (NE:Addr):Bool:=match K.lookup NE with
 | some ⟨_,_,.cls cd,_⟩=>(match K.lookup cd.ns with
  | some ⟨_,_,.dict es _,_⟩=>es.toList.all (λe=>xn e.key)&&(es.toList.find? λe=>e.key.isStr "__init__").isNone
  | _=>false)
 | _=>false
variable {NE C:Addr}
theorem tH {K:PySem.W.Frag} {h:Heap} (X:K.In h) (q:jO K NE=true):OwnTail h XE.iN (.ref NE::XE.iN):=by
 unfold jO at q
 split at q
 ·rename_i c0 d0 cd sl ho
  split at q
  ·rename_i c1 d1 es ep s1 hn
   rw[Xp]at q;obtain⟨q1,q2⟩:=q;refine .own (X _ _ ho) ⟨_,es,ep,X _ _ hn,rfl,λe he=>?_,λ_=>rfl⟩ ?_ .base
   ·have z:=Xi.mp q1 e (Array.mem_toList_iff.mpr he)
    cases hk:e.key with
    | str a b=>exact⟨a,b,rfl⟩
    | _=>rw[hk]at z;cases z
   unfold nsFind findBy;rw[<-Array.find?_toList,Option.isNone_iff_eq_none.mp q2];rfl
  cases q
 cases q
theorem w4 {K:PySem.W.Frag} {h:Heap} (X:K.In h) (q:vP K C NE=true) (q2:jO K NE=true):XE.XC h C "ValueError" "ValueError.__new__" (.ref NE::XE.iN) XE.iN:=by
 refine⟨?_,tH X q2⟩;unfold vP at q
 split at q
 ·rename_i dd cd sl ho
  simp only[Xp,beq_iff_eq,Bool.not_eq_true']at q;obtain⟨⟨hs,hm⟩,hdel⟩:=q;obtain⟨nm,bs,mro,ns,qn,hd,sn,sub,ab,col,del⟩:=cd;dsimp only at hm hdel;subst hm hdel;unfold vA at hs;rw[Xp,beq_iff_eq,beq_iff_eq]at hs;obtain⟨hs1,hs2⟩:=hs;obtain⟨l⟩:=sl;obtain⟨k0,k1,k2,k3,k4,k5,rfl⟩:=Aq hs1;obtain rfl:k4=some (.builtin "ValueError.__new__"):=QY hs2;exact⟨nm,qn,ns,bs,hd,sn,sub,ab,col,dd,k0,k1,k2,k3,k5,X _ _ ho⟩
 cases q
theorem vM {K:PySem.W.Frag} (q:vP K C NE=true) (q2:jO K NE=true) (kp:PySem.W.keepIn K (.ref C)=true) (kl:XE.XKl K C NE):XMk K C NE:=⟨λ_ X=>w4 X q q2,kp,kl⟩
end L2
set_option maxHeartbeats 4000000
namespace L2
open PySem PySem.Spec PyProof.Rows
structure FnMk (P:Program) (w:World) (K:PySem.W.Frag) (mg:B2) (base:Heap) (k:Nat) (f:Addr) (fd:FuncData) (ps:List Str) (sp:Sp):Prop where
 len:∀vs H Q E,sp vs H Q E->vs.length=ps.length
 run:∀(A:Around) (e:Addr) (outer:List Env) (s:Shared) (H:Hp) (args:Args) (us:List Value) (vs:List V) (Q:VK),Room k A->Env0 P w K mg base (A.mark (some (.ref e))) outer s H->BindsTo s fd args (ps.zip us)->aG vs us->sp vs H Q E0 ->
  codeAny (model P w) (A.mark (some (.ref e))) (.call (.ref f) args) (CR CX0 outer P w H s Q E0) s
structure FnM (P:Program) (w:World) (K:PySem.W.Frag) (mg:B2) (base:Heap) (x:Str) (ps:List Str) (k:Nat) (sp:Sp):Prop where
 ex:∃f fd,FnMk P w K mg base k f fd ps sp/\mg x=some (.ref f)/\PySem.W.keepIn K (.ref f)=true/\dY K fd ps []
end L2
namespace K2
open PySem L2
abbrev IvF:=Nat->St->Hp->Prop
abbrev IvC:=Nat->Hp->List V->Prop
abbrev IvJ:=St->Hp->Prop
structure ExcB (K:PySem.W.Frag) (mg:B2) (n:Str) (C NE:Addr):Prop where
 xm:XMk K C NE
 init:PySem.W.findIn K (.ref C) "__init__" = some (some (.builtin "ValueError.__init__"))
 m:mg n=some (.ref C)
def bW (C:Addr) (H H':Hp) (e:Addr):Prop:=ax H H'/\H' e=some (XO e C none false)
variable {e C NE:Addr} {H H1 H2 H':Hp}
theorem bW.pre (S:ax H H1) (r:bW C H1 H2 e):bW C H H2 e:=⟨S.trans r.1,r.2⟩
theorem eL {x:Addr} (S:ax H H') (hx:H' x=none):bW C H (upd (upd H' x (XO x C none true)) x (XO x C none false)) x:=⟨λb o e=>by
 have nbx:b≠x:=λz=>by rw[z]at e;rw[S _ _ e]at hx;cases hx
 rw[af nbx,af nbx]
 exact S _ _ e,ag⟩
variable {t:TA}
theorem iz {U:St} {Q:VK} (q:t U H λvs H1=>vs.length<=sizeLine/\∀x,H1 x=none->Q (.ref x) (upd H1 x (XO x C none true))):n9 C t U H Q:=q
structure Fn1 (P:Program) (w:World) (K:PySem.W.Frag) (mg:B2) (base:Heap) (x:Str) (ps:List Str) (k:Nat) (sp:Sp):Prop where
 ex:∃f fd,FnOk P w K mg base (CX1 P w) k f fd ps sp/\mg x=some (.ref f)/\PySem.W.keepIn K (.ref f)=true/\dY K fd ps []
theorem rE {X:Cx} {x:Str} {ps:List Str} {k:Nat} {sp:Sp} {e:Expr} {es:List Expr} {E:XK} {p pos:Pos} (F:Fn1 X.prog X.w X.K X.mg X.base x ps k sp) (hr:Room k X.A) (hg:Gl X x) (hx:eV (CX1 X.prog X.w) X E) (ha:PA X (e::es) t)
  (hdb:(x==("__debug__" : Str))=false:=by decide) (he:starEach (e::es) X.env=(false,eval e X.env)::starEach es X.env:=by rfl) (hpl:(backTo pos (starEach es X.env)).any (·.1)=false:=by rfl) :
  PE X (.Call (.Name x p) (e::es) [] pos) (ja sp [] E t):=by
 obtain⟨f,fd,G,hm,hk,hb⟩:=F.ex;exact oC G hr hg hm hk hb .nil hx ha hdb he hpl
theorem tR {X:Cx} {x fn:Str} {a1:Expr} {args:List Expr} {xp np cpos epos:Pos} {ps:List Str} {k i:Nat} {sp:Sp} (hN:X.N.Nodup) (hi:X.N[i]?=some x) (hx:Loc X.env.scope x)
  (F:Fn1 X.prog X.w X.K X.mg X.base fn ps k sp) (hr:Room k X.A) (hg:Gl X fn) (ha:PA X.nox (a1::args) t)
  (hdb:(fn==("__debug__" : Str))=false:=by decide) (he:starEach (a1::args) X.env=(false,eval a1 X.env)::starEach args X.env:=by rfl) (hpl:(backTo cpos (starEach args X.env)).any (·.1)=false:=by rfl)
  (hs:swapsWith (.Call (.Name fn np) (a1::args) [] cpos) (some (.Name x xp)) epos.line X.env=pure false:=by rfl) (hf:X.fn x=true\/X.env.scope.names.lookup x=some .local:=by z_go) :
  PX X [.Assign [.Name x xp] (.Call (.Name fn np) (a1::args) [] cpos) epos] (vR sp i t):=by
 obtain⟨f,fd,G,hm,hk,hb⟩:=F.ex;exact v7 hN hi hx G hr hg hm hk hb ha hdb he hpl hs hf
theorem wM {K:PySem.W.Frag} {i:Nat} {tb:XK->TS} {tsu:TS} {D:Ends} {U:St} (q:tb (λcls ea H2=>∃e,ea=some e/\PySem.W.exmOne K cls (.ref NE)=some true/\tsu { nx:=λσ' H'=>D.nx (σ'.set i none) H',rt:=λ_ _=>False } (U.set i (some (.ref e))) H2)
  { nx:=D.nx,rt:=λ_ _=>False } U H):uM K NE i tb tsu D U H:=q
theorem wL {sp:Sp} {i:Nat} {E:XK} {D:Ends} {U:St} (q:t U H λvs H1=>sp vs H1 (λv H2=>D.nx (U.set i (some v)) H2) E):vR sp i t E D U H:=q
structure Held6 (C:Addr) (H:Hp) (e:Addr):Prop where
 ex:∃d fr,H e=some (XO e C d fr)/\∀dx,d=some dx->∃fs,H dx=some (.xd fs)
theorem Held6.same (h:Held6 C H e) (S:ax H H'):Held6 C H' e:=let ⟨d,fr,a,b⟩:=h.ex;⟨d,fr,S _ _ a,λdx q=>let ⟨fs,z⟩:=b dx q;⟨fs,S _ _ z⟩⟩
theorem bW.held (r:bW C H H' e):Held6 C H' e:=⟨none,false,r.2,λdx q=>nomatch q⟩
theorem eP {K:PySem.W.Frag} {c:V} {Q:VK} {b:Bool} (h:Held6 C H e) (kl:XE.XKl K C NE) (hc:(∃a,c=.ref a)\/∃n,c=.ty n) (k:PySem.W.kitOne K (.ref C) (wT c)=some b) (q:Q (.bl b) H):u5 K [V.ref e,c] H Q:=by
 obtain⟨d,fr,h1,h2⟩:=h.ex;exact⟨e,C,NE,d,fr,c,b,rfl,hc,h1,h2,kl,k,q⟩
structure KindsM (mg:B2) (c0 c2 c3 c4 c5:Addr):Prop where
 m0:mg "NoStanding" = some (.ref c0)
 m2:mg "NoFit" = some (.ref c2)
 m3:mg "NoText" = some (.ref c3)
 m4:mg "NoName" = some (.ref c4)
 m5:mg "NoRow" = some (.ref c5)
 mV:mg "ValueError" = none
structure NmE (mg:B2) (CS NE:Addr):Prop where
 mS:mg "NoStep" = some (.ref CS)
 mE:mg "NetError" = some (.ref NE)
structure KinB (K:PySem.W.Frag) (C NE c0 c1 c2 c3 c4 c5:Addr):Prop where
 k0:PySem.W.kitOne K (.ref C) (.ref c0)=some (decide (C=c0))
 k1:PySem.W.kitOne K (.ref C) (.ref c1)=some (decide (C=c1))
 k2:PySem.W.kitOne K (.ref C) (.ref c2)=some (decide (C=c2))
 k3:PySem.W.kitOne K (.ref C) (.ref c3)=some (decide (C=c3))
 k4:PySem.W.kitOne K (.ref C) (.ref c4)=some (decide (C=c4))
 k5:PySem.W.kitOne K (.ref C) (.ref c5)=some (decide (C=c5))
 kV:PySem.W.kitOne K (.ref C) (.type "ValueError")=some true
 ex:PySem.W.exmOne K (.ref C) (.ref NE)=some true
 kl:XE.XKl K C NE
end K2
namespace XE
open PySem
open Sem (wp)
structure Fly (L e T:Addr) (h:Heap):Prop where
 ex:∃oe vs oT ts,h.get? e=some oe/\oe.data=.fields vs/\vs[1]?=some (.ref T)/\h.get? T=some oT/\oT.data=.fields ts/\ts[3]?=some (rawInt L)
 ne:T≠e
section
variable {M:Model} {A:Around} {E:B0} {s:Shared} {P:B0}
end
end XE
namespace L2
open PySem PySem.Spec PyProof.Rows PySem.Calls
section
variable {X:Cx} {E:XK}
end
section
variable {P:Program} {w:World} {K:PySem.W.Frag} {mg:B2} {base:Heap} {N:List Str} {qual:Str} {scope:Scope} {f:Addr} {cd:Value} {A:Around} {outer:List Env} {s:Shared} {H:Hp} {E:XK}
end
end L2
namespace L2
open PySem PySem.Spec PyProof.Rows
theorem qk:∀{x:V},bI x=true->eqV x x=true
 | .non,_=>rfl
 | .bl a,_=>by simp[eqV]
 | .int a,_=>by simp[eqV]
 | .str a,_=>by simp[eqV]
theorem l9 {A:Around} {s:Shared} {kb:List (Key × V)} {vb:List (Key × Value)} (rb:KV kb vb):∀{ka:List (Key × V)} {va:List (Key × Value)},KV ka va->(∀p∈ka,bI p.2=true/\aJ kb p.1=some p.2)->PySem.W.KeqHits A s vb va true
 | _,_,.nil,_=>.nil
 | _,_,.cons (b:=q) h t,al=>by
  obtain⟨f,e⟩:=al _ Q4;obtain⟨u,hu,ru⟩:=eU.some_of (by rw[<-e];exact rb.val _);have:=iD (A:=A) (s:=s) h.2 ru f f;rw[qk f]at this;rw[h.1]at hu;exact .hit (e:=true) (b:=true) hu this (l9 rb t λp hp=>al p (Qs _ hp))
section
variable {X:Cx}
end
def u3:R2:=λx y H Q=>∃a b ka kb,x=.ref a/\y=.ref b/\H a=some (.dK ka)/\H b=some (.dK kb)/\ka.length=kb.length/\(∀p∈ka,bI p.2=true/\aJ kb p.1=some p.2)/\Q (.bl false) H
section
variable {X:Cx}
theorem tU (hu:X.A.units+64<cLine):OpR X (compareOp .NotEq) u3:=by
 intro pins s U H x y v u Q I rx ry h;obtain⟨a,b,ka,kb,rfl,rfl,ha,hb,hl,al,q⟩:=h;cases rx;cases ry;obtain⟨_,sa,va,ra,da⟩:=mB I.hok ha;obtain⟨_,sb,vb,rb,db⟩:=mB I.hok hb;refine PySem.W.keq_ne (r:=true) sa sb da db (by omega) (λ_=>l9 rb ra al) ?_;have l1:=ra.length;have l2:=rb.length;rw[<-l1,<-l2,hl,beq_self_eq_true];exact⟨.bl false,H,I,rfl,q⟩
def u0:R2:=λx y H Q=>rNe x y H Q\/u3 x y H Q
theorem kH (hu:X.A.units+64<cLine):OpR X (compareOp .NotEq) u0:=OpR.or u9 (tU hu)
def tQ (K:PySem.W.Frag):V->List V->Hp->VK->Prop:=λx vs H Q=>∃(l:Addr) (bs:List Bool),x=.ref l/\vs=[.bl true]/\H l=some (.lst (bs.map V.bl))/\Q (.int (bs.count true:Nat)) H
def sC:Value->Bool
 | .bool b=>b
 | _=>false
theorem f7:∀{bs:List Bool} {its:List Value},aG (bs.map V.bl) its->its.countP sC=bs.count true/\∀v∈its,∃b,v=.bool b
 | [],_,r=>by
  rw[List.map_nil]at r;cases r;exact⟨rfl,λv h=>nomatch h⟩
 | x::xs,_,r=>by
  rw[QL]at r
  cases r with
  | cons r1 r2 =>
  obtain⟨h1,h2⟩:=f7 r2;cases r1;refine⟨?_,λv hv=>?_⟩
  ·rw[List.countP_cons,List.count_cons,h1];cases x <;> rfl
  rcases Qu.mp hv with e|e
  ·exact⟨_,e⟩
  exact h2 v e
theorem pX (hu:X.A.units+64<cLine):MtR X "list.count" (tQ X.K):=by
 intro pins s U H x vs v us Q I rx rv h;obtain⟨l,bs,rfl,rfl,hH,q⟩:=h;cases rx;obtain⟨u,rfl,ru⟩:=dE rv;have ru':=ru;cases ru;obtain⟨z,its,n,r,hl,e⟩:=I.lstM hH;have cb:=f7 r;have hu':X.A.in1.units+8<cLine:=show X.A.units+1+8<cLine by omega
 refine call_meets F.slot_list_count ⟨_,e,rfl⟩ F.entry_list_count (F.args_list_count_2 _ _) (SeqAt.list_countAt l its.toArray n _ _ (.bool true) sC) ⟨e,λw hw=>?_,?_⟩
 ·obtain⟨b,rfl⟩:=cb.2 w (by simpa using hw);have:=iD (A:=X.A.in1) (s:=s) (show aF (.bl b) (.bool b) from rfl) ru' rfl rfl;have e:eqV (.bl b) (.bl true)=sC (.bool b):=by cases b <;> rfl
  rw[e]at this;exact this
 exact⟨.int (bs.count true:Nat),H,I.tok _,⟨s.toks,by rw[<-cb.1]⟩,q⟩
def tP (K:PySem.W.Frag):V->List V->Hp->VK->Prop:=λx vs H Q=>∃(l:Addr) (bs:List Bool) (j:Nat),x=.ref l/\vs=[.bl true]/\H l=some (.lst (bs.map V.bl))/\bs[j]?=some true/\(∀m,m<j->bs[m]?≠some true)/\bs.length<=100000/\Q (.int (j:Nat)) H
theorem pW (hu:X.A.units+64<cLine):MtR X "list.index" (tP X.K):=by
 intro pins s U H x vs v us Q I rx rv h;obtain⟨l,bs,j,rfl,rfl,hH,hj,no,hz,q⟩:=h;cases rx;obtain⟨u,rfl,ru⟩:=dE rv;have ru':=ru;cases ru;obtain⟨z,its,n,r,hl,e⟩:=I.lstM hH;have cb:=f7 r;have len:its.length=bs.length:=by have:=r.length;rw[Qa]at this;exact this.symm
 have hjl:=(Qc.mp hj).1
 have get:∀m (hm:m<its.length),∃b,bs[m]?=some b/\its[m]=.bool b:=λm hm=>by
  have hm2:m<(bs.map V.bl).length:=by rw[Qa];omega
  obtain⟨w,hw,rw'⟩:=r.get (Qb hm2);rw[Qb hm]at hw;cases hw;rw[List.getElem_map]at rw';have hm3:m<bs.length:=by omega
  refine⟨bs[m],Qb hm3,?_⟩;generalize its[m]=y at rw';cases rw';rfl
 refine call_meets F.slot_list_index ⟨_,e,rfl⟩ F.entry_list_index (F.args_list_index_2 _ _) (SeqAt.list_indexAt l its.toArray n _ _ (.bool true) sC j (by simpa[len] using hjl) (by omega) ?_ (λm hm hmj=>?_)) ⟨e,λw hw=>?_,?_⟩
 ·obtain⟨b,hb,eb⟩:=get j (by omega);rw[hj]at hb;cases hb;rw[List.getElem_toArray,eb];rfl
 ·have hm':m<its.length:=by simpa using hm
  obtain⟨b,hb,eb⟩:=get m hm';rw[List.getElem_toArray,eb]
  cases b with
  | false=>rfl
  | true=>exact absurd hb (no m hmj)
 ·obtain⟨b,rfl⟩:=cb.2 w (by simpa using hw);have:=iD (A:=X.A.in1) (s:=s) (show aF (.bl b) (.bool b) from rfl) ru' rfl rfl;have e:eqV (.bl b) (.bl true)=sC (.bool b):=by cases b <;> rfl
  rw[e]at this;exact this
 exact⟨.int (j:Nat),H,I.tok _,⟨_,rfl⟩,q⟩
end
section
variable {X:Cx} {o e:Expr} {apos cpos:Pos} {ty:TE} {T:Addr}
end
section
variable {K:PySem.W.Frag} {g:TG} {te:TE} {σ0:St} {QD:Hp->Prop} {H1:Hp} {D:Addr}
end
section
variable {X:Cx}
def AJ (K:PySem.W.Frag) (te:TE):TE:=λU H Q=>te U H λx H1=>∃a xs,x=.ref a/\SqL K H1 a xs/\∀p,H1 p=none->Q (.ref p) (upd H1 p (.lst xs.reverse))
theorem wa {e st:Expr} {te ts:TE} {p2 pos:Pos} (he:PE X e te) (hst:PE X st ts) (h1:∀U H (Q:VK),Q (.int (-1)) H->ts U H Q):PE X (.Subscript e (.Slice none none (some st) p2) pos) (AJ X.K te):=by
 intro pins s U H Q I h;refine Subscript_ (thn (he pins s U H _ I h) λv s1 ⟨x,H1,I1,r1,q1⟩=>?_);refine wpAny_Slice ?_;rw[evalPart_none];refine QJ ?_;refine QJ ?_;rw[evalPart_some];refine thn (hst pins s1 U H1 (λy H2=>y=.int (-1)/\H2=H1) I1 (h1 _ _ _ ⟨rfl,rfl⟩)) λvk s3 ⟨y,H3,I3,r3,e1,e2⟩=>?_;subst e1 e2;obtain⟨t,rfl⟩:=r3;obtain⟨a,xs,rfl,hx,q⟩:=q1;cases r1;have I4:Inv X pins U H3 { s3 with heap:=s3.heap.push { cls:=.type "slice", data:=.fields #[.none,.none,.int (-1) t] } }:=I3.kept (t':=s3.toks) λb ob q=>Qf _ q;obtain⟨its,r,ht,hz⟩:=I4.list hx;have hlen:=r.length;refine tail_any (ops:=[.ref a,.ref s3.heap.objs.size]) ht.isList.typeIs slot_list_getitem.lookup ?_ (by with_unfolding_all rfl);refine wpAny_getItem_list_slice ht.isList (Heap.IsSliceOf.new ..) .none .none (.int _ _) (by decide) ?_ (by rw[Qg] <;> exact om4 hz hlen);rw[PySem.W.krv_pick];refine⟨.ref (s3.heap.push { cls:=.type "slice", data:=.fields #[.none,.none,.int (-1) t] }).objs.size,_,I4.laid (t':=s3.toks) (o:=.lst xs.reverse) (λb ob q=>Qf _ q) (Qh _) ?_,rfl,q _ (I4.hok.fresh (Qh _))⟩;exact⟨by rw[List.length_reverse];exact hz,_,0,r.reverse,QS _ rfl⟩
end
section
variable {K:PySem.W.Frag} {g:TG} {te:TE} {tt:TT} {σ0:St} {QD:Hp->Prop} {H1:Hp} {D:Addr}
end
section
variable {X:Cx}
end
end L2
namespace K2
open PySem L2
variable {X:Cx}
theorem uq {K:PySem.W.Frag} (h:X.K=K):IxR X (pG K):=by subst h;exact aW
variable {Q:VK} {H H' H1 H2:Hp} {U:St} {td ty tx tv tl:TE}
theorem uw (q:td U H λx H1=>∃a,x=.ref a/\IsD H1 a/\ty U H1 λy H2=>tx U H2 λz H3=>∃kvs k,H3 a=some (.dK kvs)/\y=kV k/\(∀v,aJ kvs k=some v->Q v H3)/\(aJ kvs k=none->kvs.length<sizeLine/\Q z (upd H3 a (.dK (be kvs k z))))):qJ td ty tx U H Q:=q
theorem df {D:Ends} (q:tv U H λv H1=>td U H1 λx H2=>ty U H2 λy H3=>∃a H4,x=.ref a/\eX H3 a y v H4/\D.nx U H4):uW td ty tv D U H:=q
theorem vE (q:ty U H λy H1=>td U H1 λx H2=>∃a o,x=.ref a/\cq H2 a y o/\Q (.bl o.isSome) H2):xj ty td U H Q:=q
theorem mh (q:ty U H λy H1=>td U H1 λx H2=>∃a o,x=.ref a/\cq H2 a y o/\Q (.bl (!o.isSome)) H2):oh ty td U H Q:=q
theorem ux (q:td U H λx H1=>∃a,x=.ref a/\IsD H1 a/\ty U H1 λy H2=>∃o,cq H2 a y o/\Q (o.getD .non) H2):qK td ty U H Q:=q
theorem xq {t:TS} {D:Ends} {a:Addr} {u:HO} (r:Rd H a u) (f:Fz u) (q:∀o,t (uL D H a o u) U (upd H a (.frz o u))):xg t D U H:=⟨a,u,r,f,q⟩
theorem tM {R:It->Hp->Prop} (q:tl U H λx H1=>∃a o kvs,x=.ref a/\H1 a=some (.frz o (.dK kvs))/\R (Itd a o kvs) H1):sK tl U H R:=q
theorem l_ {K:PySem.W.Frag} (h:X.K=K):IxR X (lP K):=by subst h;exact aM
variable {env:Env} {es a:List Expr} {p pos:Pos}
theorem se_tup {n:Nat}:starEach (.Tuple a n p::es) env=(false,eval (.Tuple a n p) env)::starEach es env:=by rfl
theorem se_lst:starEach (.List a p::es) env=(false,eval (.List a p) env)::starEach es env:=by rfl
theorem se_call {f:Expr} {k:List Keyword}:starEach (.Call f a k p::es) env=(false,eval (.Call f a k p) env)::starEach es env:=by rfl
theorem ay {c:Const} {n:Nat}:starEach (.Constant c n p::es) env=(false,eval (.Constant c n p) env)::starEach es env:=by rfl
theorem ad {x:Str}:starEach (.Name x p::es) env=(false,eval (.Name x p) env)::starEach es env:=by rfl
theorem se_bin {a b:Expr} {o:Operator}:starEach (.BinOp a o b p::es) env=(false,eval (.BinOp a o b p) env)::starEach es env:=by rfl
theorem se_sub {a b:Expr}:starEach (.Subscript a b p::es) env=(false,eval (.Subscript a b p) env)::starEach es env:=by rfl
structure Txt (K:PySem.W.Frag) (mg:B2) (TT:Addr):Prop where
 n_len:mg "len" = none
 n_range:mg "range" = none
 n_max:mg "max" = none
 n_min:mg "min" = none
 n_int:mg "int" = none
 n_list:mg "list" = none
 n_str:mg "str" = none
 n_isinstance:mg "isinstance" = none
 n_all:mg "all" = none
 n_set:mg "set" = none
 n_dict:mg "dict" = none
 n_enumerate:mg "enumerate" = none
 n_sorted:mg "sorted" = none
 n_tuple:mg "tuple" = none
 n_bool:mg "bool" = none
 n_zip:mg "zip" = none
 n_reversed:mg "reversed" = none
 mWIRES:∃t,mg "MOST_WIRES" = some (.int 5 t)
 tURNED:mg "TURNED" = some (.ref TT)
 tab:qI K TT [("0", .flat (.str "1")),("1", .flat (.str "0"))]
structure Dk where
 d:Addr
def Dk.own (D:Dk) (b:Addr):Prop:=b=D.d
def Dk.At (D:Dk) (H:Hp):Prop:=∃xs:List Int,H D.d=some (.lst (xs.map V.int))
structure Kp (D:Dk) (H H':Hp):Prop where
 old:∀b o,H b=some o->¬D.own b->H' b=some o
 dk:D.At H'
def pf (H H':Hp):Prop:=∀b xs,H b=some (.tup xs)->H' b=some (.tup xs)
variable {D:Dk}
theorem Dk.At.same (S:ax H H') (h:D.At H):D.At H':=let ⟨xs,e⟩:=h;⟨xs,S _ _ e⟩
theorem Kp.of (h:D.At H) (S:ax H H'):Kp D H H':=⟨λb o e _=>S b o e,h.same S⟩
theorem Kp.trans (a:Kp D H H1) (b:Kp D H1 H2):Kp D H H2:=⟨λc o e n=>b.old c o (a.old c o e n) n,b.dk⟩
theorem Kp.tups (DA:D.At H) (k:Kp D H H'):pf H H':=λb xs e=>k.old b _ e λz=>by
 obtain⟨ys,q⟩:=DA;cases z;rw[q]at e;cases e
variable {o:HO}
theorem Kp.fresh {L:Addr} (DA:D.At H) (hL:H L=none) (k:Kp D H H'):Kp D H (upd H' L o):=by
 obtain⟨a0,e0⟩:=DA;obtain⟨a,e⟩:=k.dk;exact⟨λb u e nb=>by rw[af (ai e hL)];exact k.old b u e nb,⟨a,by rw[af (ai e0 hL)];exact e⟩⟩
theorem Kp.new {p:Addr} (k:Kp D H H') (hp:H' p=none):Kp D H (upd H' p o):=k.trans (Kp.of k.dk (aq hp))
theorem Kp.free {l:Addr} (k:Kp D H H') (h:H' l=none):H l=none:=by
 cases e:H l with
 | none=>rfl
 | some o =>
 exfalso;by_cases c:D.own l
 ·obtain⟨a,q⟩:=k.dk;cases c;rw[q]at h;cases h
 rw[k.old l o e c]at h;cases h
theorem av {p:Addr} (DA:D.At H) (hp:H p=none):¬D.own p:=λz=>by
 obtain⟨a,e⟩:=DA;cases z;rw[e]at hp;cases hp
structure StOk (n:Nat) (z:Str):Prop where
 len:z.cps.size=n
 signs:∀c∈z.cps.toList,c=48\/c=49
theorem eG {K:PySem.W.Frag} (h:X.K=K):cO X (.builtin "len") (λxs H Q=>∃p ys,xs=[.ref p]/\(SqL K H p ys\/SqT K H p ys)/\Q (.int ys.length) H):=by subst h;exact ao
theorem iZ {K:PySem.W.Frag} (h:X.K=K):cO X (.type "list") (λxs H Q=>∃p ys,xs=[.ref p]/\(SqL K H p ys\/SqT K H p ys)/\∀l,H l=none->Q (.ref l) (upd H l (.lst ys))):=by subst h;exact dB
theorem nB {K:PySem.W.Frag} (h:X.K=K):OpR X (compareOp .In) (rIn K false):=by subst h;exact fU
theorem rm {K:PySem.W.Frag} {tg l:Expr} (h:X.K=K) (hl:PE X l tl):PI X tg l (ml K tl):=by subst h;exact bK hl
theorem kD {K:PySem.W.Frag} {k:Nat} {t:TGs} {n:Nat} (hK:X.K=K) (hc:X.calm=true) (h:PGs X es t)
  (hn:(assignEach es X.env).length=n:=by rfl) (hst:(assignEach es X.env).findIdx? (·.1)=none:=by rfl):PG X (.Tuple es k pos) (uB K n t):=by subst hK;exact fR hc h hn hst
theorem cW {A B:TS} {D:Ends} (J:St->Hp->Prop) (h:∀(R:St->Hp->Prop),(∀U H,J U H->R U H)->A { D with nx:=R } U H) (hJ:∀U H,J U H->B D U H):tI A B D U H:=h (B D) hJ
theorem f6 {α β:Type} (f:α->β):∀(xs:List α) (k:Nat),(xs.map f).eraseIdx k=(xs.eraseIdx k).map f
 | [],_=>rfl
 | _::_,0=>rfl
 | x::xs,k+1=>by
  rw[QL,List.eraseIdx_cons_succ,List.eraseIdx_cons_succ,QL,f6 f xs k]
theorem dQ {a b:Addr} (h1:H a=some o) (h2:H b=none):b≠a:=λz=>by rw[z,h1]at h2;cases h2
theorem b0 {α β:Type} {F:α->β->Prop}:∀{xs:List α} {ys:List β} {x:α} {y:β},Paired F xs ys->F x y->Paired F (xs++[x]) (ys++[y])
 | _,_,_,_,.nil,h=>.cons h .nil
 | _,_,_,_,.cons h t,g=>.cons h (b0 t g)
theorem aE {α β:Type} {F G:α->β->Prop} (h:∀a b,F a b->G a b):∀{xs:List α} {ys:List β},Paired F xs ys->Paired G xs ys
 | _,_,.nil=>.nil
 | _,_,.cons a t=>.cons (h _ _ a) (aE h t)
theorem paired_get {α β:Type} {F:α->β->Prop}:∀{xs:List α} {ys:List β} {i:Nat} {x:α},Paired F xs ys->xs[i]?=some x->∃y,ys[i]?=some y/\F x y
 | _,_,_,_,.nil,e=>by simp at e
 | _,_,0,_,.cons r _,e=>by simp at e;subst e;exact⟨_,rfl,r⟩
 | _,_,i+1,x,.cons _ t,e=>by
  obtain⟨u,h1,h2⟩:=paired_get (i:=i) (x:=x) t (by simpa using e);exact⟨u,by simpa using h1,h2⟩
theorem bO {α β:Type} {F:α->β->Prop}:∀{xs:List α} {ys:List β} {i:Nat} {y:β},Paired F xs ys->ys[i]?=some y->∃x,xs[i]?=some x/\F x y
 | _,_,_,_,.nil,e=>by simp at e
 | _,_,0,_,.cons r _,e=>by simp at e;subst e;exact⟨_,rfl,r⟩
 | _,_,i+1,y,.cons _ t,e=>by
  obtain⟨u,h1,h2⟩:=bO (i:=i) (y:=y) t (by simpa using e);exact⟨u,by simpa using h1,h2⟩
theorem ifT {c:Bool} {A B:Prop} (hc:c=true) (h:A):if c=true then A else B:=by rw[Qv hc];exact h
theorem ifF {c:Bool} {A B:Prop} (hc:c=false) (h:B):if c=true then A else B:=by subst hc;exact iteF h
theorem bq {D:Addr} (S:ax H H') (hD:H D=none):ax H (upd H' D o):=λb u e=>by rw[af (ai e hD)];exact S b u e
theorem aj {p:Addr} (h:H p=none) (e:upd H p o=H'):ax H H'/\H' p=some o:=by
 subst e;exact⟨aq h,ag⟩
theorem aL {α β:Type} {F:α->β->Prop}:∀{xs:List α} {ys:List β},Paired F xs ys->xs.length=ys.length
 | _,_,.nil=>rfl
 | _,_,.cons h t=>by simp[aL t]
end K2
namespace K2
open PySem L2
abbrev SqLofQ:=@SqL.of
abbrev i_consQ:=@bg
abbrev i_ixLQ:=@bx
abbrev i_nilQ:=@bv
abbrev i_opQ:=@bY
abbrev i_varQ:=@ap
abbrev pa_consQ:=@aa
abbrev pa_nilQ:=@ae
abbrev pe_intQ:=@ah
abbrev pe_strQ:=@aQ
abbrev s_nameQ:=@aw
abbrev se_conQ:=@ay
abbrev se_nameQ:=@ad
local macro_rules | `(tactic| walk_at "vc") => `(tactic| first
 | ((refine' (?zz : (?zA → ?zG) → ?zA → ?zG) ?zr ?_); (case zr => with_reducible exact s_seqT); (case zz => exact fun _ q => q); intro D') | ((refine' (?zz : (?zA → ?zG) → ?zA → ?zG) ?zr ?_); (case zr => with_reducible first | exact s_asg | exact s_drop | exact s_ret | exact s_if | exact s_sub | exact s_next | exact i_c | exact i_opQ | exact i_test | exact i_tB | exact i_and | exact i_or | exact i_not | exact i_andV | exact i_orV | exact i_notV | exact i_ifE | exact i_nilQ | exact i_consQ | exact i_cb | exact i_tup | exact i_lst | exact i_bm | exact i_sl | exact i_nopart | exact i_part | exact s_for | exact s_rng1 | exact s_list | exact s_str | exact i_dget | exact i_yes | exact i_un); (case zz => exact fun _ q => q))   | (with_reducible refine s_nameQ ?_)
 | ((with_reducible refine' i_varQ ?hv ?_); (case hv => exact rfl))   | (with_reducible first | refine i_rI0 ?_ | refine i_call ?_ | refine s_strI ?_ | refine iteF ?_ | refine iteT ?_ | refine i_rU ?_)
 | ((with_reducible show ∃ i, V.int _ = V.int i ∧ _); (refine ⟨_, rfl, ?_⟩)) | ((with_reducible show ∃ k, V.bl _ = V.bl k ∧ _); (refine ⟨_, rfl, ?_⟩)) | ((with_reducible show (∃ i, [V.bl _] = [V.int i] ∧ _) ∨ _); (refine Or.inr ⟨_, rfl, ?_⟩))
 | ((with_reducible refine' i_ixLQ ?ha ?hb ?_); (case ha => exact SqLofQ (by assumption)); (case hb => exact rfl)) | ((with_reducible refine' i_ixT ?ha ?hb ?_); (case ha => assumption); (case hb => exact rfl))
 | ((with_reducible show ∃ p _, [V.ref _] = [V.ref p] ∧ (SqL _ _ _ _ ∨ SqT _ _ _ _) ∧ _); (refine' ⟨_, _, rfl, Or.inl (SqLofQ ?ha), ?_⟩); (case ha => assumption)) | ((with_reducible refine' s_setL ?ha ?hb ?_); (case ha => assumption); (case hb => exact rfl))
 | ((with_reducible refine' i_eq ?ha ?_); (case ha => exact rfl)) | ((with_reducible refine' i_ne ?ha ?_); (case ha => exact rfl))
 | ((with_reducible show ∃ z, V.str _ = V.str z ∧ _); (refine ⟨_, rfl, ?_⟩))
 | ((with_reducible refine' i_rI ?hv ?_); (case hv => first | decide | (dsimp only; omega) | exact .inl ⟨by omega, by omega⟩ | exact .inr ⟨by omega, by omega⟩ | exact ⟨by decide, by decide⟩ | exact ⟨by decide, by decide, by decide⟩ | exact ⟨by omega, by omega⟩))
 | ((with_reducible show ∃ i, [V.int _] = [V.int i] ∧ _); (refine ⟨_, rfl, ?_⟩))
 | ((with_reducible show tyV _ "list" _ _ ∧ _); (refine' ⟨i_tyL ?ha, ?_⟩); (case ha => assumption)))
local macro_rules | `(tactic| walk_at "p") => `(tactic| repeat' (with_reducible first | (refine' pss_one ?_; rotate_left 1) | (refine' pss_cons ?_ ?_; rotate_left 2) | exact pss_nil | (refine' ps_if ?_ ?_ ?_; rotate_left 3)))
local macro_rules | `(tactic| walk_at "b") => `(tactic| (refine' pss_cons ?_ ?_; rotate_left 2; walk_at "p"))
local macro_rules | `(tactic| walk_at "f") => `(tactic| (refine' ps_for PassesOwn.never rfl ?_ ?_ ?_ (fun _ => rfl); rotate_left 3))
local macro_rules | `(tactic| walk_at "q") => `(tactic| repeat' (with_reducible first | exact pe_strQ | exact pe_intQ | exact pa_nilQ | (refine' pe_tup ?_; rotate_left 1) | (refine' pe_lst ?_; rotate_left 1) | (refine' pa_consQ ?_ ?_ se_conQ; rotate_left 2) | (refine' pa_consQ ?_ ?_ se_tup; rotate_left 2) | (refine' pa_consQ ?_ ?_ se_nameQ; rotate_left 2) | (refine' pa_consQ ?_ ?_ se_sub; rotate_left 2) | (refine' pa_consQ ?_ ?_ se_bin; rotate_left 2) | (refine' pa_consQ ?_ ?_ se_lst; rotate_left 2) | (refine' pa_consQ ?_ ?_ se_call; rotate_left 2) | (refine' pa_consQ ?_ ?_ se_lc; rotate_left 2)))
local macro_rules | `(tactic|room) => `(tactic| (intro vs H Q E h; repeat (first | (obtain ⟨e, _⟩ := h; subst e; rfl) | (obtain ⟨_, h⟩ := h))))
local macro_rules | `(tactic|x_go) => `(tactic| ((try dsimp only [cxOf, Cx.nox, Cx.wish]); (conv in (L2.start _ _) => simp only [L2.start, QL, List.map_nil, Xh, List.length_nil, List.replicate_succ, List.replicate_zero, List.cons_append, List.nil_append, Nat.reduceAdd, Nat.reduceSub]); have big : 100000 < sizeLine := by decide))
local macro_rules | `(tactic|kt_k) => `(tactic| (with_reducible first | refine s_seq ?_ | refine s_if ?_ | refine s_next ?_ | refine i_or ?_ | refine s_nameQ ?_ | refine s_ret ?_))
local macro_rules|`(tactic|lk)=>`(tactic|repeat walk_at "vc")
local macro_rules|`(tactic|fin2)=>`(tactic|exact⟨rfl,rfl,rfl,by decide +kernel,rfl,by decide +kernel,by decide +kernel⟩)
def sg (b:Bool):V:=if b then .str "1" else .str "0"
variable {i n j m to:Nat} {z x y:Str}
theorem ou (st:StOk n z) (hi:i<n):gc z i=sg (z.cps.getD i 0==49):=by
 have hl:=st.len;have e:z.cps.getD i 0=z.cps[i]'(by omega):=by simp[Array.getD,hl,hi]
 have:z.cps.getD i 0=48\/z.cps.getD i 0=49:=by
  rw[e];exact st.signs _ (by simp)
 unfold gc;rcases this with e|e
 ·rw[e];decide +kernel
 rw[e];decide +kernel
def bH (z:Str) (i:Nat):Str:=if (z.cps.getD i 0==49)=true then "0" else "1"
def dF (z:Str) (i:Nat):Str:=(Txt.slice z none (some (i:Int))++bH z i)++Txt.slice z (some ((i:Int)+1)) none
def dJ:Sp:=λvs H Q _=>∃(z:Str) (n i:Nat),vs=[.str z,.int (i:Int)]/\StOk n z/\i<n/\n<=11/\Q (.str (dF z i)) H
variable {P:Program} {w:World} {K:PySem.W.Frag} {mg:B2} {base:Heap} {TT:Addr}
section
theorem fH {n:Nat} {z:Str} (st:StOk n z) {i:Nat} (hi:i<n):atI z.cps.toList ((i:Nat):Int)=some (z.cps.getD i 0):=by
 have hl:=st.len;refine aU ?_;simp[Array.getD,hl,hi]
theorem jY:FnScope ["standing", "place"] ["standing", "place"] (ak (top 10)):=by fin2
theorem pP {f:Addr} {fd:FuncData} (Fu:Fun K "turned_at" "turned_at" (top 10) f fd) (T:Txt K mg TT):FnOk P w K mg base CX0 1 f fd ["standing", "place"] dJ:=by
 have S:=jY;refine Fu.ok S (by room) (λcdv A outer s H vs Q E hr h=>?_);obtain⟨z,n,i,rfl,st,hi,hn,k⟩:=h;refine⟨_,(pss_one (aN (aA dj (aA dj (cM jV (pv 0) di (dh (pv 1))) (au (oS T.tab) (cH (v:=.ref TT) (by rfl) T.tURNED rfl) (au dS (pv 0) (pv 1)))) (cM jV (pv 0) (dh (aA bX (pv 1) ah)) di)))),?_⟩;x_go;have hz:z.length=n:=st.len;have big:1000<sizeLine:=by decide
 lk;have s1:=Txt.slice_le z none (some (i:Int));have s2:=Txt.slice_le z (some ((i:Int)+1)) none
 have fl:(bH z i).length=1:=by
  unfold bH
  split
  ·decide +kernel
  decide +kernel
 refine oX (by omega) ?_;refine bY (i_c ?_);refine bY (ap rfl (ap rfl (mf (by omega) (fH st hi) ?_)));have e:=ou st hi;unfold gc at e;rw[e]
 have step:∀(b:Bool) (G:VK),G (.str (if b=true then "0" else "1")) H->gF TT (.ref TT) (sg b) H G:=λb G g=>by
  cases b
  ·exact⟨rfl,.inl ⟨rfl,g⟩⟩
  exact⟨rfl,.inr ⟨rfl,g⟩⟩
 refine step _ _ ?_;show ∃i_1 j,V.str _=V.str i_1/\V.str (bH z i)=V.str j/\_;have l1:(Txt.slice z none (some (i:Int))++bH z i).length=(Txt.slice z none (some (i:Int))).length+(bH z i).length:=Xr;refine⟨_,_,rfl,rfl,by omega,?_⟩;lk;refine oX (by omega) ?_;exact⟨_,_,rfl,rfl,by rw[l1];omega,k⟩
theorem lJ:FnScope ["signs", "at"] ["signs", "at"] (ak (top 33)):=by fin2
theorem uc {f:Addr} {fd:FuncData} (Fu:Fun K "_law_flip" "_law_flip" (top 33) f fd) (T:Txt K mg TT):FnOk P w K mg base CX0 1 f fd ["signs", "at"] dJ:=by
 have S:=lJ;refine Fu.ok S (by room) (λcdv A outer s H vs Q E hr h=>?_);obtain⟨z,n,i,rfl,st,hi,hn,k⟩:=h;refine⟨_,(pss_one (aN (aA dj (aA dj (cM jV (pv 0) di (dh (pv 1))) (au dS aQ (bZ eI (by rfl) T.n_int PyProof.Rows.boot_int (aa (au dS (pv 0) (pv 1)) ae)))) (cM jV (pv 0) (dh (aA bX (pv 1) ah)) di)))),?_⟩;x_go;have hz:z.length=n:=st.len;have big:1000<sizeLine:=by decide
 lk;have s1:=Txt.slice_le z none (some (i:Int));have s2:=Txt.slice_le z (some ((i:Int)+1)) none
 have fl:(bH z i).length=1:=by
  unfold bH
  split
  ·decide +kernel
  decide +kernel
 refine oX (by omega) ?_;refine bY (i_c ?_);refine i_cb (bg (bY (ap rfl (ap rfl (mf (by omega) (fH st hi) ?_)))));refine bv ?_
 have step:∀(G:VK),G (.str (bH z i)) H->(λxs H Q=>∃z n,xs=[V.str z]/\PySem.intText? z=some n/\z.length<=640/\Q (V.int n) H) [V.str ⟨#[z.cps.getD i 0]⟩] H (λy H2=>tO (V.str "10") y H2 G):=λG g=>by
  have sgns:z.cps.getD i 0=48\/z.cps.getD i 0=49:=by
   have hl:=st.len;have e:z.cps.getD i 0=z.cps[i]'(by omega):=by simp[Array.getD,hl,hi]
   rw[e];exact st.signs _ (by simp)
  have ef:bH z i=if (z.cps.getD i 0==49)=true then ("0" : Str) else ("1" : Str):=rfl;rcases sgns with e|e
  ·rw[e];rw[e]at ef;refine⟨_,0,rfl,by decide +kernel,by decide,?_⟩;refine⟨"10", 0,49,rfl,rfl,by decide,by decide +kernel,?_⟩;rw[show (⟨#[49]⟩:Str) = "1" by decide +kernel,show ("1" : Str)=bH z i from by rw[ef];rfl];exact g
  rw[e];rw[e]at ef;refine⟨_,1,rfl,by decide +kernel,by decide,?_⟩;refine⟨"10", 1,48,rfl,rfl,by decide,by decide +kernel,?_⟩;rw[show (⟨#[48]⟩:Str) = "0" by decide +kernel,show ("0" : Str)=bH z i from by rw[ef];rfl];exact g
 refine step _ ?_;have l1:(Txt.slice z none (some (i:Int))++bH z i).length=(Txt.slice z none (some (i:Int))).length+(bH z i).length:=Xr;refine⟨_,_,rfl,rfl,by omega,?_⟩;lk;refine oX (by omega) ?_;exact⟨_,_,rfl,rfl,by rw[l1];omega,k⟩
end
theorem iC {xs:Array Nat}:∀(j a:Nat),a+j<=xs.size->((List.range j).map λk=>a+k).filterMap (xs[·]?)=(xs.toList.drop a).take j
 | 0,a,_=>by simp
 | j+1,a,h=>by
  rw[List.range_succ,Qr,List.filterMap_append,iC j a (by omega),Xo];have e:(xs.toList.drop a)[j]?=xs[a+j]?:=by rw[List.getElem?_drop];simp
  rw[e];have q:xs[a+j]?=some (xs[a+j]'(by omega)):=by rw[Array.getElem?_eq_getElem]
  simp[q]
theorem gW {a b:Nat} {lo hi:Option Int} (hl:PySem.Builtin.Str.strSliceIndices lo hi 1 z.length=(List.range (b-a)).map λk=>a+k) (hb:b<=z.cps.size) (hab:a<=b):(Txt.slice z lo hi).cps.toList=(z.cps.toList.drop a).take (b-a):=by
 unfold Txt.slice;rw[hl]
 split
 ·rename_i h
  have h:b-a=z.length:=by simpa using h
  have h':z.length=z.cps.size:=rfl;have a0:a=0:=by omega
  subst a0;rw[List.drop_zero,QP (by rw[QC];omega)]
 exact iC (b-a) a (by omega)
theorem qY {z:Str} {j:Nat} (h:j<=z.cps.size):(Txt.slice z none (some (j:Int))).cps.toList=z.cps.toList.take j:=by
 have h':z.length=z.cps.size:=rfl;refine(gW (a:=0) (b:=j) ?_ h (Q5 _)).trans (by simp);unfold PySem.Builtin.Str.strSliceIndices sliceRange
 have e:max 0 (min (if (j:Int)<0 then (j:Int)+z.length else (j:Int)) (z.length:Int))=(j:Int):=by
  rw[Qz (Int.not_lt.mpr (Int.natCast_nonneg _)),Int.min_eq_left (show _<=(z.length:Int) from Int.ofNat_le.mpr h),Int.max_eq_right (Int.natCast_nonneg _)]
 simp only[show (1:Int)>0 from by decide,if_true,e]
 have c:(if (0:Int)<(j:Int) then ((j:Int)-0+1-1) / 1 else 0).toNat=j-0:=by
  rw[Int.ediv_one,Int.add_sub_cancel,Int.sub_zero,Nat.sub_zero]
  split
  ·rfl
  omega
 rw[c];refine List.map_congr_left λk _=>?_;omega
theorem nk {z:Str} {a:Nat} (h:a<=z.cps.size):(Txt.slice z (some (a:Int)) none).cps.toList=z.cps.toList.drop a:=by
 have h':z.length=z.cps.size:=rfl;refine(gW (a:=a) (b:=z.cps.size) ?_ (Qh _) h).trans (by rw[QP (by rw[Xd,QC];omega)]);unfold PySem.Builtin.Str.strSliceIndices sliceRange
 have e:max 0 (min (if (a:Int)<0 then (a:Int)+z.length else (a:Int)) (z.length:Int))=(a:Int):=by
  rw[Qz (Int.not_lt.mpr (Int.natCast_nonneg _)),Int.min_eq_left (show _<=(z.length:Int) from Int.ofNat_le.mpr h),Int.max_eq_right (Int.natCast_nonneg _)]
 simp only[show (1:Int)>0 from by decide,if_true,e]
 have c:(if (a:Int)<(z.length:Int) then ((z.length:Int)-(a:Int)+1-1) / 1 else 0).toNat=z.cps.size-a:=by
  rw[Int.ediv_one,Int.add_sub_cancel,h']
  split
  ·rw[<-Int.ofNat_sub h];rfl
  omega
 rw[c];refine List.map_congr_left λk _=>?_;omega
theorem gC (st:StOk n z) (hi:i<n):StOk n (dF z i):=by
 have hl:=st.len;have a:=qY (z:=z) (j:=i) (by omega);have b:=nk (z:=z) (a:=i+1) (by omega);rw[show ((i+1:Nat):Int)=(i:Int)+1 from by omega]at b
 have f:(bH z i).cps.toList=[48]\/(bH z i).cps.toList=[49]:=by
  unfold bH
  split
  ·exact .inl (by decide +kernel)
  exact .inr (by decide +kernel)
 have e:(dF z i).cps.toList=(z.cps.toList.take i++(bH z i).cps.toList)++z.cps.toList.drop (i+1):=by
  unfold dF;show ((_++_)++_:Array Nat).toList=_;rw[QM,QM,a,b]
 refine⟨?_,λc hc=>?_⟩
 ·rw[<-QC,e,Qd,Qd,QF,Xd,QC];have:(bH z i).cps.toList.length=1:=by rcases f with f|f <;> rw[f] <;> rfl
  omega
 rw[e]at hc;rcases Qk.mp hc with h|h
 ·rcases Qk.mp h with h|h
  ·exact st.signs c (List.mem_of_mem_take h)
  rcases f with f|f
  ·rw[f]at h;exact .inl (by simpa using h)
  rw[f]at h;exact .inr (by simpa using h)
 exact st.signs c (List.mem_of_mem_drop h)
def aD (H:Hp) (a:Addr) (sts:List (V × Key)):Prop:=∃vs,H a=some (.lst vs)/\Paired (λv (s:V × Key)=>∃b,v=.ref b/\H b=some (.tup [s.1,kV s.2])) vs sts
variable {sts:List (V × Key)} {a c li ln T b L t TL d Lr Lq:Addr} {H H' H1 H2 H'' H0:Hp}
theorem aD.same (S:ax H H') (h:aD H a sts):aD H' a sts:=by
 obtain⟨vs,h1,h2⟩:=h;exact⟨vs,S _ _ h1,aE (λv s ⟨b,e,q⟩=>⟨b,e,S _ _ q⟩) h2⟩
def uI (F W N:Addr) (H H':Hp):Prop:=∀b o,H b=some o->b≠F->b≠W->b≠N->H' b=some o
def fdK (xs:List Key) (as:B3):List (Key × V):=(xs.zip as).map λp=>(p.1,V.ref p.2)
def knK (xs:List Key):List (Key × V):=xs.map λx=>(x,V.bl true)
variable {as nas:B3}
theorem oY {xs:List Key} (h:as.length<=xs.length):(fdK xs as).length=as.length:=by
 unfold fdK;rw[Qa,List.length_zip];omega
theorem mx (xs:List Key) (as:B3):(fdK xs as).map (·.1)=xs.take as.length:=by
 unfold fdK;rw[List.map_map];show (xs.zip as).map (λp=>p.1)=_
 induction xs generalizing as with
 | nil=>simp
 | cons x xs ih =>
 cases as with
 | nil=>simp
 | cons a as=>simp[ih]
theorem sP {xs:List Key} {x:Key} (h:xs[as.length]?=some x):fdK xs (as++[a])=fdK xs as++[(x,V.ref a)]:=by
 unfold fdK
 induction xs generalizing as with
 | nil=>simp at h
 | cons y xs ih =>
 cases as with
 | nil=>simp at h;subst h;simp
 | cons b as=>simp at h;simp[ih h]
theorem sQ {xs ys:List Key} (h:as.length<=xs.length) (p:xs <+: ys):fdK ys as=fdK xs as:=by
 obtain⟨t,rfl⟩:=p;unfold fdK
 induction xs generalizing as with
 | nil =>
  have:as=[]:=by simpa using h
  subst this;simp
 | cons y xs ih =>
 cases as with
 | nil=>simp
 | cons b as=>simp at h;simpa using ih h
variable {kvs:List (Key × V)}
theorem i9 {k:Key}:aJ kvs k=none↔k∉kvs.map (·.1):=by
 refine⟨eZ,λh=>?_⟩
 cases e:aJ kvs k with
 | none=>rfl
 | some v=>exact absurd (tF e) h
theorem oR {xs:List Key} {k:Key}:aJ (knK xs) k=none↔k∉xs:=by
 rw[i9];unfold knK;rw[List.map_map];show k∉xs.map (λx=>x)↔_;rw[List.map_id']
def nxK (steps:Key->List (V × Key)) (x:Key):List Key:=(steps x).map (·.2)
def jT (P:Program) (w:World) (K:PySem.W.Frag) (mg:B2) (base:Heap) (k:Nat):Sp:=λvs H Q _=>∃(start:Key) (f:Addr) (l:Lm) (cl:List (Str × Addr)) (c:Addr) (r:V->Hp->VK->Prop) (steps:Key->List (V × Key)) (B:Nat),
 vs=[kV start,.ref f]/\H f=some (f_ f l cl c)/\Calls P w K mg base k f r/\B<=100000 /\
 (∀x H1 (Q1:VK),Bf.Reach (nxK steps) start x->ax H H1->(∀a H2,ax H1 H2->aD H2 a (steps x)->Q1 (.ref a) H2)->r (kV x) H1 Q1) /\
 (∀xs:List Key,xs.Nodup->(∀x∈xs,Bf.Reach (nxK steps) start x)->xs.length<=B) /\
 ∀(F:Addr) (as:B3) (n:Nat) (H':Hp),ax H H'->H F=none->(Bf.bfs (nxK steps) start n).length=n->as.length=n->H' F=some (.dK (fdK (Bf.bfs (nxK steps) start n) as)) ->
  (∀(i:Nat) x a,(Bf.bfs (nxK steps) start n)[i]?=some x->as[i]?=some a->aD H' a (steps x))->Q (.ref F) H'
variable {l:Lm} {Q G:VK} {U:St}
theorem uz {P:Program} {w:World} {K:PySem.W.Frag} {mg:B2} {base:Heap} {k:Nat} {te:TE} {f:Addr} {cl:List (Str × Addr)} {r:V->Hp->VK->Prop} (hi:U[i]?=some (some (.ref f))) (C:Calls P w K mg base k f r) (hf:H f=some (f_ f l cl c))
  (q:te U H λv H1=>H1 f=some (f_ f l cl c)/\r v H1 Q):qL P w K mg base k i te U H Q:=⟨f,l,cl,c,r,hi,C,hf,q⟩
local macro_rules|`(tactic|ctx_has $a $b $c $d $e $f $g)=>`(tactic|(generalize hE:upd $a $b _=$c;obtain⟨$d,$e⟩:=$f $g hE;clear hE))
section
theorem iT:FnScope ["start", "steps_of", "found", "waiting", "known", "at", "here", "steps", "step"] ["start", "steps_of"] (ak (top 12)):=by fin2
theorem se {kl:Nat} {f:Addr} {fd:FuncData} (Fu:Fun K "found_from" "found_from" (top 12) f fd) (T:Txt K mg TT):FnOk P w K mg base CX0 (kl+1) f fd ["start", "steps_of"] (jT P w K mg base kl):=by
 have S:=iT;refine Fu.ok S (by room) (λcdv A outer s H vs Q E hr h=>?_);obtain⟨start,fl,l,cl,c,r,steps,B,rfl,hfl,hC,hB,hst,hfew,k⟩:=h;have hu:=cF hr;refine'⟨?_,?bb,?_⟩
 case bb =>
  walk_at "b";exact aB 2 S.nd fi;exact aB 3 S.nd (pe_lst (aa (pv 0) ae ad));exact aB 4 S.nd (gI (fg (pv 0) dH gH) rfl rfl (by simp) (by decide));exact aB 5 S.nd ah;refine' lR PassesOwn.never ?_ ?_;rotate_left 2;exact(aH oF (pv 5) (am ao (by rfl) T.n_len QN (aa (pv 3) ae ad)) (bi _));walk_at "p";exact aB 6 S.nd (au aM (pv 3) (pv 5));exact aB 7 S.nd (rH (k:=kl) (i:=1) (hr.mono (by omega)) u8 (pv 1) (pv 6));exact(cR hu (pv 2) (pv 6) (pv 7) rfl);walk_at "f";exact(bK (pv 7));exact(bU 8 S.nd);walk_at "p";exact(kz (jk hu (au aW (pv 8) ah) (pv 4)));exact(cR hu (pv 4) (au aW (pv 8) ah) dH rfl);exact(bV (cE Qt Q8 Q9 bA (pv 3) (aa (au aW (pv 8) ah) ae)));exact(v9 (i:=5) S.nd rfl (by z_go) ah wK);exact(aN (pv 2))
 x_go;refine s_seq (s_asg ?_);intro F hF;refine aw ?_;ctx_has H F H1 S1 q1 aj hF;lk;refine⟨by simp[sizeLine],λW hW=>?_⟩;ctx_has H1 W H2 S2 q2 aj hW;lk;refine λN hN=>?_;refine⟨_,rfl,?_⟩;refine⟨ag,[(start,.bl true)],rfl,by simp,?_⟩;rw[gB];refine aw ?_;ctx_has H2 N H3 S3 q3 aj hN;lk;have S03:ax H H3:=S1.trans (S2.trans S3);have FW:F≠W:=ai q1 hW;have FN:F≠N:=ai (S2 _ _ q1) hN;have WN:W≠N:=ai q2 hN
 have W0:H W=none:=by
  cases e:H W with
  | none=>rfl
  | some o=>rw[S1 _ _ e]at hW;cases hW
 have N0:H N=none:=by
  cases e:H N with
  | none=>rfl
  | some o=>rw[(S1.trans S2) _ _ e]at hN;cases hN
 have off:∀{Ha Hb:Hp},ax H Ha->uI F W N Ha Hb->ax H Hb:=λsa o b u e=>o b u (sa b u e) (ai e hF) (ai e W0) (ai e N0);let nx:=nxK steps;let bf:=Bf.bfs nx start;have reach:∀n x,x∈bf n->Bf.Reach nx start x:=λn x h=>Bf.cJ n x h;have fewB:∀n,(bf n).length<=B:=λn=>hfew _ (Bf.cK n) (reach n);let I1:IvF:=λm U H'=>∃(n:Nat) (as:B3) (x6 x7 x8:Option V),U=[some (kV start),some (.ref fl),some (.ref F),some (.ref W),some (.ref N),some (.int (n:Int)),x6,x7,x8]/\m=B+1-n/\n<=(bf n).length/\ax H H'/\H' F=some (.dK (fdK (bf n) as))/\as.length=n/\H' W=some (.lst ((bf n).map kV))/\H' N=some (.dK (knK (bf n)))/\∀(i:Nat) x a,(bf n)[i]?=some x->as[i]?=some a->aD H' a (steps x)
 refine⟨I1,
  ⟨_,0,[],none,none,none,rfl,rfl,Q5 _,S03,S3 _ _ (S2 _ _ q1),rfl,S3 _ _ q2,q3,λi x a _ e=>nomatch e⟩,?_⟩
 rintro m U H' ⟨n,as,x6,x7,x8,rfl,rfl,hn,SH,hF',las,hW',hN',hsts⟩;lk;rw[Qa];by_cases cn:n<(bf n).length
 case neg =>
  refine ifF (QE (by omega)) ?_;lk;have e:(bf n).length=n:=by omega
  exact k F as n H' SH hF e las hF' hsts
 refine ifT (QU (by omega)) ?_;let I2:IvJ:=λσ' H''=>∃(as:B3) (x6 x7 x8:Option V),σ'=[some (kV start),some (.ref fl),some (.ref F),some (.ref W),some (.ref N),some (.int ((n+1:Nat):Int)),x6,x7,x8]/\n+1<=(bf (n+1)).length/\ax H H''/\H'' F=some (.dK (fdK (bf (n+1)) as))/\as.length=n+1/\H'' W=some (.lst ((bf (n+1)).map kV))/\H'' N=some (.dK (knK (bf (n+1))))/\∀(i:Nat) x a,(bf (n+1))[i]?=some x->as[i]?=some a->aD H'' a (steps x);refine⟨I2,λσ' H'' h=>?_,?_⟩
 ·obtain⟨as,x6,x7,x8,e1,e2,e3,e4,e5,e6,e7,e8⟩:=h;exact⟨B+1-(n+1),by have:=fewB n;omega,n+1,as,x6,x7,x8,e1,rfl,e2,e3,e4,e5,e6,e7,e8⟩
 obtain⟨x,hx⟩:∃x,(bf n)[n]?=some x:=⟨_,Qb cn⟩;have hbs:bf (n+1)=Bf.aS (bf n) (nx x):=Bf.c9 hx;lk;refine bx (v:=kV x) (SqL.of hW') (aU (by rw[Qe,hx];rfl)) ?_;lk;refine uz rfl hC (SH _ _ hfl) (ap rfl ⟨SH _ _ hfl,hst x H' _ (reach n x (Qn hx)) SH λa H4 S4 st4=>?_⟩);lk;refine df (ap rfl (ap rfl (ap rfl ?_)));refine⟨F,_,rfl,eX.k (k:=x) (S4 _ _ hF') (by rw[oY (by omega)];have:=fewB n;omega),?_⟩
 have pn:be (fdK (bf n) as) x (V.ref a)=fdK (bf n) (as++[a]):=by
  rw[sP (by rw[las];exact hx)];refine cY _ (i9.mpr ?_);rw[mx,las];intro hm;obtain⟨i,hi,e⟩:=QH.mp hm;rw[QF]at hi;rw[List.getElem_take]at e;have e2:=(Qc.mp hx).2;have:=(List.getElem_inj (Bf.cK (nx:=nx) (s:=start) n)).mp (e.trans e2.symm);omega
 rw[pn]
 -- what the steps' list is not
 obtain⟨vs,ha,pr⟩:=id st4
 have neW:∀{Hx:Hp} {ws:List Key},Hx W=some (.lst (ws.map kV))->ws≠[]->∀{b:Addr} {sts:List (V × Key)},aD Hx b sts->b≠W:=λ{Hx ws} hw ne {b sts} ⟨us,hb,pu⟩ z=>by
  rw[z,hw]at hb;cases hb
  cases ws with
  | nil=>exact ne rfl
  | cons y ws =>
  cases pu with
  | cons h _ =>
  obtain⟨c,e,_⟩:=h;cases y <;> cases e
 have neD:∀{Hx:Hp} {D:Addr} {kvs:List (Key × V)},Hx D=some (.dK kvs)->∀{b:Addr} {sts:List (V × Key)},aD Hx b sts->b≠D:=λ{Hx D kvs} hd {b sts} ⟨us,hb,_⟩ z=>by
  rw[z,hd]at hb;cases hb
 have keepS:∀{Ha Hb:Hp} {ws:List Key} {k1 k2:List (Key × V)},Ha W=some (.lst (ws.map kV))->ws≠[]->Ha F=some (.dK k1)->Ha N=some (.dK k2)->uI F W N Ha Hb->∀{b:Addr} {sts:List (V × Key)},aD Ha b sts->aD Hb b sts:=λ{Ha Hb ws k1 k2} hw ne h1 h2 o {b sts} st=>by
  have n1:=neW hw ne st;have n2:=neD h1 st;have n3:=neD h2 st;obtain⟨us,hb,pu⟩:=st;refine⟨us,o b _ hb n2 n1 n3,aE (λv s ⟨c,e,q⟩=>⟨c,e,o c _ q (λz=>?_) (λz=>?_) λz=>?_⟩) pu⟩
  ·rw[z,h1]at q;cases q
  ·rw[z,hw]at q;cases q
  rw[z,h2]at q;cases q
 have bne:bf n≠[]:=λz=>by rw[z]at cn;simp at cn
 have hF4:=S4 _ _ hF';have hW4:=S4 _ _ hW';have hN4:=S4 _ _ hN';have off4:uI F W N H4 (upd H4 F (.dK (fdK (bf n) (as++[a])))):=λb o e h1 _ _=>by rw[af h1];exact e
 have hF5:upd H4 F (.dK (fdK (bf n) (as++[a]))) F=some (.dK (fdK (bf n) (as++[a]))):=ag;have hW5:upd H4 F (.dK (fdK (bf n) (as++[a]))) W=some (.lst ((bf n).map kV)):=by rw[af FW.symm];exact hW4
 have hN5:upd H4 F (.dK (fdK (bf n) (as++[a]))) N=some (.dK (knK (bf n))):=by rw[af FN.symm];exact hN4
 have st5:=keepS hW4 bne hF4 hN4 off4 st4
 have sts5:∀(i:Nat) y b,(bf n)[i]?=some y->(as++[a])[i]?=some b->aD (upd H4 F (.dK (fdK (bf n) (as++[a])))) b (steps y):=λi y b e1 e2=>by
  by_cases ci:i<as.length
  ·rw[QT ci]at e2;exact keepS hW4 bne hF4 hN4 off4 ((hsts i y b e1 e2).same S4)
  rw[QK (by omega)]at e2
  have:i=n:=by
   have:=(Qc.mp e2).1;simp at this;omega
  subst this;rw[hx]at e1;cases e1;rw[las,Nat.sub_self]at e2;cases e2;exact st5
 have SH5:ax H (upd H4 F (.dK (fdK (bf n) (as++[a])))):=off (SH.trans S4) off4;generalize upd H4 F (.dK (fdK (bf n) (as++[a])))=H5 at *;obtain⟨vs5,ha5,pr5⟩:=id st5;refine s_seq (s_for (s_list (ap rfl ⟨a,rfl,⟨_,SqL.of ha5⟩,?_⟩)));let I3:IvF:=λi σ' H'=>∃x8,σ'=[some (kV start),some (.ref fl),some (.ref F),some (.ref W),some (.ref N),some (.int (n:Int)),some (kV x),some (.ref a),x8]/\uI F W N H5 H'/\H' F=some (.dK (fdK (bf n) (as++[a])))/\H' W=some (.lst ((Bf.aS (bf n) ((nx x).take i)).map kV))/\H' N=some (.dK (knK (Bf.aS (bf n) ((nx x).take i))));refine cN (xs:=vs5) I3 ⟨_,rfl,λb o e _ _ _=>e,hF5,hW5,hN5⟩ (λi σ' H' _ pv=>?_) (λi v σ' H' hv pv=>?_) (λσ' H' pv=>?_)
 ·obtain⟨_,_,o,_⟩:=pv;exact SqL.of (o a _ ha5 (neD hF5 st5) (neW hW5 bne st5) (neD hN5 st5))
 ·obtain⟨x8,rfl,o,e1,e2,e3⟩:=pv;obtain⟨⟨nm,y⟩,hy,b,rfl,hb⟩:=paired_get pr5 hv;have hb':H' b=some (.tup [nm,kV y]):=o b _ hb (λz=>by rw[z,hF5]at hb;cases hb) (λz=>by rw[z,hW5]at hb;cases hb) (λz=>by rw[z,hN5]at hb;cases hb)
  have hny:(nx x)[i]?=some y:=by
   show ((steps x).map (·.2))[i]?=_;rw[Qe,hy];rfl
  have ext:Bf.aS (bf n) ((nx x).take (i+1))=Bf.aS (Bf.aS (bf n) ((nx x).take i)) [y]:=by
   rw[Xo,hny,Bf.i0];rfl
  have lenN:(Bf.aS (bf n) ((nx x).take i)).length<=B:=hfew _ (Bf.dC _ _ (Bf.cK n)) λz hz=>by
   rcases(Bf.dD _ _ _).mp hz with h|h
   ·exact reach n z h
   exact .step (reach n x (Qn hx)) (List.mem_of_mem_take h)
  lk;refine mh (bY (ap rfl (i_c (i_ixT hb' rfl (ap rfl ?_)))));refine⟨N,_,rfl,cq.k (k:=y) e3,_,rfl,?_⟩;by_cases cy:y∈Bf.aS (bf n) ((nx x).take i)
  ·rw[Bf.nY cy]at ext;refine ifF ?_ ?_
   ·cases e:aJ (knK (Bf.aS (bf n) ((nx x).take i))) y with
    | none=>exact absurd cy (oR.mp e)
    | some v=>rfl
   lk;refine⟨_,rfl,o,e1,?_,?_⟩
   ·rw[ext];exact e2
   rw[ext];exact e3
  rw[Bf.nX cy]at ext;have nn:=oR.mpr cy;refine ifT (by rw[nn];rfl) ?_;lk;refine df (i_c (ap rfl (bY (ap rfl (i_c (i_ixT hb' rfl ?_))))));refine⟨N,_,rfl,eX.k (k:=y) e3 (by unfold knK;rw[Qa];omega),?_⟩;have e2':upd H' N (.dK (be (knK (Bf.aS (bf n) ((nx x).take i))) y (.bl true))) W=some (.lst ((Bf.aS (bf n) ((nx x).take i)).map kV)):=by rw[af WN];exact e2
  have hb'':upd H' N (.dK (be (knK (Bf.aS (bf n) ((nx x).take i))) y (.bl true))) b=some (.tup [nm,kV y]):=by rw[af (λz=>by rw[z,e3]at hb';cases hb')];exact hb'
  refine s_drop (i_bm (ap rfl ⟨i_tyL e2',?_⟩));refine bg (bY (ap rfl (i_c (i_ixT hb'' rfl (bv (fE e2' (by rw[Qa];omega) ?_))))));refine⟨_,rfl,λc u e h1 h2 h3=>by rw[af h2,af h3];exact o c u e h1 h2 h3,by rw[af FW,af FN];exact e1,?_,?_⟩
  ·rw[ag,ext,Qr];rfl
  rw[af WN.symm,ag,cY _ nn,ext];unfold knK;rw[Qr];rfl
 obtain⟨x8,rfl,o,e1,e2,e3⟩:=pv
 have lv:vs5.length=(nx x).length:=by
  show _=((steps x).map (·.2)).length;rw[Qa];exact aL pr5
 rw[lv,QP (Qh _),<-hbs]at e2 e3;refine⟨_,rfl,?_⟩;refine i_c ⟨_,_,rfl,rfl,?_⟩;have pre:bf n <+: bf (n+1):=Bf.mQ n
 have l1:n+1<=(bf (n+1)).length:=by
  have:=pre.length_le;omega
 refine⟨as++[a],_,_,_,by rw[show ((n+1:Nat):Int)=(n:Int)+1 from rfl];rfl,l1,off SH5 o,?_,by rw[Qd,las];rfl,e2,e3,λi y b h1 h2=>?_⟩
 ·rw[sQ (by rw[Qd,las];simp;omega) pre];exact e1
 have hi:i<n+1:=by
  have:=(Qc.mp h2).1;rw[Qd,las]at this;simpa using this
 exact keepS hW5 bne hF5 hN5 o (sts5 i y b (Bf.hU pre (by omega) h1) h2)
end
structure Sh where
 ins:List Str
 outs:List Str
 z:Str
 nodes:List (List (Str × Nat))
def Sh.ws (s:Sh):List Str:=s.ins++s.outs
def Sh.node (s:Sh) (i:Nat):List (Str × Nat):=s.nodes.getD i []
def Sh.nx (s:Sh) (i:Nat):List Nat:=(s.node i).map (·.2)
abbrev Sh.R (s:Sh):Nat->Prop:=Bf.Reach s.nx 0
structure ShOk (s:Sh):Prop where
 nd:s.ws.Nodup
 w1:1<=s.ws.length
 w11:s.ws.length<=11
 st:StOk s.ws.length s.z
 n1:1<=s.nodes.length
 n100:s.nodes.length<=100
 names:∀node∈s.nodes,∀p∈node,p.1∈s.ws
 tos:∀node∈s.nodes,∀p∈node,p.2<s.nodes.length
 few:∀node∈s.nodes,node.length<=100
def Lab (s:Sh) (lam:Nat->Str):Prop:=lam 0=s.z/\∀i,s.R i->∀p∈s.node i,lam p.2=dF (lam i) (s.ws.idxOf p.1)
def a_ (node:List (Str × Nat)):List (V × Key):=node.map λp=>(V.str p.1,Sum.inl (p.2:Int))
structure ShAt (H:Hp) (a li lo ln:Addr) (nas:B3) (s:Sh):Prop where
 ha:H a=some (.tup [.ref li,.ref lo,.str s.z,.ref ln])
 hi:H li=some (.lst (s.ins.map V.str))
 ho:H lo=some (.lst (s.outs.map V.str))
 hn:H ln=some (.lst (nas.map V.ref))
 nodes:Paired (λna node=>aD H na (a_ node)) nas s.nodes
variable {s:Sh}
theorem ShAt.mono {lo:Addr} (hl:∀b xs,H b=some (.lst xs)->H' b=some (.lst xs)) (ht:∀b xs,H b=some (.tup xs)->H' b=some (.tup xs)) (h:ShAt H a li lo ln nas s):ShAt H' a li lo ln nas s :=
 ⟨ht _ _ h.ha,hl _ _ h.hi,hl _ _ h.ho,hl _ _ h.hn,aE (λna node ⟨vs,h1,h2⟩=>⟨vs,hl _ _ h1,aE (λv st ⟨b,e,q⟩=>⟨b,e,ht _ _ q⟩) h2⟩) h.nodes⟩
theorem ShAt.same {lo:Addr} (S:ax H H') (h:ShAt H a li lo ln nas s):ShAt H' a li lo ln nas s:=h.mono (λb xs e=>S b _ e) (λb xs e=>S b _ e)
theorem Sh.node_of {node:List (Str × Nat)} (h:s.nodes[i]?=some node):s.node i=node:=by
 unfold Sh.node;rw[Qm,h];rfl
theorem Sh.node_mem (h:i<s.nodes.length):s.node i∈s.nodes:=by
 unfold Sh.node;rw[Qm,Qb h];exact Xe h
theorem Sh.R_lt (ok:ShOk s) (r:s.R i):i<s.nodes.length:=by
 induction r with
 | start=>exact ok.n1
 | @step a b _ hb ih =>
 obtain⟨p,hp,rfl⟩:=QG.mp hb;exact ok.tos _ (Sh.node_mem ih) p hp
variable {lam:Nat->Str}
theorem Sh.len_row (ok:ShOk s) (l:Lab s lam) (r:s.R i):StOk s.ws.length (lam i):=by
 induction r with
 | start=>rw[l.1];exact ok.st
 | @step a b ra hb ih =>
 obtain⟨p,hp,rfl⟩:=QG.mp hb;rw[l.2 a ra p hp];exact gC ih (QW (ok.names _ (Sh.node_mem (Sh.R_lt ok ra)) p hp))
theorem kK {ws:List Str} (h:x∈ws):ws[ws.idxOf x]?=some x:=by
 have hi:=QW h;rw[Qb hi];exact congrArg some (List.getElem_idxOf hi)
theorem d_ {ws:List Str}:∀m,m<ws.idxOf x->ws[m]?≠some x:=λm hm e=>by
 have h1:=List.not_of_lt_findIdx (xs:=ws) (p:=(·==x)) (i:=m) hm;obtain⟨h2,e2⟩:=Qc.mp e;rw[e2]at h1;simp at h1
def lB:Sp:=λvs H Q _=>∃(a li lo ln:Addr) (nas:B3) (s:Sh) (row nm:Str),vs=[.ref a,.str row,.str nm]/\ShAt H a li lo ln nas s/\ShOk s/\StOk s.ws.length row/\nm∈s.ws/\∀H',ax H H'->Q (.str (dF row (s.ws.idxOf nm))) H'
section
theorem iR:FnScope ["sheet", "row", "name"] ["sheet", "row", "name"] (ak (top 14)):=by fin2
theorem pU {f:Addr} {fd:FuncData} (Fu:Fun K "row_behind" "row_behind" (top 14) f fd) (T:Txt K mg TT) (f_turned_at:Fn P w K mg base "turned_at" ["standing", "place"] 1 dJ):FnOk P w K mg base CX0 2 f fd ["sheet", "row", "name"] lB:=by
 have S:=iR;refine Fu.ok S (by room) (λcdv A outer s H vs Q E hr h=>?_);obtain⟨a,li,lo,ln,nas,sh,row,nm,rfl,at_,ok,st,hnm,k⟩:=h;refine⟨_,(pss_one (aN (aK f_turned_at hr (aa (pv 1) (aa (cE Qt PySem.F.slot_list_index PySem.F.type_list_index fq (aA fW (au aW (pv 0) ah) (au aW (pv 0) ah)) (aa (pv 2) ae ad)) ae se_call) ad)))),?_⟩;x_go;have lw:(sh.ins.map V.str).length+(sh.outs.map V.str).length=sh.ws.length:=by rw[Qa,Qa];unfold Sh.ws;rw[Qd]
 have ha:=at_.ha;lk;refine jy at_.hi at_.ho (by rw[lw];have:=ok.w11;omega) λp hp=>?_;rw[<-Qr];show tyV K "list" (.ref p) _/\_;refine⟨i_tyL ag,?_⟩;lk;refine⟨p,sh.ws,nm,sh.ws.idxOf nm,rfl,rfl,ag,kK hnm,d_,by have:=ok.w11;omega,?_⟩;lk;exact⟨row,_,_,rfl,st,QW hnm,ok.w11,k _ (aq hp)⟩
end
noncomputable def bn:Lm:=match bM (top 15) with
 | _::.Assign _ (.Call _ [_,.Lambda p b sc pos] _ _) _::_=>⟨("rows_found" ++ ".<locals>.") ++ "<lambda>", p,b,sc,pos⟩
 | _=>⟨"", { posonlyargs:=[],args:=[],vararg:=none,kwonlyargs:=[],kw_defaults:=[],kwarg:=none,defaults:=[] },.Constant .none 0 ⟨0,0,0,0⟩,ak (top 0),⟨0,0,0,0⟩⟩
theorem xE (h:([(x,NameKind.local),(y,NameKind.free)]:List (Str × NameKind)).lookup z=some .free):z=y:=by
 rw[QV]at h;by_cases e:(z==x)=true
 ·rw[e]at h;cases h
 have e:(z==x)=false:=by simpa using e
 rw[e]at h;simp only at h;rw[QV]at h;by_cases e2:(z==y)=true
 ·exact eq_of_beq e2
 have e2:(z==y)=false:=by simpa using e2
 rw[e2]at h;cases h
theorem sm:LmScope "node" "sheet" bn.scope:=⟨rfl,rfl,rfl,rfl,rfl,by decide,by decide +kernel,λz h=>xE h⟩
structure Tk (T:Addr) (H H':Hp):Prop where
 old:∀b o,H b=some o->b≠T->H' b=some o
 tab:cP T bn H'
theorem qH (t:cP T l H):∃ps,H T=some (.tbl ps):=by rcases t with e|⟨c,e,_⟩ <;> exact⟨_,e⟩
variable {o:HO}
theorem dG (t:cP T l H) (h:H b=some o) (n:∀ps,o≠.tbl ps):b≠T:=λz=>by
 obtain⟨ps,e⟩:=qH t;rw[z,e]at h;exact n ps (QY h).symm
theorem gD (t:cP T l H) (S:ax H H'):cP T l H':=by
 rcases t with e|⟨c,e,q⟩
 ·exact .inl (S _ _ e)
 exact .inr ⟨c,S _ _ e,S _ _ q⟩
theorem Tk.lst (t:cP T bn H) (k:Tk T H H'):∀b xs,H b=some (.lst xs)->H' b=some (.lst xs):=λb xs e=>k.old b _ e (dG t e λ_ z=>nomatch z)
theorem Tk.tup (t:cP T bn H) (k:Tk T H H'):∀b xs,H b=some (.tup xs)->H' b=some (.tup xs):=λb xs e=>k.old b _ e (dG t e λ_ z=>nomatch z)
theorem Tk.dK (t:cP T bn H) (k:Tk T H H'):∀b xs,H b=some (.dK xs)->H' b=some (.dK xs):=λb xs e=>k.old b _ e (dG t e λ_ z=>nomatch z)
theorem Tk.of (t:cP T bn H) (S:ax H H'):Tk T H H':=⟨λb o e _=>S b o e,gD t S⟩
theorem Tk.trans (a:Tk T H H1) (b:Tk T H1 H2):Tk T H H2:=⟨λc o e n=>b.old c o (a.old c o e n) n,b.tab⟩
def stK (s:Sh):Key->List (V × Key)
 | .inl i=>a_ (s.node i.toNat)
 | .inr _=>[]
theorem gE (s:Sh) (i:Nat):stK s (Sum.inl (i:Int))=a_ (s.node i):=by show a_ (s.node (i:Int).toNat)=_;rw[QZ]
theorem kJ {y:Key}:y∈nxK (stK s) (Sum.inl (i:Int))↔∃p∈s.node i,y=Sum.inl (p.2:Int):=by
 unfold nxK;rw[gE];unfold a_;rw[List.map_map]
 constructor
 ·intro h;obtain⟨p,hp,e⟩:=QG.mp h;exact⟨p,hp,e.symm⟩
 rintro⟨p,hp,rfl⟩;exact QG.mpr ⟨p,hp,rfl⟩
theorem fN {x:Key} (r:Bf.Reach (nxK (stK s)) (Sum.inl 0) x):∃i:Nat,x=Sum.inl (i:Int)/\s.R i:=by
 induction r with
 | start=>exact⟨0,rfl,.start⟩
 | @step a b _ hb ih =>
 obtain⟨i,rfl,ri⟩:=ih;obtain⟨p,hp,rfl⟩:=kJ.mp hb;exact⟨p.2,rfl,.step ri (QG.mpr ⟨p,hp,rfl⟩)⟩
theorem p6 (r:s.R i):Bf.Reach (nxK (stK s)) (Sum.inl 0) (Sum.inl (i:Int)):=by
 induction r with
 | start=>exact .start
 | @step a b _ hb ih =>
 obtain⟨p,hp,rfl⟩:=QG.mp hb;exact .step ih (kJ.mpr ⟨p,hp,rfl⟩)
theorem l8 (ok:ShOk s) {xs:List Key} (nd:xs.Nodup) (h:∀x∈xs,∃i:Nat,x=Sum.inl (i:Int)/\s.R i):xs.length<=s.nodes.length:=by
 have:=Bf.dP xs ((List.range s.nodes.length).map λ(i:Nat)=>(Sum.inl (i:Int):Key)) nd λx hx=>by
  obtain⟨i,rfl,ri⟩:=h x hx;exact QG.mpr ⟨i,Xc.mpr (Sh.R_lt ok ri),rfl⟩
 rwa [Qa,Xj]at this
structure RInv (s:Sh) (kvs:List (Key × V)):Prop where
 sound:∀k v,aJ kvs k=some v->∃(i:Nat) (y:Str),k=Sum.inl (i:Int)/\v=.str y/\s.R i/\StOk s.ws.length y/\∀lam,Lab s lam->lam i=y
 zero:aJ kvs (Sum.inl 0)=some (.str s.z)
 nd:(kvs.map (·.1)).Nodup
theorem RInv.at (h:RInv s kvs) (n:aJ kvs (Sum.inl (i:Int))≠none):∃y,aJ kvs (Sum.inl (i:Int))=some (.str y)/\StOk s.ws.length y/\∀lam,Lab s lam->lam i=y:=by
 cases e:aJ kvs (Sum.inl (i:Int)) with
 | none=>exact absurd e n
 | some v =>
 obtain⟨j,y,ej,rfl,_,st,l⟩:=h.sound _ _ e;cases ej;exact⟨y,rfl,st,l⟩
theorem RInv.first (ok:ShOk s):RInv s [(Sum.inl 0,.str s.z)] where
 sound:=λk v e=>by
  by_cases c:(Sum.inl 0:Key)=k
  ·rw[bo (p:=(Sum.inl 0,V.str s.z)) c]at e;cases e;subst c;exact⟨0,s.z,rfl,rfl,.start,ok.st,λlam l=>l.1⟩
  rw[bp (p:=(Sum.inl 0,V.str s.z)) c]at e;cases e
 zero:=bo (p:=(Sum.inl 0,V.str s.z)) rfl
 nd:=by simp
theorem RInv.few (ok:ShOk s) (h:RInv s kvs):kvs.length<=s.nodes.length:=by
 have:=l8 ok h.nd λx hx=>by
  cases e:aJ kvs x with
  | none=>exact absurd hx (eZ e)
  | some v =>
  obtain⟨i,y,rfl,_,r,_⟩:=h.sound _ _ e;exact⟨i,rfl,r⟩
 rwa [Qa]at this
theorem RInv.put (ok:ShOk s) (h:RInv s kvs) {p:Str × Nat} (r:s.R i) (hp:p∈s.node i) (hy:aJ kvs (Sum.inl (i:Int))=some (.str y)) (n:aJ kvs (Sum.inl (p.2:Int))=none):RInv s (be kvs (Sum.inl (p.2:Int)) (.str (dF y (s.ws.idxOf p.1)))) where
 sound:=λk v e=>by
  rw[b9]at e;by_cases c:k=Sum.inl (p.2:Int)
  ·rw[Qv c]at e;cases e;obtain⟨j,y',ej,ey,_,st,l⟩:=h.sound _ _ hy;cases ej;cases ey;exact⟨p.2,_,c,rfl,.step r (QG.mpr ⟨p,hp,rfl⟩),gC st (QW (ok.names _ (Sh.node_mem (Sh.R_lt ok r)) p hp)),λlam L=>by rw[L.2 i r p hp,l lam L]⟩
  rw[Qz c]at e;exact h.sound k v e
 zero:=by
  rw[b9];by_cases c:(Sum.inl 0:Key)=Sum.inl (p.2:Int)
  ·rw[<-c,h.zero]at n;cases n
  rw[Qz c];exact h.zero
 nd:=by
  rw[cY _ n,Qr,List.nodup_append];refine⟨h.nd,by simp,λa ha b hb=>?_⟩;have:b=Sum.inl (p.2:Int):=by simpa using hb
  subst this;intro e;subst e;exact eZ n ha
theorem jh {k j:Key} {v:V} (h:aJ kvs j≠none):aJ (be kvs k v) j≠none:=by
 rw[b9]
 split
 ·exact λz=>nomatch z
 exact h
structure RowsOk (s:Sh) (kvs:List (Key × V)):Prop where
 inv:RInv s kvs
 all:∀i,s.R i->aJ kvs (Sum.inl (i:Int))≠none
def ng (TL:Addr):Sp:=λvs H Q _=>∃(a li lo ln:Addr) (nas:B3) (s:Sh),vs=[.ref a]/\ShAt H a li lo ln nas s/\ShOk s/\cP TL bn H/\∀(R:Addr) (kvs:List (Key × V)) H',Tk TL H H'->H R=none->H' R=some (.dK kvs)->RowsOk s kvs->Q (.ref R) H'
theorem k_ (nd:(kvs.map (·.1)).Nodup):∀{i:Nat} {k:Key} {v:V},kvs[i]?=some (k,v)->aJ kvs k=some v:=by
 induction kvs with
 | nil=>intro i k v e;simp at e
 | cons p r ih =>
 intro i k v e;rw[QL,Xb]at nd
 cases i with
 | zero =>
  simp at e;subst e;exact bo (p:=(k,v)) rfl
 | succ i =>
 simp at e;rw[bp (λz:p.1=k=>nd.1 (by rw[z];exact QG.mpr ⟨(k,v),Qn e,rfl⟩))];exact ih nd.2 e
theorem qF (h:H c=some o):upd (bL H c) c o=H:=by
 funext b;by_cases e:b=c
 ·subst e;rw[ag,h]
 rw[af e,bt e]
section
theorem nU {f c cell:Addr}:Calls P w K mg base 1 f (xu f bn "sheet" cell c (tOp (lP K) (tOp (pG K) (cV 1) (tC (.int 3))) (cV 0))) :=
 qr (k:=0) sm (λpm ctv u=>rfl) λA outer s H hr=>au aM (au aW (pv 1) ah) (pv 0) (λ_ _=>rfl)
theorem iQ:FnScope ["sheet", "rows", "found", "node", "name", "to"] ["sheet"] (ak (top 15)):=by fin2
theorem t8 {TL cc:Addr} {f:Addr} {fd:FuncData} (Fu:FunC K "rows_found" "rows_found" (top 15) f fd cc) (T:Txt K mg TT) (CT:PySem.W.CodeHd base cc TL) (BM:eJ base mg) (f_found_from:Fn P w K mg base "found_from" ["start", "steps_of"] 2 (jT P w K mg base 1)) (f_row_behind:Fn P w K mg base "row_behind" ["sheet", "row", "name"] 2 lB) :
  FnOk P w K mg base CX0 3 f fd ["sheet"] (ng TL):=by
 have S:=iQ;refine Fu.ok S (λvs H Q E h=>?_) (λA outer s H vs Q E hr h=>?_)
 ·obtain⟨a,li,lo,ln,nas,sh,rfl,_⟩:=h;rfl
 obtain⟨a,li,lo,ln,nas,sh,rfl,at_,ok,tb,k⟩:=h;have hu:=cF hr;have HCL:PySem.closureFor bn.scope (PyProof.Rows.envOfC "rows_found" (ak (top 15)) s.heap.objs.size f (.ref cc))=pure [(("sheet" : Str),(s.heap.objs.size+1:Addr))]:=by rfl
 refine'⟨?_,?bb,?_⟩
 case bb =>
  walk_at "b";exact aB 1 S.nd (gI (fg ah (au aW (pv 0) ah) gH) rfl rfl (by simp) (by decide));exact aB 2 S.nd (wd (i:=0) f_found_from (hr.mono (by first|decide|omega)) (by rfl) (aa ah (aa (wc (T:=TL) (cl:=[(("sheet" : Str),(s.heap.objs.size+1:Addr))]) rfl CT BM HCL) ae) ay) rfl rfl (Or.inr (Or.inl rfl)) rfl rfl);refine' v8 ?_;rotate_left 1;walk_at "f";exact(rn (pv 2));exact(bU 3 S.nd);walk_at "p";walk_at "f";exact(bK (cC hu (pv 2) (pv 3)));exact(fR rfl (br (bU 4 S.nd) (br (bU 5 S.nd) cS)));walk_at "p";exact(bV (rF (pv 1) (pv 5) (aK f_row_behind hr (aa (pv 0) (aa (cC hu (pv 1) (pv 3)) (aa (pv 4) ae ad)) ad)) ⟨rfl,rfl,rfl,rfl⟩));exact(aN (pv 1))
 x_go;generalize hcell:s.heap.objs.size+1=cell;refine s_seq (s_asg ?_);refine λR hR=>?_;have aR:a≠R:=ai at_.ha hR;have haR:upd H R (.dK []) a=some (.tup [.ref li,.ref lo,.str sh.z,.ref ln]):=by rw[af aR];exact at_.ha
 show tOp (pG K) (cV 0) (tC (V.int 2)) [some (.ref a),none,none,none,none,none] (upd H R (.dK [])) _;refine bY (ap rfl (i_c (i_ixT haR rfl ?_)));refine⟨ag,[(Sum.inl 0,.str sh.z)],rfl,by simp,?_⟩;rw[gB];refine aw ?_;ctx_has H R H1 S1 q1 aj hR;have q1:H1 R=some (.dK [(Sum.inl 0,.str sh.z)]):=q1;have tb1:cP TL bn H1:=gD tb S1;kt_k;with_reducible refine s_asg ?_
 show gR (tC (V.int 0)) (gR (xb TL bn [("sheet", cell)]) pB) _ _ _;refine bg (i_c (bg ⟨tb1,λfl c H2 md=>bv ⟨_,rfl,λo uy hd ru hc=>?_⟩⟩));have md:Made TL bn [("sheet", cell)] H1 fl c H2:=md;obtain rfl:uy=Value.ref a:=ru
 -- at the call
 have at2:ShAt H2 a li lo ln nas sh:=(at_.same S1).mono (λb xs e=>md.old b _ e (dG tb1 e λ_ z=>nomatch z)) (λb xs e=>md.old b _ e (dG tb1 e λ_ z=>nomatch z));have S2c:ax H2 (upd H2 cell (cQ o)):=aq hc;have hf2:upd H2 cell (cQ o) fl=some (f_ fl bn [("sheet", cell)] c):=S2c _ _ md.fn;have hcc2:upd H2 cell (cQ o) c=some (gn c bn.qual):=S2c _ _ md.code;have hcl2:upd H2 cell (cQ o) cell=some (cQ o):=ag;have at2c:ShAt (upd H2 cell (cQ o)) a li lo ln nas sh:=at2.same S2c;have k12:∀b u,H b=some u->b≠TL->upd H2 cell (cQ o) b=some u:=λb u e n=>S2c _ _ (md.old b u (S1 _ _ e) n);have tb2:cP TL bn (upd H2 cell (cQ o)):=.inr ⟨c,S2c _ _ md.tab,hcc2⟩;have hR2:upd H2 cell (cQ o) R=some (.dK [(Sum.inl 0,.str sh.z)]):=S2c _ _ (md.old _ _ q1 (dG tb1 q1 λ_ z=>nomatch z));have nocell:∀{b u},H2 b=some u->b≠cell:=λe z=>by rw[z,hc]at e;cases e
 have H2R:∀{b u},H b=some u->b≠TL->b≠cell:=λ{b u} e n=>nocell (md.old b u (S1 _ _ e) n);have acell:a≠cell:=nocell at2.ha;have lncell:ln≠cell:=nocell at2.hn;have Rcell:R≠cell:=nocell (md.old _ _ q1 (dG tb1 q1 λ_ z=>nomatch z));have Tcell:TL≠cell:=nocell md.tab;have ccell:c≠cell:=nocell md.code;generalize upd H2 cell (cQ o)=H2c at *;refine⟨Sum.inl 0,fl,bn,[("sheet", cell)],c,_,stK sh,sh.nodes.length,rfl,hf2,nU (c:=c) (cell:=cell),by have:=ok.n100;omega,λx H4 Q1 rx S4 q4=>?_,λxs nd h=>l8 ok nd λx hx=>fN (h x hx),λF as n H3 S3 hF ln3 las hF3 sts=>?_⟩
 ·obtain⟨i,rfl,ri⟩:=fN rx;have hi:=Sh.R_lt ok ri;have at4:=at2c.same S4;have hcl4:=S4 _ _ hcl2;obtain⟨na,hna,hst⟩:=bO at4.nodes (Qb hi);refine⟨o,Value.ref a,.ref a,S4 _ _ hf2,S4 _ _ hcc2,hcl4,hd,rfl,?_⟩;have ha4:bL H4 cell a=some (.tup [.ref li,.ref lo,.str sh.z,.ref ln]):=by rw[bt acell];exact at4.ha
  have hn4:bL H4 cell ln=some (.lst (nas.map V.ref)):=by rw[bt lncell];exact at4.hn
  refine bY (bY (ap rfl (i_c (i_ixT ha4 rfl (ap rfl ?_)))));refine(bx (v:=.ref na) (SqL.of hn4) (aU (by rw[Qe,hna];rfl)) ?_:lP K _ (.int (i:Int)) _ _);rw[qF hcl4];refine q4 na H4 (λ_ _ e=>e) ?_;rw[gE,Sh.node_of (Qb hi)];exact hst
 show cT 2 (V.ref F) _ (bL H3 cell) _;have hcl3:=S3 _ _ hcl2;have d3:∀{b u},H3 b=some u->b≠cell->bL H3 cell b=some u:=λe n=>by rw[bt n];exact e
 have Fcell:F≠cell:=λz=>by rw[z,hcl2]at hF;cases hF
 have FR:F≠R:=λz=>by rw[z,hR2]at hF;cases hF
 have tb3:cP TL bn (bL H3 cell):=by
  rcases tb2 with e|⟨c',e,q⟩
  ·exact .inl (d3 (S3 _ _ e) Tcell)
  have c'cell:c'≠cell:=λz=>by rw[z,hcl2]at q;cases q
  exact .inr ⟨c',d3 (S3 _ _ e) Tcell,d3 (S3 _ _ q) c'cell⟩
 have k13:∀b u,H b=some u->b≠TL->bL H3 cell b=some u/\b≠F:=λb u e n=>⟨d3 (S3 _ _ (k12 b u e n)) (H2R e n),λz=>by rw[<-z,k12 b u e n]at hF;cases hF⟩;have hF3d:bL H3 cell F=some (.dK (fdK (Bf.bfs (nxK (stK sh)) (Sum.inl 0) n) as)):=d3 hF3 Fcell;have hR3:bL H3 cell R=some (.dK [(Sum.inl 0,.str sh.z)]):=d3 (S3 _ _ hR2) Rcell;have at3:ShAt (bL H3 cell) a li lo ln nas sh:=at_.mono (λb xs e=>(k13 b _ e (dG tb e λ_ z=>nomatch z)).1) (λb xs e=>(k13 b _ e (dG tb e λ_ z=>nomatch z)).1)
 have sts3:∀(i:Nat) x b,(Bf.bfs (nxK (stK sh)) (Sum.inl 0) n)[i]?=some x->as[i]?=some b->aD (bL H3 cell) b (stK sh x):=λi x b e1 e2=>by
  obtain⟨vs,h1,h2⟩:=sts i x b e1 e2;refine⟨vs,d3 h1 (λz=>by rw[z,hcl3]at h1;cases h1),aE (λv st ⟨b,e,q⟩=>⟨b,e,d3 q (λz=>by rw[z,hcl3]at q;cases q)⟩) h2⟩
 have HT3:Tk TL H (bL H3 cell):=⟨λb u e n=>(k13 b u e n).1,tb3⟩;clear d3;generalize bL H3 cell=H3d at *;generalize hO:Bf.bfs (nxK (stK sh)) (Sum.inl 0) n=order at *;refine aw ?_;kt_k;refine(xq (a:=F) (u:=.dK (fdK order as)) (.inl hF3d) trivial λob=>?_);have h4:∀b,b≠F->upd H3d F (.frz ob (.dK (fdK order as))) b=H3d b:=λb n=>af n;have hF4:upd H3d F (.frz ob (.dK (fdK order as))) F=some (.frz ob (.dK (fdK order as))):=ag;generalize upd H3d F (.frz ob (.dK (fdK order as)))=H4 at *;have l4:∀b xs,H3d b=some (.lst xs)->H4 b=some (.lst xs):=λb xs e=>by rw[h4 b (λz=>by rw[z,hF3d]at e;cases e)];exact e
 have t4:∀b xs,H3d b=some (.tup xs)->H4 b=some (.tup xs):=λb xs e=>by rw[h4 b (λz=>by rw[z,hF3d]at e;cases e)];exact e
 have at4:ShAt H4 a li lo ln nas sh:=at3.mono l4 t4;have hR4:H4 R=some (.dK [(Sum.inl 0,.str sh.z)]):=by rw[h4 R FR.symm];exact hR3
 have sts4:∀(i:Nat) x b,order[i]?=some x->as[i]?=some b->aD H4 b (stK sh x):=λi x b e1 e2=>by
  obtain⟨vs,h1,h2⟩:=sts3 i x b e1 e2;exact⟨vs,l4 _ _ h1,aE (λv st ⟨b,e,q⟩=>⟨b,e,t4 _ _ q⟩) h2⟩
 have oreach:∀x∈order,∃i:Nat,x=Sum.inl (i:Int)/\sh.R i:=λx hx=>fN (Bf.cJ n x (hO▸hx));have lfd:(fdK order as).length=n:=by rw[oY (by omega)];exact las
 -- each has a row when it is gone along
 have has:∀(kvs:List (Key × V)) (j:Nat),RInv sh kvs->(∀j',j'<j->∀x,order[j']?=some x->∀y∈nxK (stK sh) x,aJ kvs y≠none)->∀x,order[j]?=some x->aJ kvs x≠none:=λkvs j inv hp x hx=>by
  cases j with
  | zero =>
   have:=Bf.mP (nx:=nxK (stK sh)) (s:=(Sum.inl 0:Key)) n;rw[hO,hx]at this;cases this;rw[inv.zero];exact λz=>nomatch z
  | succ j =>
  obtain⟨i,y,h1,_,h3,h4⟩:=Bf.iM n (j+1) x (by omega) (by rw[hO];exact hx);rw[hO]at h3;exact hp i h1 y h3 x h4
 refine s_for (tM (ap rfl ⟨F,ob,_,rfl,hF4,?_⟩));let I4:IvF:=λj σ' H'=>∃(kvs:List (Key × V)) (x3 x4 x5:Option V),σ'=[some (.ref a),some (.ref R),some (.ref F),x3,x4,x5]/\(∀b u,H4 b=some u->b≠R->H' b=some u)/\H' R=some (.dK kvs)/\RInv sh kvs/\∀j',j'<j->∀x,order[j']?=some x->∀y∈nxK (stK sh) x,aJ kvs y≠none
 refine sN I4
  ⟨_,_,_,_,rfl,λb u e _=>e,hR4,RInv.first ok,λj' h=>absurd h (Nat.not_lt_zero _)⟩ (λj σ' H' _ pv=>?_) (λj ky vl σ' H' hj pv=>?_) (λσ' H' pv=>?_)
 ·obtain⟨_,_,_,_,_,o4,_⟩:=pv;exact o4 F _ hF4 FR
 ·obtain⟨kvs,x3,x4,x5,rfl,o4,hR',inv,hp⟩:=pv
  obtain⟨x,b,hx,hb,e1,e2⟩:∃x b,order[j]?=some x/\as[j]?=some b/\ky=x/\vl=V.ref b:=by
   have hj2:=hj;unfold fdK at hj2;rw[Qe]at hj2
   cases q:(order.zip as)[j]? with
   | none=>rw[q]at hj2;cases hj2
   | some p =>
   rw[q]at hj2;cases hj2;have:=List.getElem?_zip_eq_some.mp q;exact⟨p.1,p.2,this.1,this.2,rfl,rfl⟩
  subst e1 e2;obtain⟨i,rfl,ri⟩:=oreach ky (Qn hx);obtain⟨vs,hvs,prs⟩:=sts4 j _ b hx hb;have bR:b≠R:=λz=>by rw[z,hR4]at hvs;cases hvs
  have dg:cq H' F (kV (Sum.inl (i:Int))) (some (.ref b)):=by
   refine .inl ⟨fdK order as,Sum.inl (i:Int),.inr ⟨ob,o4 F _ hF4 FR⟩,rfl,?_⟩;refine(k_ ?_ hj).symm;rw[mx];exact(List.take_sublist _ _).nodup (hO▸Bf.cK n)
  refine aw ?_;refine s_for (s_list (i_dget (ap rfl (ap rfl ⟨F,_,rfl,dg,b,rfl,⟨_,SqL.of (o4 _ _ hvs bR)⟩,?_⟩))))
  have lvs:vs.length=(sh.node i).length:=by
   have:=aL prs;rw[gE]at this;unfold a_ at this;rwa [Qa]at this
  let I5:IvF:=λi' σ' H'=>∃(kvs:List (Key × V)) (x4 x5:Option V),σ'=[some (.ref a),some (.ref R),some (.ref F),some (.int (i:Int)),x4,x5]/\(∀b u,H4 b=some u->b≠R->H' b=some u)/\H' R=some (.dK kvs)/\RInv sh kvs/\(∀j',j'<j->∀x,order[j']?=some x->∀y∈nxK (stK sh) x,aJ kvs y≠none)/\∀q∈(sh.node i).take i',aJ kvs (Sum.inl (q.2:Int))≠none
  refine cN (xs:=vs) I5
   ⟨_,_,_,rfl,o4,hR',inv,hp,λq hq=>by simp at hq⟩ (λi' σ' H' _ pv=>?_) (λi' v σ' H' hv pv=>?_) (λσ' H' pv=>?_)
  ·obtain⟨_,_,_,_,o5,_⟩:=pv;exact SqL.of (o5 _ _ hvs bR)
  ·obtain⟨kvs,x4,x5,rfl,o5,hR5,inv5,hp5,hq5⟩:=pv;obtain⟨st,hst,tp,rfl,htp⟩:=paired_get prs hv;rw[gE]at hst;unfold a_ at hst;rw[Qe]at hst
   cases hpq:(sh.node i)[i']? with
   | none=>rw[hpq]at hst;cases hst
   | some q =>
   rw[hpq]at hst;cases hst;have hqm:q∈sh.node i:=Qn hpq;have htp':H' tp=some (.tup [.str q.1,.int (q.2:Int)]):=o5 _ _ htp (λz=>by rw[z,hR4]at htp;cases htp);refine⟨tp,_,rfl,SqT.of htp',rfl,_,_,rfl,aw ⟨_,_,rfl,aw ⟨rfl,?_⟩⟩⟩;have hrow:=has kvs j inv5 hp5 _ hx;obtain⟨y,hy,sty,_⟩:=inv5.at hrow;refine s_drop (uw (ap rfl ⟨R,rfl,.inl ⟨_,.inl hR5⟩,ap rfl ?_⟩));refine i_call (bg (ap rfl (bg (i_dget (ap rfl (ap rfl ⟨R,_,rfl,by have:=cq.k (k:=Sum.inl (i:Int)) hR5;rw[hy]at this;exact this,bg (ap rfl (bv ?_))⟩))))));have at5:ShAt H' a li lo ln nas sh:=at4.mono (λb xs e=>o5 b _ e (λz=>by rw[z,hR4]at e;cases e)) (λb xs e=>o5 b _ e (λz=>by rw[z,hR4]at e;cases e));refine⟨a,li,lo,ln,nas,sh,y,q.1,rfl,at5,ok,sty,ok.names _ (Sh.node_mem (Sh.R_lt ok ri)) q hqm,λH6 S6=>?_⟩
   have nextq:∀{kv:List (Key × V)},(∀q'∈(sh.node i).take i',aJ kv (Sum.inl (q'.2:Int))≠none)->aJ kv (Sum.inl (q.2:Int))≠none->∀q'∈(sh.node i).take (i'+1),aJ kv (Sum.inl (q'.2:Int))≠none:=λh1 h2 q' hq'=>by
    rw[Xo,hpq]at hq';rcases Qk.mp hq' with h|h
    ·exact h1 q' h
    have:q'=q:=by simpa using h
    subst this;exact h2
   refine⟨kvs,Sum.inl (q.2:Int),S6 _ _ hR5,rfl,λv hv=>?_,λhn=>⟨by have:=inv5.few ok;have:=ok.n100;omega,?_⟩⟩
   ·exact⟨kvs,_,_,rfl,λb u e n=>S6 _ _ (o5 b u e n),S6 _ _ hR5,inv5,hp5,nextq hq5 (by rw[hv];exact λz=>nomatch z)⟩
   refine⟨_,_,_,rfl,λb u e n=>by rw[af n];exact S6 _ _ (o5 b u e n),ag,inv5.put ok ri hqm hy hn,λj' h x hx' y hy'=>jh (hp5 j' h x hx' y hy'),nextq (λq' h=>jh (hq5 q' h)) ?_⟩;rw[b9,Qv rfl];exact λz=>nomatch z
  obtain⟨kvs,x4,x5,rfl,o5,hR5,inv5,hp5,hq5⟩:=pv;refine⟨kvs,_,_,_,rfl,o5,hR5,inv5,λj' h x hx' y hy'=>?_⟩;by_cases c:j'<j
  ·exact hp5 j' c x hx' y hy'
  have:j'=j:=by omega
  subst this;rw[hx]at hx';cases hx';obtain⟨q,hq,rfl⟩:=kJ.mp hy';exact hq5 q (by rw[lvs,QP (Qh _)];exact hq)
 obtain⟨kvs,x3,x4,x5,rfl,o4,hR',inv,hp⟩:=pv;rw[lfd]at hp;refine⟨o4 F _ hF4 FR,?_⟩;refine s_ret (ap rfl ?_);refine k R kvs _ ⟨λb u e nT=>?_,?_⟩ hR (by rw[bQ FR.symm];exact hR') ⟨inv,λi ri=>?_⟩
 ·obtain⟨e3,nF⟩:=k13 b u e nT;rw[bQ nF];exact o4 b u (by rw[h4 b nF];exact e3) (ai e hR)
 ·have bk:∀{b u},H3d b=some u->b≠F->b≠R->back H3d F H' b=some u:=λ{b u} e n1 n2=>by rw[bQ n1];exact o4 b u (by rw[h4 b n1];exact e) n2
  rcases tb3 with e|⟨c',e,q⟩
  ·exact .inl (bk e (λz=>by rw[z,hF3d]at e;cases e) (λz=>by rw[z,hR3]at e;cases e))
  exact .inr ⟨c',bk e (λz=>by rw[z,hF3d]at e;cases e) (λz=>by rw[z,hR3]at e;cases e),bk q (λz=>by rw[z,hF3d]at q;cases q) (λz=>by rw[z,hR3]at q;cases q)⟩
 have hm:(Sum.inl (i:Int):Key)∈order:=hO▸(Bf.uD (by rw[hO];omega) _).mpr (p6 ri);obtain⟨j,hj,e⟩:=QH.mp hm;exact has kvs j inv (λj' h=>hp j' (by omega)) _ (by rw[Qb hj,e])
end
structure SgsOk (s:Sh) (vs:List V):Prop where
 len:vs.length=s.nodes.length
 row:∀i,s.R i->∃y,vs[i]?=some (.str y)/\StOk s.ws.length y/\∀lam,Lab s lam->lam i=y
 none:∀i,i<s.nodes.length->¬s.R i->vs[i]?=some .non
def jR (TL:Addr):Sp:=λvs H Q _=>∃(a li lo ln:Addr) (nas:B3) (s:Sh),vs=[.ref a]/\ShAt H a li lo ln nas s/\ShOk s/\cP TL bn H/\∀(L:Addr) (us:List V) H',Tk TL H H'->H L=none->H' L=some (.lst us)->SgsOk s us->Q (.ref L) H'
section
theorem lE:FnScope ["sheet", "rows"] ["sheet"] (ak (top 16)):=by fin2
theorem rY {TL:Addr} {f:Addr} {fd:FuncData} (Fu:Fun K "signs_of" "signs_of" (top 16) f fd) (T:Txt K mg TT) (f_rows_found:Fn P w K mg base "rows_found" ["sheet"] 3 (ng TL)):FnOk P w K mg base CX0 4 f fd ["sheet"] (jR TL):=by
 have S:=lE;refine Fu.ok S (by room) (λcdv A outer s H vs Q E hr h=>?_);obtain⟨a,li,lo,ln,nas,sh,rfl,at_,ok,tb,k⟩:=h;have hu:=cF hr
 refine⟨_,(pss_cons (aB 1 S.nd (aK f_rows_found hr (aa (pv 0) ae ad)))
  (pss_one (aN (jj "node" [("rows", 1)] (bP (by rfl) T.n_range (aa (am ao (by rfl) T.n_len QN (aa (au aW (pv 0) ah) ae)) ae se_call)) (λ_ _ _ _=>(rG hu (pv 1) (pv 0) ⟨rfl,rfl,rfl,rfl⟩)))))),?_⟩
 x_go;lk;refine⟨a,li,lo,ln,nas,sh,rfl,at_,ok,tb,λR kvs H1 t1 hR hR1 rok=>?_⟩;have at1:ShAt H1 a li lo ln nas sh:=at_.mono (t1.lst tb) (t1.tup tb);have ha1:=at1.ha;have lnas:nas.length=sh.nodes.length:=aL at1.nodes;have n100:=ok.n100;lk;refine cG ?_;lk;refine⟨_,_,rfl,Or.inl (SqL.of at1.hn),?_⟩;lk;refine⟨by rw[Qa];omega,by rw[Qa];omega,λL hL=>?_⟩;rw[QZ,Qa,lnas]
 have HL:H L=none:=by
  cases e:H L with
  | none=>rfl
  | some o =>
  by_cases c:L=TL
  ·obtain⟨ps,e2⟩:=qH t1.tab;rw[c,e2]at hL;cases hL
  rw[t1.old _ _ e c]at hL;cases hL
 let I6:IvC:=λn H' ys=>ax H1 H'/\H' L=some (.lst ys)/\ys=(List.range n).map λ(i:Nat)=>(aJ kvs (Sum.inl (i:Int))).getD .non;refine dA (n:=sh.nodes.length) I6 ⟨aq hL,ag,rfl⟩ (λi H' ys pv=>pv.2.1) (λi H' ys hi pv=>?_) (λH' ys pv=>?_)
 ·obtain⟨S2,hl,rfl⟩:=pv;rw[Int.zero_add];refine aw ⟨by repeat' (first|exact trivial|refine⟨rfl,?_⟩),i_yes (iteT ?_)⟩;refine ux (ap rfl ⟨R,rfl,.inl ⟨_,.inl (S2 _ _ hR1)⟩,ap rfl ⟨_,cq.k (k:=Sum.inl (i:Int)) (S2 _ _ hR1),?_⟩⟩);refine cs.mk hl hi (by rw[Qa,Xj];omega) ⟨bq S2 hL,ag,?_⟩;rw[List.range_succ,Qr];rfl
 obtain⟨S2,hl,rfl⟩:=pv;refine k L _ H' (t1.trans (Tk.of t1.tab S2)) HL hl ⟨by rw[Qa,Xj],λi ri=>?_,λi hi nr=>?_⟩
 ·obtain⟨y,hy,st,l⟩:=rok.inv.at (rok.all i ri);refine⟨y,?_,st,l⟩;rw[Qe,List.getElem?_range (Sh.R_lt ok ri)];show some ((aJ kvs (Sum.inl (i:Int))).getD .non)=_;rw[hy];rfl
 rw[Qe,List.getElem?_range hi];show some ((aJ kvs (Sum.inl (i:Int))).getD .non)=_
 cases e:aJ kvs (Sum.inl (i:Int)) with
 | none=>rfl
 | some v =>
 obtain⟨j,y,ej,_,r,_⟩:=rok.inv.sound _ _ e;cases ej;exact absurd r nr
end
theorem fk {α β γ:Type} {F:α->γ->Prop} {f:β->γ}:∀{vs:List α} {hs:List β},Paired F vs (hs.map f)->Paired (λv p=>F v (f p)) vs hs
 | _,[],p=>by cases p;exact .nil
 | _,b::hs,p=>by
  rw[QL]at p
  cases p with
  | cons a t=>exact .cons a (fk t)
theorem fj {α β γ:Type} {F:α->γ->Prop} {f:β->γ}:∀{vs:List α} {hs:List β},Paired (λv p=>F v (f p)) vs hs->Paired F vs (hs.map f)
 | _,[],p=>by cases p;exact .nil
 | _,b::hs,p=>by
  cases p with
  | cons a t=>exact .cons a (fj t)
def bd (s:Sh) (i:Nat):List Str:=s.outs.filter λo=>decide (o∈(s.node i).map (·.1))
def gS:Sp:=λvs H Q _=>∃(a li lo ln:Addr) (nas:B3) (s:Sh) (i:Nat),vs=[.ref a,.int (i:Int)]/\ShAt H a li lo ln nas s/\ShOk s/\i<s.nodes.length/\∀l H',ax H H'->H l=none->H' l=some (.lst ((bd s i).map V.str))->Q (.ref l) H'
theorem gd {k:Key}:∀{qs kvs:List (Key × V)},(aJ (bJ kvs qs) k).isSome=((aJ kvs k).isSome || qs.any λp=>decide (p.1=k))
 | [],kvs=>by simp[bJ]
 | q::qs,kvs=>by
  show (aJ (bJ (be kvs q.1 q.2) qs) k).isSome=_;rw[gd (qs:=qs),b9];rw[List.any_cons];by_cases e:k=q.1
  ·rw[Qv e,QU e.symm];simp
  rw[Qz e,QE (λz=>e z.symm)];simp
variable {vs us:List V}
theorem uh {node:List (Str × Nat)} (h:Paired (λv (s:V × Key)=>∃b,v=.ref b/\H b=some (.tup [s.1,kV s.2])) vs (a_ node)):Paired (tq H) vs (node.map λp=>(p.1,V.int (p.2:Int))) :=
 fj (aE (λv p ⟨b,e,q⟩=>⟨b,e,q⟩) (fk h))
section
theorem e9:FnScope ["sheet", "node", "turns"] ["sheet", "node"] (ak (top 18)):=by fin2
theorem pO {f:Addr} {fd:FuncData} (Fu:Fun K "outputs_wanted" "outputs_wanted" (top 18) f fd) (T:Txt K mg TT):FnOk P w K mg base CX0 1 f fd ["sheet", "node"] gS:=by
 have S:=e9;refine Fu.ok S (by room) (λcdv A outer s H vs Q E hr h=>?_);obtain⟨a,li,lo,ln,nas,sh,i,rfl,at_,ok,hi,k⟩:=h;have hu:=cF hr;refine'⟨?_,?bb,?_⟩
 case bb =>
  walk_at "b";exact aB 2 S.nd (pK rfl (by rfl) T.n_dict (aa (au aM (au aW (pv 0) ah) (pv 1)) ae));exact(aN (lV (tgs:=["name"]) (cap:=[("turns", 2)]) rfl ⟨rfl,rfl,rfl,rfl,rfl,rfl⟩ (bK (au aW (pv 0) ah)) (λ_ _ _ _=>(ce (i:=0) (show List.Nodup [("name" : Str),("turns" : Str)] by decide +kernel) rfl (by z_go))) (λ_ _ _ _=>(hX (kz (rL hu (pv 0) (pv 1))))) (λ_ _ _ _=>(pv 0))))
 x_go;have ha:=at_.ha;obtain⟨na,hna,vs,hv,pv⟩:=bO at_.nodes (Qb hi);have lv:=aL pv;unfold a_ at lv;rw[Qa]at lv;have few:=ok.few _ (Xe hi);lk;unfold og;lk;refine bx (v:=.ref na) (SqL.of at_.hn) (aU (by rw[Qe,hna];rfl)) ?_;refine bv ⟨na,vs,_,rfl,SqL.of hv,by omega,uh pv,λd hd=>?_⟩;ctx_has H d H1 S1 q1 aj hd;have ha1:=S1 _ _ ha;have ho1:=S1 _ _ at_.ho;lk;refine cG ?_;lk;refine⟨lo,rfl,⟨_,SqL.of ho1⟩,λL hL=>?_⟩
 have hd1:H L=none:=by
  cases e:H L with
  | none=>rfl
  | some o=>rw[S1 _ _ e]at hL;cases hL
 have lo11:sh.outs.length<=11:=by
  have:=ok.w11;unfold Sh.ws at this;rw[Qd]at this;omega
 let I7:IvC:=λj Hc ys=>ax H1 Hc/\Hc L=some (.lst ys)/\ys=((sh.outs.take j).filter λo=>decide (o∈(sh.node i).map (·.1))).map V.str;refine iG (xs:=sh.outs.map V.str) I7 ⟨aq hL,ag,by simp⟩ (λj Hc ys p=>⟨p.2.1,SqL.of (p.1 _ _ ho1)⟩) (λj v Hc ys e p=>?_) (λHc ys p=>?_)
 ·obtain⟨Sm,hdm,rfl⟩:=p;rw[Qe]at e
  cases ex:sh.outs[j]? with
  | none=>rw[ex]at e;cases e
  | some x =>
  rw[ex]at e;cases e;have hm:j<sh.outs.length:=(Qc.mp ex).1;refine aw ⟨by repeat' (first|exact trivial|refine⟨rfl,?_⟩),?_⟩;lk;refine vE (ap rfl (ap rfl ⟨d,_,rfl,.inl ⟨_,Sum.inr x,Rd.of (Sm _ _ q1),rfl,rfl⟩,?_⟩))
  have hb:(aJ (bJ [] (fD (sh.nodes[i].map λp=>(p.1,V.int (p.2:Int))))) (Sum.inr x:Key)).isSome=decide (x∈(sh.node i).map (·.1)):=by
   rw[gd,Sh.node_of (Qb hi)];rw[Bool.eq_iff_iff];simp[aJ,fD,List.any_eq_true]
  have tk:(sh.outs.take (j+1)).filter (λo=>decide (o∈(sh.node i).map (·.1)))=(sh.outs.take j).filter (λo=>decide (o∈(sh.node i).map (·.1)))++[x].filter (λo=>decide (o∈(sh.node i).map (·.1))):=by rw[Xo,ex,List.filter_append];rfl
  rw[hb];refine⟨_,rfl,?_⟩;have lfl:=List.length_filter_le (λo=>decide (o∈(sh.node i).map (·.1))) (sh.outs.take j);rw[QF]at lfl
  cases c:decide (x∈(sh.node i).map (·.1)) with
  | true =>
   refine iteT ?_;refine ap rfl (cs.mk hdm (by rw[Qa];exact hm) (by rw[Qa];omega) ⟨bq Sm hL,ag,?_⟩);rw[tk,List.filter_cons_of_pos (by exact c),List.filter_nil,Qr];rfl
  | false =>
  refine iteF ?_;refine⟨(sh.outs.map V.str).length-(j+1),by rw[Qa];omega,rfl,by rw[Qa];omega,Sm,hdm,?_⟩;rw[tk,List.filter_cons_of_neg (by rw[c];exact Qj),List.filter_nil,Xa]
 obtain⟨Sm,hdm,rfl⟩:=p;refine k L Hc (S1.trans Sm) hd1 ?_;rw[hdm,Qa,List.take_length];rfl
end
variable {α:Type}
theorem jz {xs:List α} {d x:α} (h:xs[i]?=some x):xs.getD i d=x:=by rw[Qm,h];rfl
variable {ys ins outs rows zs ns:List Str}
theorem qP {xs:List Str}:(((xs.map V.str).length==(ys.map V.str).length)&&(List.range (xs.map V.str).length).all λj=>eqV ((xs.map V.str).getD j .non) ((ys.map V.str).getD j .non))=decide (xs=ys):=by
 rw[Bool.eq_iff_iff,Xp,decide_eq_true_iff,Xi]
 constructor
 ·rintro⟨h1,h2⟩;have hl:xs.length=ys.length:=by simpa using h1
  refine List.ext_getElem hl λj h3 h4=>?_;have:=h2 j (Xc.mpr (by rw[Qa];exact h3));rw[Qm,Qm,Qe,Qe,Qb h3,Qb h4]at this;have e:(xs[j]==ys[j])=true:=this;simpa using e
 rintro rfl;refine⟨by simp,λj hj=>?_⟩;have hj:=Xc.mp hj;rw[Qa]at hj;rw[Qm,Qe,Qb hj];show (xs[j]==xs[j])=true;simp
theorem vD {K:PySem.W.Frag} {xs:List Str} (h1:H a=some (.lst (xs.map V.str))) (h2:H b=some (.lst (ys.map V.str))) (q:Q (.bl (!decide (xs=ys))) H):q_ K true (.ref a) (.ref b) H Q:=by
 refine⟨a,b,_,_,λj=>eqV ((xs.map V.str).getD j .non) ((ys.map V.str).getD j .non),rfl,rfl,SqL.of h1,SqL.of h2,λj x y e1 e2=>?_,?_⟩
 ·show EqD K H 8 x y (eqV ((xs.map V.str).getD j .non) ((ys.map V.str).getD j .non));rw[jz e1,jz e2];rw[Qe]at e1 e2
  cases c1:xs[j]? with
  | none=>rw[c1]at e1;cases e1
  | some z1 =>
  cases c2:ys[j]? with
  | none=>rw[c2]at e2;cases e2
  | some z2 =>
  rw[c1]at e1;rw[c2]at e2;cases e1;cases e2;exact .flat rfl rfl
 rw[Qv rfl,qP];exact q
abbrev gv (x:Nat):V:=.int (x:Int)
def PrI (H:Hp) (v:V) (p:Nat × Nat):Prop:=∃b,v=.ref b/\H b=some (.tup [gv p.1,gv p.2])
def PairsAt (H:Hp) (L:Addr) (ps:List (Nat × Nat)):Prop:=∃vs,H L=some (.lst vs)/\Paired (PrI H) vs ps
variable {ps:List (Nat × Nat)}
theorem PairsAt.same (S:ax H H') (h:PairsAt H L ps):PairsAt H' L ps:=by
 obtain⟨vs,h1,h2⟩:=h;exact⟨vs,S _ _ h1,aE (λv p ⟨b,e,q⟩=>⟨b,e,S _ _ q⟩) h2⟩
theorem PairsAt.add (h1:H L=some (.lst vs)) (h2:Paired (PrI H) vs ps) (ht:H t=some (.tup [gv i,gv j])):PairsAt (upd H L (.lst (vs++[.ref t]))) L (ps++[(i,j)]):=by
 have off:∀{b xs},H b=some (.tup xs)->b≠L:=λe z=>by rw[z,h1]at e;cases e
 exact⟨_,ag,b0 (aE (λv p ⟨b,e,q⟩=>⟨b,e,by rw[af (off q)];exact q⟩) h2) ⟨t,rfl,by rw[af (off ht)];exact ht⟩⟩
def eA (f:Nat->Nat->Bool) (i m:Nat):List (Nat × Nat):=((List.range m).filter λj=>decide (i<j)&&f i j).map λj=>(i,j)
def eR (f:Nat->Nat->Bool) (n i:Nat):List (Nat × Nat):=(List.range i).flatMap λi=>eA f i n
theorem lN (f:Nat->Nat->Bool) (i m:Nat):(eA f i m).length<=m:=by
 unfold eA;rw[Qa];exact QQ (List.length_filter_le _ _) (by rw[Xj];exact Qh _)
theorem mT (f:Nat->Nat->Bool) (n:Nat):∀i,(eR f n i).length<=i*n
 | 0=>by simp[eR]
 | i+1=>by
  have ih:=mT f n i;have e:eR f n (i+1)=eR f n i++eA f i n:=by unfold eR;rw[List.range_succ,List.flatMap_append];simp
  rw[e,Qd,Nat.succ_mul];exact Nat.add_le_add ih (lN f i n)
theorem qx (f:Nat->Nat->Bool) (n i:Nat):eR f n (i+1)=eR f n i++eA f i n:=by unfold eR;rw[List.range_succ,List.flatMap_append];simp
theorem nv (f:Nat->Nat->Bool) (i:Nat):eA f i (i+1)=[]:=by
 unfold eA;rw[List.filter_eq_nil_iff.mpr,List.map_nil];intro j hj;have:=Xc.mp hj;rw[QE (by omega)];simp
variable {f:Nat->Nat->Bool}
theorem v0 (h:i<m) (c:f i m=true):eA f i (m+1)=eA f i m++[(i,m)]:=by
 unfold eA;rw[List.range_succ,List.filter_append,Qr,List.filter_cons_of_pos (by rw[QU h,c];rfl)];rfl
theorem v4 (h:i<m) (c:f i m=false):eA f i (m+1)=eA f i m:=by
 unfold eA;rw[List.range_succ,List.filter_append,Qr,List.filter_cons_of_neg (by rw[c];simp)];simp
noncomputable def clB (s:Sh) (lam:Nat->Str) (i j:Nat):Bool:=@decide (s.R i/\s.R j/\lam i=lam j/\bd s i≠bd s j) (Classical.propDecidable _)
theorem mI (h:¬(s.R i/\s.R j/\lam i=lam j/\bd s i≠bd s j)):clB s lam i j=false:=@QE _ (Classical.propDecidable _) h
theorem vK (h:s.R i/\s.R j/\lam i=lam j/\bd s i≠bd s j):clB s lam i j=true:=@QU _ (Classical.propDecidable _) h
def ot (TL:Addr):Sp:=λvs H Q _=>∃(a li lo ln:Addr) (nas:B3) (s:Sh) (lam:Nat->Str),vs=[.ref a]/\ShAt H a li lo ln nas s/\ShOk s/\Lab s lam/\cP TL bn H/\∀(L:Addr) H',Tk TL H H'->H L=none->PairsAt H' L (eR (clB s lam) s.nodes.length s.nodes.length)->Q (.ref L) H'
theorem Tk.same (t:Tk TL H H') (S:ax H' H''):Tk TL H H'':=⟨λb o e n=>S _ _ (t.old b o e n),gD t.tab S⟩
theorem vY {ta:TA} {R:It->Hp->Prop} (q:ta U H λvs H1=>∃i j:Int,vs=[.int i,.int j]/\(-(2 ^ 62)<=i/\i<2 ^ 62/\-(2 ^ 62)<=j/\j<2 ^ 62)/\R (Itr i (j-i).toNat) H1):vH ta U H R:=q
section
theorem gY:FnScope ["sheet", "rows", "wanted", "pairs", "node", "row", "later"] ["sheet"] (ak (top 19)):=by fin2
theorem sf {TL:Addr} {f:Addr} {fd:FuncData} (Fu:Fun K "clash_pairs" "clash_pairs" (top 19) f fd) (T:Txt K mg TT) (f_signs_of:Fn P w K mg base "signs_of" ["sheet"] 4 (jR TL)) (f_outputs_wanted:Fn P w K mg base "outputs_wanted" ["sheet", "node"] 1 gS):FnOk P w K mg base CX0 5 f fd ["sheet"] (ot TL):=by
 have S:=gY;refine Fu.ok S (by room) (λcdv A outer s H vs Q E hr h=>?_);obtain⟨a,li,lo,ln,nas,sh,lam,rfl,at_,ok,lb,tb,k⟩:=h;have hu:=cF hr;refine'⟨?_,?bb,?_⟩
 case bb =>
  walk_at "b";exact aB 1 S.nd (aK f_signs_of hr (aa (pv 0) ae ad));exact(u6 (j:=2) S.nd rfl (by z_go) (tgs:=["node"]) (cap:=[("sheet", 0)]) rfl ⟨rfl,rfl,rfl,rfl,rfl,rfl⟩ (bP (by rfl) T.n_range (aa (am ao (by rfl) T.n_len QN (aa (pv 1) ae ad)) ae se_call)) (λ_ _ _ _=>(ce (i:=0) (show List.Nodup [("node" : Str),("sheet" : Str)] by decide +kernel) rfl (by z_go))) (λ_ _ _ _=>fh) (λ_ _ _ _=>(aK f_outputs_wanted hr (aa (pv 1) (aa (pv 0) ae ad) ad))));exact aB 3 S.nd (pe_lst ae);walk_at "f";exact(kB (by rfl) T.n_enumerate (aa (pv 1) ae ad));exact(fR rfl (br (bU 4 S.nd) (br (bU 5 S.nd) cS)));walk_at "p";walk_at "f";exact(pI (by rfl) T.n_range (aa (aA bX (pv 4) ah) (aa (am ao (by rfl) T.n_len QN (aa (pv 1) ae ad)) ae se_call)));exact(bU 6 S.nd);walk_at "p";exact(PW.pt (fP (aH oE (pv 5) hZ rfl) (fP (aH jo (pv 5) (au aM (pv 1) (pv 6)) (bi _)) (fe (aH (kI hr.units) (au aM (pv 2) (pv 4)) (au aM (pv 2) (pv 6)) (bi _))))));refine' bV (cE Qt Q8 Q9 bA (pv 3) ?a)
  case a =>
   walk_at "q";exact(pv 4);exact(pv 6)
  exact(aN (pv 3))
 x_go;have n100:=ok.n100;have n1:=ok.n1;lk;refine⟨a,li,lo,ln,nas,sh,rfl,at_,ok,tb,λLr us H1 tk1 Lr0 q1 so=>?_⟩;have at1:ShAt H1 a li lo ln nas sh:=at_.mono (λb xs e=>tk1.old b _ e (dG tb e λ_ z=>nomatch z)) (λb xs e=>tk1.old b _ e (dG tb e λ_ z=>nomatch z));have lus:=so.len;lk;refine cG ?_;lk;refine⟨by omega,by omega,λLw hLw=>?_⟩;rw[QZ,lus];let I8:IvC:=λm H' ys=>ax H1 H'/\H' Lw=some (.lst ys)/\∃bs:B3,ys=bs.map V.ref/\bs.length=m/\∀(j:Nat) b,bs[j]?=some b->b≠Lw/\H' b=some (.lst ((bd sh j).map V.str))
 refine dA (n:=sh.nodes.length) I8
  ⟨aq hLw,ag,[],rfl,rfl,λj b h=>by simp at h⟩ (λm H' ys p=>p.2.1) (λm H' ys hm p=>?_) (λH2 ys p=>?_)
 ·obtain⟨Sm,hd,bs,rfl,lb',hb⟩:=p;refine aw ⟨by repeat' (first|exact trivial|refine⟨rfl,?_⟩),i_yes (iteT ?_)⟩;rw[show (0:Int)+(m:Int)=(m:Int) from Int.zero_add _];refine i_call (bg (ap rfl (bg (ap rfl (bv ⟨a,li,lo,ln,nas,sh,m,rfl,at1.same Sm,ok,hm,λl H3 S3 hl3 q3=>?_⟩)))));have lLw:l≠Lw:=λz=>by rw[z,hd]at hl3;cases hl3
  refine cs.mk (S3 _ _ hd) hm (by rw[Qa];omega) ⟨bq (Sm.trans S3) hLw,ag,bs++[l],by rw[Qr];rfl,by rw[Qd,lb'];rfl,λj b e=>?_⟩;by_cases c:j<bs.length
  ·rw[QT c]at e;obtain⟨e1,e2⟩:=hb j b e;exact⟨e1,by rw[af e1];exact S3 _ _ e2⟩
  have lj:=(Qc.mp e).1;rw[Qd,List.length_singleton]at lj;rw[QK (by omega),show j-bs.length=0 by omega]at e;cases e;rw[show j=m by omega];exact⟨lLw,by rw[af lLw];exact q3⟩
 obtain⟨S2,q2,bs,rfl,lbs,hbs⟩:=p
 have wat:∀j,j<sh.nodes.length->∃b,bs[j]?=some b/\H2 b=some (.lst ((bd sh j).map V.str)):=λj hj=>by
  have hj':j<bs.length:=by omega
  exact⟨_,Qb hj',(hbs j _ (Qb hj')).2⟩
 have tk2:=tk1.same S2;have q12:=S2 _ _ q1;clear hbs;refine aw ?_;lk;refine⟨by simp[sizeLine],λLp hLp=>?_⟩;ctx_has H2 Lp H3 S3 q3 aj hLp
 have Lp0:H Lp=none:=by
  cases e:H Lp with
  | none=>rfl
  | some o =>
  exfalso;by_cases c:Lp=TL
  ·obtain⟨ps,e2⟩:=qH tk2.tab;rw[<-c,hLp]at e2;cases e2
  rw[tk2.old _ _ e c]at hLp;cases hLp
 lk;have tk3:=tk2.same S3;have q13:=S3 _ _ q12;have q23:=S3 _ _ q2;refine bg (ap rfl (bv ⟨Lr,rfl,⟨_,SqL.of q13⟩,?_⟩));have LpF:∀{H':Hp} {o:HO},ax H2 H'->ax H2 (upd H' Lp o):=λS'=>bq S' hLp
 have fu:∀j,j<sh.nodes.length->(∃y,us[j]?=some (.str y)/\sh.R j/\lam j=y)\/(us[j]?=some .non/\¬sh.R j):=λj hj=>by
  by_cases c:sh.R j
  ·obtain⟨y,e1,_,e3⟩:=so.row j c;exact .inl ⟨y,e1,c,e3 lam lb⟩
  exact .inr ⟨so.none j hj c,c⟩
 let I9:IvF:=λi σ' H'=>∃x4 x5 x6:Option V,σ'=[some (.ref a),some (.ref Lr),some (.ref Lw),some (.ref Lp),x4,x5,x6]/\ax H2 H'/\PairsAt H' Lp (eR (clB sh lam) sh.nodes.length i)
 refine iB (xs:=us) I9
  ⟨_,_,_,rfl,S3,[],q3,.nil⟩ (λi σ' H' _ pv=>by obtain⟨_,_,_,_,Sm,_⟩:=pv;exact SqL.of (Sm _ _ q12)) (λi v σ' H' t hv pv ht=>?_) (λσ' H' pv=>?_)
 ·obtain⟨x4,x5,x6,rfl,Sm,pr⟩:=pv;have hi:i<sh.nodes.length:=by rw[<-lus];exact(Qc.mp hv).1
  refine⟨t,_,rfl,SqT.of ag,rfl,?_⟩;refine⟨_,_,rfl,aw ⟨_,_,rfl,aw ⟨rfl,?_⟩⟩⟩;have St:=aq (o:=.tup [.int (i:Nat),v]) ht;have Smt:=Sm.trans St;have prt:=pr.same St;generalize upd H' t (.tup [.int (i:Nat),v])=Ht at *;clear pr Sm St ht;have q1t:=Smt _ _ q12;refine s_for (vY ?_);lk;refine⟨_,_,rfl,⟨by omega,by omega,by omega,by omega⟩,?_⟩;rw[lus,show ((sh.nodes.length:Int)-((i:Int)+1)).toNat=sh.nodes.length-(i+1) by omega];let I10:IvF:=λm σ' H'=>∃x6:Option V,σ'=[some (.ref a),some (.ref Lr),some (.ref Lw),some (.ref Lp),some (.int (i:Nat)),some v,x6]/\ax H2 H'/\PairsAt H' Lp (eR (clB sh lam) sh.nodes.length i++eA (clB sh lam) i (i+1+m))
  refine cZ (n:=sh.nodes.length-(i+1)) I10
   ⟨_,rfl,Smt,by rw[Nat.add_zero,nv,Xa];exact prt⟩ (λm σ' H' hm pv=>?_) (λσ' H' pv=>?_)
  ·obtain⟨x6,rfl,Sm,pr⟩:=pv;have hj:i+1+m<sh.nodes.length:=by omega
   have q1m:=Sm _ _ q12;have q2m:=Sm _ _ q2;refine aw ?_;rw[show ((i:Int)+1)+(m:Int)=((i+1+m:Nat):Int) by omega]
   have nop:clB sh lam i (i+1+m)=false->∃x6:Option V,[some (.ref a),some (.ref Lr),some (.ref Lw),some (.ref Lp),some (.int (i:Nat)),some v,some (.int ((i+1+m:Nat):Int))]=[some (.ref a),some (.ref Lr),some (.ref Lw),some (.ref Lp),some (.int (i:Nat)),some v,x6]/\ax H2 H'/\PairsAt H' Lp (eR (clB sh lam) sh.nodes.length i++eA (clB sh lam) i (i+1+(m+1))):=λc =>
    ⟨_,rfl,Sm,by rw[show i+1+(m+1)=(i+1+m)+1 from rfl,v4 (by omega) c];exact pr⟩
   lk;refine⟨rfl,_,rfl,?_⟩;rcases fu i hi with⟨y,e1,ri,ly⟩|⟨e1,nr⟩
   ·rw[e1]at hv;cases hv;refine ifT rfl ?_;lk;rcases fu _ hj with⟨y',e2,rj,ly'⟩|⟨e2,nr⟩
    ·refine bx (v:=.str y') (SqL.of q1m) (aU e2) ?_;refine i_eq rfl ⟨_,rfl,?_⟩;by_cases c:y=y'
     ·refine ifT (QU (by rw[c])) ?_;obtain⟨b1,f1,g1⟩:=wat i hi;obtain⟨b2,f2,g2⟩:=wat _ hj;lk;refine bx (v:=.ref b1) (SqL.of q2m) (aU (by rw[Qe,f1];rfl)) ?_;lk;refine bx (v:=.ref b2) (SqL.of q2m) (aU (by rw[Qe,f2];rfl)) ?_;refine vD (Sm _ _ g1) (Sm _ _ g2) ⟨_,rfl,?_⟩;by_cases cw:bd sh i=bd sh (i+1+m)
      ·refine ifF (by rw[QU cw];rfl) ?_;lk;exact nop (mI λh=>h.2.2.2 cw)
      refine ifT (by rw[QE cw];rfl) ?_;obtain⟨vs,hvs,pvs⟩:=pr;lk;refine⟨by simp[sizeLine],λt ht=>?_⟩;have St:=aq (o:=.tup [.int (i:Nat),.int ((i+1+m:Nat):Int)]) ht;have pl:=aL pvs;rw[Qd]at pl;have l1:=mT (clB sh lam) sh.nodes.length i;have l2:=lN (clB sh lam) i (i+1+m);have l3:i*sh.nodes.length<=100*100:=Nat.mul_le_mul (by omega) n100;refine bv (fE (St _ _ hvs) (by omega) ?_);refine⟨_,rfl,LpF (Sm.trans St),?_⟩;rw[show i+1+(m+1)=(i+1+m)+1 from rfl,v0 (by omega) (vK ⟨ri,rj,by rw[ly,ly',c],cw⟩),<-Q0];exact PairsAt.add (St _ _ hvs) (aE (λv p ⟨b,e,q⟩=>⟨b,e,St _ _ q⟩) pvs) ag
     refine ifF (QE (λz=>c (V.str.inj z))) ?_;lk;exact nop (mI λh=>c (by rw[<-ly,<-ly'];exact h.2.2.1))
    refine bx (v:=.non) (SqL.of q1m) (aU e2) ?_;refine i_eq rfl ⟨_,rfl,?_⟩;refine ifF (QE (λz=>nomatch z)) ?_;lk;exact nop (mI λh=>nr h.2.1)
   rw[e1]at hv;cases hv;refine ifF rfl ?_;lk;exact nop (mI λh=>nr h.1)
  obtain⟨x6,rfl,Sm,pr⟩:=pv;rw[show i+1+(sh.nodes.length-(i+1))=sh.nodes.length by omega,<-qx]at pr;exact⟨_,_,_,rfl,Sm,pr⟩
 obtain⟨x4,x5,x6,rfl,Sm,pr⟩:=pv;rw[lus]at pr;lk;exact k Lp H' (tk2.same Sm) Lp0 pr
end
theorem cf {nm:Str}:∀{ns:List Str},inV (.str nm) (ns.map V.str)=true↔nm∈ns
 | []=>by simp[inV]
 | x::ns=>by
  have ih:=cf (nm:=nm) (ns:=ns);unfold inV at ih ⊢;rw[QL,List.any_cons,Bool.or_eq_true,ih,Qu]
  have:eqV (.str x) (.str nm)=true↔nm=x:=by
   show decide (x=nm)=true↔_;rw[decide_eq_true_iff];exact⟨λh=>h.symm,λh=>h.symm⟩
  rw[this]
theorem cI (ns:List Str):(ns.map V.str).all bI=true:=by
 rw[Xi];intro x hx;obtain⟨y,_,rfl⟩:=QG.mp hx;rfl
def uJ (s:Sh) (lam:Nat->Str):Prop:=∀i j,s.R i->s.R j->lam i=lam j->bd s i=bd s j
theorem tm:eR f n m=[]↔∀i j,i<m->i<j->j<n->f i j=false:=by
 unfold eR eA;rw[List.flatMap_eq_nil_iff]
 constructor
 ·intro h i j hi hij hj;have:=h i (Xc.mpr hi);rw[List.map_eq_nil_iff,List.filter_eq_nil_iff]at this;have:=this j (Xc.mpr hj);rw[QU hij,Bool.true_and]at this;exact Xs.mpr this
 intro h i hi;rw[List.map_eq_nil_iff,List.filter_eq_nil_iff];intro j hj;by_cases c:i<j
 ·rw[h i j (Xc.mp hi) c (Xc.mp hj)];simp
 rw[QE c];simp
theorem mM (ok:ShOk s):eR (clB s lam) s.nodes.length s.nodes.length=[]↔uJ s lam:=by
 rw[tm]
 constructor
 ·intro h i j ri rj e
  have one:∀i j,i<j->s.R i->s.R j->lam i=lam j->bd s i=bd s j:=λi j c ri rj e=>by
   have:=h i j (Sh.R_lt ok ri) c (Sh.R_lt ok rj);by_cases w:bd s i=bd s j
   ·exact w
   rw[vK ⟨ri,rj,e,w⟩]at this;cases this
  rcases Nat.lt_trichotomy i j with c|c|c
  ·exact one i j c ri rj e
  ·rw[c]
  exact(one j i c rj ri e.symm).symm
 intro h i j _ _ _;exact mI λ⟨ri,rj,e,w⟩=>w (h i j ri rj e)
theorem Tk.dict (t:Tk T H H') (h0:H d=none) (hd:H' d=some (.dK kvs)):Tk T H (upd H' d o):=by
 refine⟨λb u e n=>?_,?_⟩
 ·rw[af (λz=>by rw[z,h0]at e;cases e)];exact t.old b u e n
 rcases t.tab with e|⟨c,e,q⟩
 ·exact .inl (by rw[af (λz=>by rw[z,hd]at e;cases e)];exact e)
 exact .inr ⟨c,by rw[af (λz=>by rw[z,hd]at e;cases e)];exact e,by rw[af (λz=>by rw[z,hd]at q;cases q)];exact q⟩
def i3 (s:Sh) (lam:Nat->Str):Prop:=s.ws.length<=5/\uJ s lam
def uU (TL C:Addr):Sp:=λvs H Q E=>∃(a li lo ln:Addr) (nas:B3) (s:Sh) (lam:Nat->Str),vs=[.ref a]/\ShAt H a li lo ln nas s/\ShOk s/\Lab s lam/\cP TL bn H /\
 (i3 s lam->∀H',Tk TL H H'->Q .non H')/\(¬i3 s lam->∀H1 H' e,Tk TL H H1->bW C H1 H' e->E (.ref C) (some e) H')
def uT (C:Addr):Sp:=λvs H Q E=>∃(a li lo ln:Addr) (nas:B3) (s:Sh) (nm:Str),vs=[.ref a,.str nm]/\ShAt H a li lo ln nas s/\ShOk s /\
 (nm∈s.outs->∀H',ax H H'->Q .non H')/\(nm∉s.outs->∀H1 H' e,ax H H1->bW C H1 H' e->E (.ref C) (some e) H')
def sgW (s:Sh) (lam:Nat->Str) (nm:Str) (i:Nat):V:=if nm∈bd s i then .str (bH (lam i) (s.ws.idxOf nm)) else gc (lam i) (s.ws.idxOf nm)
noncomputable def k7 (s:Sh) (lam:Nat->Str) (nm:Str) (n:Nat):List (Key × V):=(List.range n).filterMap λi=>@ite _ (s.R i) (Classical.propDecidable _) (some (Sum.inr (lam i),sgW s lam nm i)) none
noncomputable def bS (s:Sh) (lam:Nat->Str) (nm:Str) (n:Nat):List (Key × V):=bJ [] (k7 s lam nm n)
theorem dO (q:Key × V):∀(qs kvs:List (Key × V)),bJ kvs (qs++[q])=be (bJ kvs qs) q.1 q.2
 | [],_=>rfl
 | p::qs,kvs=>dO q qs (be kvs p.1 p.2)
theorem jM {nm:Str} (r:s.R n):bS s lam nm (n+1)=be (bS s lam nm n) (Sum.inr (lam n)) (sgW s lam nm n):=by
 unfold bS k7;rw[List.range_succ,List.filterMap_append,Xq,List.filterMap_nil];rw[Qv r];exact dO _ _ _
theorem jN {nm:Str} (r:¬s.R n):bS s lam nm (n+1)=bS s lam nm n:=by
 unfold bS k7;rw[List.range_succ,List.filterMap_append,Xq,List.filterMap_nil];rw[Qz r,Xa]
theorem fK (s:Sh) (lam:Nat->Str) (nm:Str):∀n,(bS s lam nm n).length<=n
 | 0=>Qh _
 | n+1=>by
  have ih:=fK s lam nm n;by_cases c:s.R n
  ·rw[jM c];exact QQ (bC _ _ _) (by omega)
  rw[jN c];omega
def qR (TL:Addr):Sp:=λvs H Q _=>∃(a li lo ln:Addr) (nas:B3) (s:Sh) (lam:Nat->Str) (nm:Str),vs=[.ref a,.str nm]/\ShAt H a li lo ln nas s/\ShOk s/\Lab s lam/\cP TL bn H/\nm∈s.outs /\
 ∀d H',Tk TL H H'->H d=none->H' d=some (.dK (bS s lam nm s.nodes.length))->Q (.ref d) H'
def lh (TL C2 C4:Addr):Sp:=λvs H Q E=>∃(a li lo ln:Addr) (nas:B3) (s:Sh) (lam:Nat->Str) (nm:Str),vs=[.ref a,.str nm]/\ShAt H a li lo ln nas s/\ShOk s/\Lab s lam/\cP TL bn H /\
 (¬i3 s lam->∀H1 H' e,Tk TL H H1->bW C2 H1 H' e->E (.ref C2) (some e) H')/\(i3 s lam->nm∉s.outs->∀H1 H' e,Tk TL H H1->bW C4 H1 H' e->E (.ref C4) (some e) H') /\
 (i3 s lam->nm∈s.outs->∀d H',Tk TL H H'->H d=none->H' d=some (.dK (bS s lam nm s.nodes.length))->Q (.ref d) H')
theorem sF {nm:Str} (nd:(ins++outs).Nodup) (h:nm∈outs):(ins++outs).idxOf nm=ins.length+outs.idxOf nm:=by
 have h1:nm∉ins:=λz=>(List.nodup_append.mp nd).2.2 nm z nm h rfl;rw[List.idxOf_append,Qz h1];exact Nat.add_comm _ _
section
theorem sG {n:Nat} {z:Str} (st:StOk n z) {i:Nat} (hi:i<n) {TT:Addr} {H:Hp} {G:VK} (g:G (.str (bH z i)) H):gF TT (.ref TT) (.str ⟨#[z.cps.getD i 0]⟩) H G:=by
 have e:=ou st hi;unfold gc at e;rw[e]
 have step:∀(b:Bool),G (.str (if b=true then "0" else "1")) H->gF TT (.ref TT) (sg b) H G:=λb g=>by
  cases b
  ·exact⟨rfl,.inl ⟨rfl,g⟩⟩
  exact⟨rfl,.inr ⟨rfl,g⟩⟩
 exact step _ g
theorem dN:FnScope ["sheet"] ["sheet"] (ak (top 22)):=by fin2
variable {fd:FuncData} {f TL C0 NE C2 C4:Addr}
theorem wC (Fu:Fun K "check_can_be_made" "check_can_be_made" (top 22) f fd) (T:Txt K mg TT) (N0:ExcB K mg "NoFit" C0 NE) (f_clash_pairs:Fn P w K mg base "clash_pairs" ["sheet"] 5 (ot TL)):FnOk P w K mg base (CX1 P w) 6 f fd ["sheet"] (uU TL C0):=by
 have S:=dN;obtain⟨oc,od,kV,doc,pm,an,cdv,ct,osl,rfl,lk,hcd⟩:=Fu.ex;refine mt lk hcd S (λvs H Q E h=>?_) (λA outer s H vs Q E hr h=>?_)
 ·obtain⟨a,li,lo,ln,nas,s,lam,rfl,_⟩:=h;rfl
 obtain⟨a,li,lo,ln,nas,sh,lam,rfl,at_,ok,lb,tb,k,kx⟩:=h;have hu:=cF hr;obtain⟨_,gMW⟩:=T.mWIRES;have big:10000<sizeLine:=by decide
 have ha:=at_.ha;have hi:=at_.hi;have ho:=at_.ho;have lw:sh.ws.length=sh.ins.length+sh.outs.length:=Qd ..;refine⟨_,(pss_one (ps_if (PW.pt (jg (aH oG (aA bX (am ao (by rfl) T.n_len QN (aa (au aW (pv 0) ah) ae)) (am ao (by rfl) T.n_len QN (aa (au aW (pv 0) ah) ae))) (cH (v:=.int 5) (by rfl) gMW ⟨_,rfl⟩) (bi _)) (fO (aH oG (am ao (by rfl) T.n_len QN (aa (aK f_clash_pairs hr (aa (pv 0) ae ad)) ae se_call)) ah (bi _))))) (pss_one (lS (R:=λe d H1=>E (.ref C0) (some e) (upd H1 e (XO e C0 d false))) N0.xm rfl (ji N0.xm N0.init (by rfl) N0.m (aa aQ ae)) (λ_ _ _ _ _ _ I eo r=>i5 I eo r))) pss_nil)),?_⟩;x_go;lk;rw[Qa,Qa];by_cases c:sh.ws.length<=5
 ·refine ifF (QE (by omega)) ?_;lk;refine⟨a,li,lo,ln,nas,sh,lam,rfl,at_,ok,lb,tb,λL H1 tk hL pa=>?_⟩;obtain⟨vs,hv,pv⟩:=pa;have lv:=aL pv;lk;by_cases cm:uJ sh lam
  ·rw[(mM ok).mpr cm]at lv;refine ifF (QE (by rw[lv];simp)) ?_;exact s_next (k ⟨c,cm⟩ H1 tk)
  have ne:vs.length≠0:=λz=>cm ((mM ok).mp (Q2 (by omega)));refine ifT (QU (by omega)) ?_;exact iz (bg (i_c (bv ⟨by simp[sizeLine],λx hx=>⟨x,none,rfl,ag,kx (λf=>cm f.2) H1 _ x tk (eL (ax.refl _) hx)⟩⟩)))
 refine ifT (QU (by omega)) (iteT ?_);exact iz (bg (i_c (bv ⟨by simp[sizeLine],λx hx=>⟨x,none,rfl,ag,kx (λf=>c f.1) H _ x (Tk.of tb (ax.refl _)) (eL (ax.refl _) hx)⟩⟩)))
theorem gu:FnScope ["sheet", "name"] ["sheet", "name"] (ak (top 23)):=by fin2
theorem wB (Fu:Fun K "check_output" "check_output" (top 23) f fd) (T:Txt K mg TT) (N0:ExcB K mg "NoName" C0 NE):FnOk P w K mg base (CX1 P w) 1 f fd ["sheet", "name"] (uT C0):=by
 have S:=gu;obtain⟨oc,od,kV,doc,pm,an,cdv,ct,osl,rfl,lk,hcd⟩:=Fu.ex;refine mt lk hcd S (λvs H Q E h=>?_) (λA outer s H vs Q E hr h=>?_)
 ·obtain⟨a,li,lo,ln,nas,s,nm,rfl,_⟩:=h;rfl
 obtain⟨a,li,lo,ln,nas,sh,nm,rfl,at_,ok,k,kx⟩:=h;have hu:=cF hr;have ha:=at_.ha;have ho:=at_.ho;refine⟨_,(pss_one (ps_if (PW.pt (jg (kw (eM (am dW (by rfl) T.n_isinstance QR (aa (pv 1) (aa (gJ (v:=.ty "str") (by rfl) T.n_str PyProof.Rows.boot_str rfl) ae ad) ad)))) (fO (aH fm (pv 1) (au aW (pv 0) ah) rfl)))) (pss_one (lS (R:=λe d H1=>E (.ref C0) (some e) (upd H1 e (XO e C0 d false))) N0.xm rfl (ji N0.xm N0.init (by rfl) N0.m (aa aQ ae)) (λ_ _ _ _ _ _ I eo r=>i5 I eo r))) pss_nil)),?_⟩;x_go;lk;refine⟨_,_,_,_,rfl,TyOf.str nm,l7 "str", _,rfl,?_⟩;refine iteF ?_;lk;refine⟨lo,_,rfl,.inl (SqL.of ho),rfl,cI _,_,rfl,?_⟩;by_cases c:nm∈sh.outs
 ·refine ifF (by rw[cf.mpr c];rfl) ?_;exact s_next (k c H (ax.refl _))
 refine ifT (by rw[show inV (.str nm) (sh.outs.map V.str)=false from Xs.mpr λz=>c (cf.mp z)];rfl) ?_;exact iz (bg (i_c (bv ⟨by simp[sizeLine],λx hx=>⟨x,none,rfl,ag,kx c H _ x (ax.refl _) (eL (ax.refl _) hx)⟩⟩)))
theorem jX:FnScope ["sheet", "name", "place", "wishes", "node", "row"] ["sheet", "name"] (ak (top 24)):=by fin2
theorem tZ (Fu:Fun K "wishes_of" "wishes_of" (top 24) f fd) (T:Txt K mg TT) (f_signs_of:Fn P w K mg base "signs_of" ["sheet"] 4 (jR TL)) (f_outputs_wanted:Fn P w K mg base "outputs_wanted" ["sheet", "node"] 1 gS):FnOk P w K mg base CX0 5 f fd ["sheet", "name"] (qR TL):=by
 have S:=jX;refine Fu.ok S (by room) (λcdv A outer s H vs Q E hr h=>?_);obtain⟨a,li,lo,ln,nas,sh,lam,nm,rfl,at_,ok,lb,tb,hnm,k⟩:=h;have hu:=cF hr;refine'⟨?_,?bb,?_⟩
 case bb =>
  walk_at "b";exact aB 2 S.nd (aA bX (am ao (by rfl) T.n_len QN (aa (au aW (pv 0) ah) ae)) (cE Qt PySem.F.slot_list_index PySem.F.type_list_index fq (au aW (pv 0) ah) (aa (pv 1) ae ad)));exact aB 3 S.nd fi;walk_at "f";exact(kB (by rfl) T.n_enumerate (aa (aK f_signs_of hr (aa (pv 0) ae ad)) ae se_call));exact(fR rfl (br (bU 4 S.nd) (br (bU 5 S.nd) cS)));walk_at "p";exact(aH oE (pv 5) hZ rfl);exact(cR hu (pv 3) (pv 5) (rD (aH fU (pv 1) (aK f_outputs_wanted hr (aa (pv 0) (aa (pv 4) ae ad) ad)) rfl) (au (oS T.tab) (cH (v:=.ref TT) (by rfl) T.tURNED rfl) (au dS (pv 5) (pv 2))) (au dS (pv 5) (pv 2))) rfl);exact(aN (pv 3))
 x_go;have n100:=ok.n100;have w11:=ok.w11;have ha:=at_.ha;have hi:=at_.hi;have ho:=at_.ho;have lw:sh.ws.length=sh.ins.length+sh.outs.length:=Qd ..;have ip:sh.ws.idxOf nm=sh.ins.length+sh.outs.idxOf nm:=sF ok.nd hnm;have mw:nm∈sh.ws:=QA _ hnm;have pl:sh.ws.idxOf nm<sh.ws.length:=QW mw;lk;rw[Qa];refine⟨lo,sh.outs,nm,sh.outs.idxOf nm,rfl,rfl,ho,kK hnm,d_,by omega,?_⟩;refine⟨_,_,rfl,rfl,?_⟩;dsimp only;rw[show (sh.ins.length:Int)+((sh.outs.idxOf nm:Nat):Int)=((sh.ws.idxOf nm:Nat):Int) by omega];generalize hpp:sh.ws.idxOf nm=pp at pl;lk;refine λd hd=>?_;ctx_has H d H1 S1 q1 aj hd;have tb1:=gD tb S1;have at1:=at_.same S1;lk;show gR _ _ _ _ _;lk;refine⟨a,li,lo,ln,nas,sh,rfl,at1,ok,tb1,λL us H2 tk2 hL hus so=>?_⟩;have q2:H2 d=some (.dK []):=Tk.dK tb1 tk2 _ _ q1;have tk02:Tk TL H H2:=(Tk.of tb S1).trans tk2;have lus:=so.len;have dL:d≠L:=λz=>by rw[<-z,q1]at hL;cases hL
 have ok0:Tk TL H H2/\H2 L=some (.lst us)/\H2 d=some (.dK (bS sh lam nm 0)):=⟨tk02,hus,q2⟩;refine bv ⟨L,rfl,⟨_,SqL.of hus⟩,?_⟩;let I11:IvF:=λi U H'=>∃(y4 y5:Option V),U=[some (.ref a),some (.str nm),some (.int (pp:Int)),some (.ref d),y4,y5]/\Tk TL H H'/\H' L=some (.lst us)/\H' d=some (.dK (bS sh lam nm i));refine iB (xs:=us) I11 ⟨_,_,rfl,ok0⟩ (λi U H' _ ⟨_,_,_,_,h,_⟩=>SqL.of h) (λi x U H' t hx pv ht=>?_) (λU H' pv=>?_)
 ·obtain⟨y4,y5,rfl,tk,hl,hdd⟩:=pv;have hin:i<sh.nodes.length:=by rw[<-lus];exact(Qc.mp hx).1
  have S3:=aq (o:=.tup [.int (i:Nat),x]) ht;refine⟨t,_,rfl,SqT.of ag,rfl,?_⟩;refine⟨_,_,rfl,aw ⟨_,_,rfl,aw ⟨rfl,?_⟩⟩⟩;have tk3:=tk.same S3;have hl3:=S3 _ _ hl;have hd3:=S3 _ _ hdd;generalize upd H' t (.tup [.int (i:Nat),x])=H3 at *;clear S3 ht tk hl hdd;have wl:=fK sh lam nm i;by_cases c:sh.R i
  ·obtain⟨y,ey,sty,eqy⟩:=so.row i c;rw[hx]at ey;cases ey;have el:=eqy lam lb;lk;refine⟨rfl,_,rfl,ifT (by simp) ?_⟩;lk;refine df ?_;have at3:ShAt H3 a li lo ln nas sh:=at_.mono (tk3.lst tb) (tk3.tup tb);lk;refine⟨a,li,lo,ln,nas,sh,i,rfl,at3,ok,hin,λl H4 S4 _ q4=>?_⟩;have tk4:=tk3.same S4;have hl4:=S4 _ _ hl3;have hd4:=S4 _ _ hd3
   have fin:∀v,v=sgW sh lam nm i->∃a_1 H5,V.ref d=V.ref a_1/\eX H4 a_1 (V.str y) v H5/\∃(y4 y5:Option V),[some (.ref a),some (.str nm),some (.int (pp:Int)),some (.ref d),some (.int (i:Nat)),some (.str y)]=[some (.ref a),some (.str nm),some (.int (pp:Int)),some (.ref d),y4,y5]/\Tk TL H H5/\H5 L=some (.lst us)/\H5 d=some (.dK (bS sh lam nm (i+1))):=λv ev=>by
    refine⟨d,_,rfl,eX.k (k:=Sum.inr y) hd4 (by omega),_,_,rfl,tk4.dict hd hd4,by rw[af dL.symm];exact hl4,?_⟩;rw[ag,jM c,el,ev]
   refine⟨l,_,rfl,.inl (SqL.of q4),rfl,cI _,_,rfl,?_⟩;have gp:pp<sh.ws.length:=pl;by_cases cw:nm∈bd sh i
   ·refine ifT (cf.mpr cw) ?_;lk;refine mf (by have:=sty.len;show y.cps.size<=_;omega) (fH sty gp) ?_;refine sG sty gp ?_;lk;exact fin _ (by unfold sgW;rw[Qv cw,hpp,el])
   refine ifF (by rw[show inV (.str nm) ((bd sh i).map V.str)=false from Xs.mpr λz=>cw (cf.mp z)];rfl) ?_;lk;refine mf (by have:=sty.len;show y.cps.size<=_;omega) (fH sty gp) ?_;lk;exact fin _ (by unfold sgW;rw[Qz cw,hpp,el];rfl)
  rw[so.none i hin c]at hx;cases hx;lk;refine⟨rfl,_,rfl,ifF (by simp) ?_⟩;exact s_next ⟨_,_,rfl,tk3,hl3,by rw[jN c];exact hd3⟩
 obtain⟨y4,y5,rfl,tk,hl,hdd⟩:=pv;rw[lus]at hdd;lk;exact k d H' tk hd hdd
theorem nu:FnScope ["sheet", "name"] ["sheet", "name"] (ak (top 25)):=by fin2
theorem pN (Fu:Fun K "wish_at" "wish_at" (top 25) f fd) (T:Txt K mg TT) (f_check_can_be_made:Fn1 P w K mg base "check_can_be_made" ["sheet"] 6 (uU TL C2)) (f_check_output:Fn1 P w K mg base "check_output" ["sheet", "name"] 1 (uT C4)) (f_wishes_of:Fn P w K mg base "wishes_of" ["sheet", "name"] 5 (qR TL)):FnOk P w K mg base (CX1 P w) 7 f fd ["sheet", "name"] (lh TL C2 C4):=by
 have S:=nu;obtain⟨oc,od,kV,doc,pm,an,cdv,ct,osl,rfl,lk,hcd⟩:=Fu.ex;refine mt lk hcd S (λvs H Q E h=>?_) (λA outer s H vs Q E hr h=>?_)
 ·obtain⟨a,li,lo,ln,nas,s,lam,nm,rfl,_⟩:=h;rfl
 obtain⟨a,li,lo,ln,nas,sh,lam,nm,rfl,at_,ok,lb,tb,kx,kn,k⟩:=h;have hu:=cF hr
 refine⟨_,(pss_cons (bV (rE f_check_can_be_made (hr.mono (by first|decide|omega)) (by rfl) oD (aa (pv 0) ae ad)))
  (pss_cons (bV (rE f_check_output (hr.mono (by first|decide|omega)) (by rfl) oD (aa (pv 0) (aa (pv 1) ae ad) ad)))
  (pss_one (aN (aK f_wishes_of hr (aa (pv 0) (aa (pv 1) ae ad) ad)))))),?_⟩
 x_go;lk;refine⟨a,li,lo,ln,nas,sh,lam,rfl,at_,ok,lb,tb,λft H1 tk1=>?_,λnf H1 H' e t r=>kx nf H1 H' e t r⟩;have at1:ShAt H1 a li lo ln nas sh:=at_.mono (tk1.lst tb) (tk1.tup tb);lk;refine⟨a,li,lo,ln,nas,sh,nm,rfl,at1,ok,λho H2 S2=>?_,λno H2 H' e t r=>kn ft no H1 H' e tk1 (r.pre t)⟩;lk;have tk2:=tk1.same S2;refine⟨a,li,lo,ln,nas,sh,lam,nm,rfl,at1.same S2,ok,lb,tk2.tab,ho,λd H3 tk3 hd q3=>?_⟩;lk;refine k ft ho d H3 (tk2.trans tk3) ?_ q3
 cases e:H d with
 | none=>rfl
 | some o =>
 by_cases c:d=TL
 ·obtain⟨ps,e2⟩:=qH tk2.tab;rw[c,e2]at hd;cases hd
 rw[tk2.old _ _ e c]at hd;cases hd
end
def qW:Sp:=λvs H Q _=>∃(a li lo ln:Addr) (nas:B3) (s:Sh),vs=[.ref a]/\ShAt H a li lo ln nas s/\s.nodes.length<=100/\∀a' li' lo' ln' nas' H',ax H H'->ShAt H' a' li' lo' ln' nas' s->H a'=none->H ln'=none->(∀(i:Nat) na na',nas[i]?=some na->nas'[i]?=some na'->∃vs,H' na=some (.lst vs)/\H' na'=some (.lst vs))->Q (.ref a') H'
theorem jm {α β:Type} {F:α->β->Prop}:∀{xs:List α} {ys:List β},xs.length=ys.length->(∀(i:Nat) x y,xs[i]?=some x->ys[i]?=some y->F x y)->Paired F xs ys
 | [],[],_,_=>.nil
 | [],_::_,h,_=>by simp at h
 | _::_,[],h,_=>by simp at h
 | x::xs,y::ys,h,f=>.cons (f 0 x y rfl rfl) (jm (by simpa using h) λi a b e1 e2=>f (i+1) a b (by simpa using e1) (by simpa using e2))
theorem wE {K:PySem.W.Frag}:PySem.W.kitOne K (.type "dict") (.type "str")=some false:=by with_unfolding_all rfl
structure KinO (K:PySem.W.Frag) (C NE x1 x2 x3 x4 x5:Addr):Prop where
 k1:PySem.W.kitOne K (.ref C) (.ref x1)=some false
 k2:PySem.W.kitOne K (.ref C) (.ref x2)=some false
 k3:PySem.W.kitOne K (.ref C) (.ref x3)=some false
 k4:PySem.W.kitOne K (.ref C) (.ref x4)=some false
 k5:PySem.W.kitOne K (.ref C) (.ref x5)=some false
 kC:PySem.W.kitOne K (.ref C) (.ref C)=some true
 kV:PySem.W.kitOne K (.ref C) (.type "ValueError")=some true
 ex:PySem.W.exmOne K (.ref C) (.ref NE)=some true
 kl:XE.XKl K C NE
def oi (C2 C4:Addr):Sp:=λvs H Q _=>∃e:Addr,vs=[.ref e]/\((Held6 C2 H e/\∀H',ax H H'->Q (.str "NoFit") H')\/(Held6 C4 H e/\∀H',ax H H'->Q (.str "NoName") H'))
def qX (TL:Addr):Sp:=λvs H Q _=>∃(a li lo ln:Addr) (nas:B3) (s:Sh) (lam:Nat->Str) (nm:Str),vs=[.ref a,.str nm]/\ShAt H a li lo ln nas s/\ShOk s/\Lab s lam/\cP TL bn H /\
 (¬i3 s lam->∀H',Tk TL H H'->Q (.str "NoFit") H')/\(i3 s lam->nm∉s.outs->∀H',Tk TL H H'->Q (.str "NoName") H') /\
 (i3 s lam->nm∈s.outs->∀d H',Tk TL H H'->H d=none->H' d=some (.dK (bS s lam nm s.nodes.length))->Q (.ref d) H')
section
theorem lL:FnScope ["sheet"] ["sheet"] (ak (top 40)):=by fin2
variable {fd:FuncData} {f CS NE c0 c2 c3 c4 c5 TL:Addr}
theorem ue (Fu:Fun K "_law_copy" "_law_copy" (top 40) f fd) (T:Txt K mg TT):FnOk P w K mg base CX0 1 f fd ["sheet"] qW:=by
 have S:=lL;refine Fu.ok S (by room) (λcdv A outer s H vs Q E hr h=>?_);obtain⟨a,li,lo,ln,nas,sh,rfl,at_,n100,k⟩:=h;refine⟨_,(pss_one (aN (pe_tup (aa (bZ dB (by rfl) T.n_list PyProof.Rows.boot_list (aa (au aW (pv 0) ah) ae)) (aa (bZ dB (by rfl) T.n_list PyProof.Rows.boot_list (aa (au aW (pv 0) ah) ae)) (aa (au aW (pv 0) ah) (aa (jj "node" [] (bK (au aW (pv 0) ah)) (λ_ _ _ _=>(bZ (iZ (K:=K) rfl) (by rfl) T.n_list PyProof.Rows.boot_list (aa (pv 0) ae ad)))) ae)) se_call) se_call)))),?_⟩;x_go;have ha:=at_.ha;lk;refine⟨li,_,rfl,.inl (SqL.of at_.hi),λli' hli'=>?_⟩;ctx_has H li' H1 S1 q1 aj hli';have ha1:=S1 _ _ ha;lk;refine⟨lo,_,rfl,.inl (SqL.of (S1 _ _ at_.ho)),λlo' hlo'=>?_⟩;ctx_has H1 lo' H2 S2 q2 aj hlo';have ha2:=S2 _ _ ha1;have at2:=(at_.same S1).same S2;lk;refine cG (s_list (bY (ap rfl (i_c (i_ixT ha2 rfl ⟨ln,rfl,⟨_,SqL.of at2.hn⟩,λL hL=>?_⟩)))));have lnas:=aL at2.nodes;let I12:IvC:=λn H' ys=>ax H2 H'/\H' L=some (.lst ys)/\∃nas':B3,ys=nas'.map V.ref/\nas'.length=n/\(∀b∈nas',b≠L)/\∀(i:Nat) na',nas'[i]?=some na'->∃na vs,nas[i]?=some na/\H2 na=some (.lst vs)/\H' na'=some (.lst vs);refine c8 (xs:=nas.map V.ref) I12 ⟨aq hL,ag,[],rfl,rfl,λb h=>(nomatch h),λi na' e=>by simp at e⟩ (λn H' ys p=>⟨p.2.1,SqL.of (p.1 _ _ at2.hn)⟩) (λn x H' ys e p=>?_) (λH3 ys p=>?_)
 ·obtain⟨S3,hl,nas',rfl,lnn,nL,hx⟩:=p;rw[Qe]at e
  cases en:nas[n]? with
  | none=>rw[en]at e;cases e
  | some na =>
  rw[en]at e;cases e;obtain⟨node,hnode,vs,hv,_⟩:=paired_get at2.nodes en;have hn:n<nas.length:=(Qc.mp en).1;refine aw ⟨by repeat' (first|exact trivial|refine⟨rfl,?_⟩),i_yes (iteT ?_)⟩;refine i_cb (bg (ap rfl (bv ⟨na,_,rfl,.inl (SqL.of (S3 _ _ hv)),λna' hna'=>?_⟩)));have nl:na'≠L:=dQ hl hna';refine cs.mk (aq hna' _ _ hl) (by rw[Qa];exact hn) (by rw[Qa];omega) ⟨bq (S3.trans (aq hna')) hL,ag,nas'++[na'],by rw[Qr];rfl,by rw[Qd,lnn];rfl,λb hb=>?_,λi b hb=>?_⟩
  ·rcases Qk.mp hb with h|h
   ·exact nL b h
   rw[Qp]at h;subst h;exact nl
  by_cases ci:i<nas'.length
  ·rw[QT ci]at hb;obtain⟨na0,vs0,e1,e2,e3⟩:=hx i b hb;exact⟨na0,vs0,e1,e2,by rw[af (nL b (Qn hb))];exact aq hna' _ _ e3⟩
  rw[QK (by omega)]at hb
  have:i=n:=by
   have:=(Qc.mp hb).1;simp at this;omega
  subst this;rw[lnn,Nat.sub_self]at hb;cases hb;exact⟨na,vs,en,hv,by rw[af nl];exact ag⟩
 obtain⟨S3,hl,nas',rfl,lnn,nL,hx⟩:=p;rw[Qa]at lnn;refine bv ⟨by simp[sizeLine],λt ht=>?_⟩;ctx_has H3 t H4 S4 q4 aj ht;have S03:ax H H3:=S1.trans (S2.trans S3)
 have nn:∀{b:Addr} {Ha:Hp},ax H Ha->Ha b=none->H b=none:=λ{b Ha} sa h=>by
  cases e:H b with
  | none=>rfl
  | some o=>rw[sa _ _ e]at h;cases h
 refine k t li' lo' L nas' H4 (S03.trans S4) ⟨q4,S4 _ _ (S3 _ _ (S2 _ _ q1)),S4 _ _ (S3 _ _ q2),S4 _ _ hl,?_⟩ (nn S03 ht) (nn (S1.trans S2) hL) λi na na' e1 e2=>?_
 ·refine jm (by omega) λi na' node e1 e2=>?_;obtain⟨na,vs,e3,e4,e5⟩:=hx i na' e1;obtain⟨node',e6,vs',h1,h2⟩:=paired_get at2.nodes e3;rw[e2]at e6;cases e6;rw[e4]at h1;cases h1;exact⟨vs,S4 _ _ e5,aE (λv st ⟨b,e,q⟩=>⟨b,e,(S3.trans S4) _ _ q⟩) h2⟩
 obtain⟨na0,vs,e3,e4,e5⟩:=hx i na' e2;rw[e1]at e3;cases e3;exact⟨vs,(S3.trans S4) _ _ e4,S4 _ _ e5⟩
theorem lF:FnScope ["caught", "kinds"] ["caught"] (ak (top 41)):=by fin2
theorem rW (Fu:Fun K "_law_word" "_law_word" (top 41) f fd) (T:Txt K mg TT) (N:NmE mg CS NE) (KD:KindsM mg c0 c2 c3 c4 c5) (Z2:KinO K c2 NE c0 CS c3 c4 c5) (Z4:KinO K c4 NE c0 CS c2 c3 c5):FnOk P w K mg base CX0 1 f fd ["caught"] (oi c2 c4):=by
 have S:=lF;refine Fu.ok S (by room) (λcdv A outer s H vs Q E hr h=>?_);obtain⟨e,rfl,h⟩:=h;have hu:=cF hr;have big:10000<sizeLine:=by decide
 refine⟨_,(pss_cons (aB 1 S.nd (pe_lst (aa (am bz (by rfl) T.n_isinstance QR (aa (pv 0) (aa (cH (v:=.ref c2) (by rfl) KD.m2 rfl) ae ad) ad)) (aa (am bz (by rfl) T.n_isinstance QR (aa (pv 0) (aa (cH (v:=.ref c4) (by rfl) KD.m4 rfl) ae ad) ad)) (aa (am bz (by rfl) T.n_isinstance QR (aa (pv 0) (aa (cH (v:=.ref c0) (by rfl) KD.m0 rfl) ae ad) ad)) ae se_call) se_call) se_call)))
  (pss_cons (aB 1 S.nd (aA fW (pv 1) (pe_lst (aa (am bz (by rfl) T.n_isinstance QR (aa (pv 0) (aa (cH (v:=.ref c3) (by rfl) KD.m3 rfl) ae ad) ad)) (aa (am bz (by rfl) T.n_isinstance QR (aa (pv 0) (aa (cH (v:=.ref c5) (by rfl) KD.m5 rfl) ae ad) ad)) (aa (am bz (by rfl) T.n_isinstance QR (aa (pv 0) (aa (cH (v:=.ref CS) (by rfl) N.mS rfl) ae ad) ad)) ae se_call) se_call) se_call))))
  (pss_cons (ps_if (PW.pt (jg (aH u9 (cE Qt PySem.F.slot_list_count PySem.F.type_list_count (pX hr.units) (pv 1) (aa dH ae ay)) ah (bi _)) (fO (kw (eM (am bz (by rfl) T.n_isinstance QR (aa (pv 0) (aa (gJ (v:=.ty "ValueError") (by rfl) KD.mV PyProof.Rows.Boot.«ValueError» rfl) ae ad) ad))))))) (pss_one (aN aQ)) pss_nil)
  (pss_one (aN (au aM (pe_lst (aa aQ (aa aQ (aa aQ (aa aQ (aa aQ (aa aQ ae ay) ay) ay) ay) ay) ay)) (cE Qt PySem.F.slot_list_index PySem.F.type_list_index (pW hr.units) (pv 1) (aa dH ae ay)))))))),?_⟩
 x_go
 obtain⟨C,b2,b4,j,res,hd,kl,f2,f4,f0,f3,f5,fS,fV,cnt,ij,nj,ir,kq⟩:∃(C:Addr) (b2 b4:Bool) (j:Nat) (res:V),Held6 C H e/\XE.XKl K C NE/\PySem.W.kitOne K (.ref C) (.ref c2)=some b2/\PySem.W.kitOne K (.ref C) (.ref c4)=some b4/\PySem.W.kitOne K (.ref C) (.ref c0)=some false/\PySem.W.kitOne K (.ref C) (.ref c3)=some false/\PySem.W.kitOne K (.ref C) (.ref c5)=some false/\PySem.W.kitOne K (.ref C) (.ref CS)=some false/\PySem.W.kitOne K (.ref C) (.type "ValueError")=some true /\
   [b2,b4,false,false,false,false].count true=1/\[b2,b4,false,false,false,false][j]?=some true/\(∀m,m<j->[b2,b4,false,false,false,false][m]?≠some true)/\[V.str "NoFit", V.str "NoName", V.str "NoStanding", V.str "NoText", V.str "NoRow", V.str "NoStep"][j]?=some res/\∀H',ax H H'->Q res H':=by
  rcases h with⟨hd,k⟩|⟨hd,k⟩
  ·exact⟨c2,true,false,0,_,hd,Z2.kl,Z2.kC,Z2.k4,Z2.k1,Z2.k3,Z2.k5,Z2.k2,Z2.kV,rfl,rfl,λm h=>absurd h (Nat.not_lt_zero _),rfl,k⟩
  refine⟨c4,false,true,1,_,hd,Z4.kl,Z4.k3,Z4.kC,Z4.k1,Z4.k4,Z4.k5,Z4.k2,Z4.kV,rfl,rfl,λm h=>?_,rfl,k⟩;have:m=0:=by omega
  subst this;simp
 lk;refine eP hd kl (.inl ⟨_,rfl⟩) f2 ?_;lk;refine eP hd kl (.inl ⟨_,rfl⟩) f4 ?_;lk;refine eP hd kl (.inl ⟨_,rfl⟩) f0 ?_;lk;refine⟨by simp[sizeLine],λp hp=>?_⟩;ctx_has H p H1 S1 q1 aj hp;have hd1:=hd.same S1;lk;refine eP hd1 kl (.inl ⟨_,rfl⟩) f3 ?_;lk;refine eP hd1 kl (.inl ⟨_,rfl⟩) f5 ?_;lk;refine eP hd1 kl (.inl ⟨_,rfl⟩) fS ?_;lk;refine⟨by simp[sizeLine],λp2 hp2=>?_⟩;ctx_has H1 p2 H2 S2 q2 aj hp2;refine jy (S2 _ _ q1) q2 (by simp[sizeLine]) λp3 hp3=>?_;ctx_has H2 p3 H3 S3 q3 aj hp3;have q3:H3 p3=some (.lst ([b2,b4,false,false,false,false].map V.bl)):=q3;have hd3:=(hd1.same S2).same S3;have S03:=S1.trans (S2.trans S3);lk;refine⟨p3,_,rfl,rfl,q3,?_⟩;rw[cnt];lk;refine ifF (by decide) ?_;lk;refine eP hd3 kl (.inr ⟨_,rfl⟩) fV ?_;refine⟨_,rfl,iteF ?_⟩;refine s_next ?_;lk;refine⟨by simp[sizeLine],λp4 hp4=>?_⟩;ctx_has H3 p4 H4 S4 q4 aj hp4;lk;have q34:=S4 _ _ q3;refine⟨i_tyL q34,?_⟩;lk;refine⟨p3,_,j,rfl,rfl,q34,ij,nj,by simp,?_⟩;refine bx (v:=res) (SqL.of q4) (aU ir) ?_;exact kq H4 (S03.trans S4)
theorem kj:FnScope ["sheet", "name", "found", "caught", "e"] ["sheet", "name"] (ak (top 42)):=by fin2
theorem uf (Fu:Fun K "_law_asked" "_law_asked" (top 42) f fd) (T:Txt K mg TT) (N:NmE mg CS NE) (KD:KindsM mg c0 c2 c3 c4 c5) (Z2:KinO K c2 NE c0 CS c3 c4 c5) (Z4:KinO K c4 NE c0 CS c2 c3 c5) (f_wish_at:Fn1 P w K mg base "wish_at" ["sheet", "name"] 7 (lh TL c2 c4)) (f_law_word:Fn P w K mg base "_law_word" ["caught"] 1 (oi c2 c4)):FnOk P w K mg base CX0 8 f fd ["sheet", "name"] (qX TL):=by
 have S:=kj;refine Fu.ok S (by room) (λcdv A outer s H vs Q E hr h=>?_);obtain⟨a,li,lo,ln,nas,sh,lam,nm,rfl,at_,ok,lb,tb,kF,kN,kW⟩:=h;have hu:=cF hr;have big:10000<sizeLine:=by decide
 refine⟨_,(pss_cons (kA (i:=2) S.nd rfl (by z_go) hZ)
  (pss_cons (kA (i:=3) S.nd rfl (by z_go) hZ)
  (pss_cons (tS (i:=4) (tR (i:=2) S.nd rfl (by z_go) f_wish_at (hr.mono (by first|decide|omega)) (by rfl) (aa (pv 0) (aa (pv 1) ae ad) ad)) (by rfl) N.mE S.nd rfl (by rfl) (λ_=>(pss_one (aB 3 S.nd (pv 4)))) rfl)
  (pss_cons (ps_if (aH wm (pv 3) hZ rfl) (pss_one (aN (au aM (pe_lst (aa aQ (aa (pv 2) ae ad) ay)) (bZ f9 (by rfl) T.n_int PyProof.Rows.boot_int (aa (rC (am dW (by rfl) T.n_isinstance QR (aa (pv 2) (aa (gJ (v:=.ty "str") (by rfl) T.n_str PyProof.Rows.boot_str rfl) ae ad) ad))) ae))))) pss_nil)
  (pss_one (aN (aK f_law_word hr (aa (pv 3) ae ad)))))))),?_⟩
 x_go;kt_k;with_reducible refine s_asg ?_
 with_reducible refine i_c ?_
 kt_k;kt_k;with_reducible refine s_asg ?_
 with_reducible refine i_c ?_
 kt_k;kt_k;with_reducible refine wM ?_
 generalize hTS:(λ(cls:Value) (ea:Option Addr) (H2:Hp)=>_)=EE
 have after2:∀H1,Tk TL H H1->(∀H',Tk TL H H'->Q (.str "NoFit") H')->∀H' e,bW c2 H1 H' e->EE (.ref c2) (some e) H':=λH1 t1 kq H' e r=>by
  subst hTS;have S1:=r.1;have hd:=r.held;refine⟨e,rfl,Z2.ex,?_⟩;refine s_asg (ap rfl (aw ?_));dsimp only;lk;refine⟨rfl,_,rfl,ifF (by simp) ?_⟩;lk;exact⟨e,rfl,.inl ⟨hd,λH3 S3=>kq H3 ((t1.same S1).same S3)⟩⟩
 have after4:∀H1,Tk TL H H1->(∀H',Tk TL H H'->Q (.str "NoName") H')->∀H' e,bW c4 H1 H' e->EE (.ref c4) (some e) H':=λH1 t1 kq H' e r=>by
  subst hTS;have S1:=r.1;have hd:=r.held;refine⟨e,rfl,Z4.ex,?_⟩;refine s_asg (ap rfl (aw ?_));dsimp only;lk;refine⟨rfl,_,rfl,ifF (by simp) ?_⟩;lk;exact⟨e,rfl,.inr ⟨hd,λH3 S3=>kq H3 ((t1.same S1).same S3)⟩⟩
 clear hTS;refine wL ?_;lk;refine⟨a,li,lo,ln,nas,sh,lam,nm,rfl,at_,ok,lb,tb,λnf H1 H' e t r=>after2 H1 t (kF nf) H' e r,λft no H1 H' e t r=>after4 H1 t (kN ft no) H' e r,λft ho d H1 t1 hd q1=>?_⟩;dsimp only;lk;refine⟨rfl,_,rfl,ifT (by simp) ?_⟩;lk;refine⟨by simp[sizeLine],λp hp=>?_⟩;ctx_has H1 p H2 S2 q2 aj hp;lk;refine⟨_,_,_,_,rfl,TyOf.dK (S2 _ _ q1),wE,_,rfl,?_⟩;refine bv (.inr ⟨true,rfl,?_⟩);refine bx (v:=.ref d) (SqL.of q2) rfl ?_;exact kW ft ho d H2 (t1.same S2) hd (S2 _ _ q1)
end
def lA (K:PySem.W.Frag):Sp:=λvs H Q _=>∃(s:Addr) (ns:List Int) (k:Nat),vs=[.ref s,.int (k:Int)]/\SqL K H s (ns.map V.int)/\k<=100/\∀(c:Int),Q (.int c) H
def qS:Sp:=λvs H Q _=>∃(c:Int) (k:Nat),vs=[.int c,.int (k:Int)]/\k<=1000/\∀r:Int,Q (.int r) H
def qT:Sp:=λvs H Q _=>∃(c:Int) (m:Nat),vs=[.int c,.int (m:Nat)]/\m<=1000/\∀l (xs:List Int) H',ax H H'->H l=none->H' l=some (.lst (xs.map V.int))->Q (.ref l) H'
def eK:Sp:=λvs H Q _=>∃(D:Dk),vs=[.ref D.d]/\D.At H/\∀(r:Int) H',Kp D H H'->Q (.int r) H'
theorem vF {K:PySem.W.Frag} {T:String} {r:V->List V->Hp->VK->Prop} {to:TE} (q:to U H λx H1=>tyV K T x H1/\r x [] H1 Q):xk K T r to U H Q:=q
theorem bD (r:Int) {m:Int} (h:0<m):∃n:Nat,r % m=(n:Int)/\(n:Int)<m :=
 ⟨(r % m).toNat,(Int.toNat_of_nonneg (Int.emod_nonneg _ (by omega))).symm,by rw[Int.toNat_of_nonneg (Int.emod_nonneg _ (by omega))];exact Int.emod_lt_of_pos _ h⟩
theorem lT {xs:List Int} {r:Int} (h0:0<=r) (h1:r<xs.length):∃x∈xs,atI (xs.map V.int) r=some (.int x):=by
 have hr:r.toNat<xs.length:=by omega
 refine⟨xs[r.toNat],Xe hr,?_⟩;have e:r=((r.toNat:Nat):Int):=by omega
 have q:=aU (xs:=xs.map V.int) (j:=r.toNat) (v:=.int xs[r.toNat]) (by rw[Qe,Qb hr];rfl);rw[<-e]at q;exact q
variable {D:Dk}
theorem bB {E:XK} (kp:Kp D H0 H) (q:∀(r:Int) H',Kp D H H'->Kp D H0 H'->Q (.int r) H'):eK [.ref D.d] H Q E:=⟨D,rfl,kp.dk,λr H' k=>q r H' k (kp.trans k)⟩
section
theorem gX:FnScope ["script", "k"] ["script", "k"] (ak (top 27)):=by fin2
variable {fd:FuncData} {f:Addr}
theorem pT (Fu:Fun K "_law_cell_at" "_law_cell_at" (top 27) f fd) (T:Txt K mg TT):FnOk P w K mg base CX0 1 f fd ["script", "k"] (lA K):=by
 have S:=gX;refine Fu.ok S (by room) (λcdv A outer s H vs Q E hr h=>?_);obtain⟨s,ns,k,rfl,hS,k100,q⟩:=h
 refine⟨_,(pss_cons (ps_if (aH oF (pv 1) (am ao (by rfl) T.n_len QN (aa (pv 0) ae ad)) (bi _)) (pss_one (aN (au aM (pv 0) (pv 1)))) pss_nil)
  (pss_one (aN ah))),?_⟩
 x_go;lk;refine⟨_,_,rfl,Or.inl hS,?_⟩;lk;rw[Qa];by_cases c:k<ns.length
 ·refine ifT (QU (by omega)) ?_;lk;refine bx (v:=.int ns[k]) hS (aU (by rw[Qe,Qb c];rfl)) ?_;exact q _
 refine ifF (QE (by omega)) ?_;lk;exact q _
theorem lG:FnScope ["cell", "k", "one"] ["cell", "k"] (ak (top 28)):=by fin2
theorem t6 (Fu:Fun K "_law_stir" "_law_stir" (top 28) f fd) (T:Txt K mg TT):FnOk P w K mg base CX0 1 f fd ["cell", "k"] qS:=by
 have S:=lG;refine Fu.ok S (by room) (λcdv A outer s H vs Q E hr h=>?_);obtain⟨c,k,rfl,k1,q⟩:=h
 refine⟨_,(pss_cons (aB 2 S.nd (aA bh (aA fT (aA bX (aA bX (aA bh (pv 0) ah) (aA fT ah (pv 1))) ah) ah) ah))
  (pss_cons (aB 2 S.nd (aA bh (aA fT (pv 2) (pv 2)) ah))
  (pss_one (aN (aA oH (aA bh (aA fT (aA bX (pv 2) (aA fT ah (pv 1))) ah) ah) ah))))),?_⟩
 x_go;lk;exact q _
theorem lK:FnScope ["cell", "many", "found", "digits", "k", "number"] ["cell", "many"] (ak (top 29)):=by fin2
theorem ud (Fu:Fun K "_law_deck" "_law_deck" (top 29) f fd) (T:Txt K mg TT) (f_law_stir:Fn P w K mg base "_law_stir" ["cell", "k"] 1 qS):FnOk P w K mg base CX0 2 f fd ["cell", "many"] qT:=by
 have S:=lK;refine Fu.ok S (by room) (λcdv A outer s H vs Q E hr h=>?_);obtain⟨c,m,rfl,m1,q⟩:=h;have big:1000000<sizeLine:=by decide
 refine'⟨?_,?bb,?_⟩
 case bb =>
  walk_at "b";exact aB 2 S.nd (pe_lst ae);exact aB 3 S.nd (pv 0);walk_at "f";exact(bP (by rfl) T.n_range (aa (pv 1) ae ad));exact(bU 4 S.nd);walk_at "p";exact aB 5 S.nd (aK f_law_stir hr (aa (pv 0) (aa (pv 4) ae ad) ad));exact(aH xC (pv 0) (aA wg ah ah) (bi _));exact aB 5 S.nd (aA bh (pv 3) ah);exact aB 3 S.nd (aA oH (pv 3) ah);exact(bV (cE Qt Q8 Q9 bA (pv 2) (aa (pv 5) ae ad)));exact(aN (wa (pv 2) (rq mZ ah) (λ_ _ _ q=>⟨1,rfl,q⟩)))
 x_go;lk;refine⟨by show 0<=_;omega,λp hp=>?_⟩;ctx_has H p H1 S1 q1 aj hp;lk;refine⟨by omega,by omega,?_⟩;rw[QZ];let I13:IvF:=λi U H'=>∃(dg:Int) (xs:List Int),∃x4 x5,U=[some (.int c),some (.int (m:Nat)),some (.ref p),some (.int dg),x4,x5]/\ax H H'/\H' p=some (.lst (xs.map V.int))/\xs.length=i;refine cZ (n:=m) I13 ⟨c,[],_,_,rfl,S1,q1,rfl⟩ (λi U H' hi pv=>?_) (λU H' pv=>?_)
 ·obtain⟨dg,xs,x4,x5,rfl,S2,q2,hl⟩:=pv;refine aw ?_;lk;refine⟨c,i,by rw[Int.zero_add],by omega,λr=>?_⟩;refine aw ?_;let I14:IvJ:=λU G=>∃nn:Int,U=[some (.int c),some (.int (m:Nat)),some (.ref p),some (.int dg),some (.int (0+(i:Int))),some (.int nn)]/\G=H';with_reducible refine cW I14 (λRR hJ=>?_) (λU G h=>?_)
  ·lk;refine sw (λ_=>?_) (λ_=>?_)
   ·lk;exact hJ _ _ ⟨_,rfl,rfl⟩
   exact s_next (hJ _ _ ⟨_,rfl,rfl⟩)
  obtain⟨nn,rfl,rfl⟩:=h;lk;refine fE q2 (by rw[Qa];omega) ?_;exact⟨_,xs++[nn],_,_,rfl,bq S2 hp,by rw[ag,Qr];rfl,by simp[hl]⟩
 obtain⟨dg,xs,x4,x5,rfl,S2,q2,hl⟩:=pv;lk;refine⟨_,rfl,p,_,rfl,SqL.of q2,λp2 hp2=>?_⟩;refine q p2 xs.reverse _ (S2.trans (aq hp2)) (ax.free S2 hp2) ?_;rw[ag,List.map_reverse]
theorem lI:FnScope ["deck"] ["deck"] (ak (top 30)):=by fin2
theorem ua (Fu:Fun K "_law_next" "_law_next" (top 30) f fd) (T:Txt K mg TT):FnOk P w K mg base CX0 1 f fd ["deck"] eK:=by
 have S:=lI;refine Fu.ok S (by room) (λcdv A outer s H vs Q E hr h=>?_);obtain⟨D,rfl,DA,k⟩:=h;obtain⟨xs,hd⟩:=id DA
 refine⟨_,(pss_cons (ps_if (aH (wn hr.units) (pv 0) (pe_lst ae) (bi _)) (pss_one (aN ah)) pss_nil)
  (pss_one (aN (rK Qt PySem.F.slot_list_pop PySem.F.type_list_pop sj (pv 0))))),?_⟩
 x_go;lk;refine⟨by decide,λp hp=>?_⟩;ctx_has H p H1 S1 q1 aj hp;have hd1:=S1 _ _ hd;have k1:Kp D H H1:=Kp.of DA S1;refine⟨D.d,p,_,_,λ_=>true,rfl,rfl,SqL.of hd1,SqL.of q1,λj x y e1 e2=>by simp at e2,?_⟩;refine⟨_,rfl,?_⟩
 cases xs with
 | nil =>
  refine ifT rfl ?_;lk;exact k 0 H1 k1
 | cons x r =>
 refine ifF (by simp) ?_;lk;refine vF (ap rfl ⟨i_tyL hd1,?_⟩)
 obtain⟨y,hy⟩:∃y,((x::r).map V.int)[((x::r).map V.int).length-1]?=some (V.int y):=by
  have hl:(x::r).length-1<(x::r).length:=by simp
  exact⟨(x::r)[(x::r).length-1],by rw[Qa,Qe,Qb hl];rfl⟩
 refine⟨D.d,_,_,rfl,rfl,hd1,hy,?_⟩;exact k _ _ ⟨λb o e nb=>by rw[af nb];exact k1.old b o e nb,⟨(x::r).dropLast,by rw[ag,List.map_dropLast]⟩⟩
end
theorem eO {α:Type}:∀(l:List α) (i:Nat) (h:i<l.length),(l[i]::l.eraseIdx i).Perm l
 | a::l,0,_=>List.Perm.refl _
 | a::l,i+1,h=>by
  have ih:=eO l i (by simpa using h);rw[List.getElem_cons_succ,List.eraseIdx_cons_succ];exact(List.Perm.swap _ _ _).trans (List.Perm.cons _ ih)
def jI:List Str:=["a", "b", "c", "ab", "ba", "x", "wire", "zzzzzzzz", "not", "hold", "d", "req"]
def lx:Sp:=λvs H Q _=>∃(D:Dk) (m:Nat),vs=[.ref D.d,.int (m:Int)]/\D.At H/\1<=m/\m<=11/\∀l (ns:List Str) H',ns.length=m->H l=none->H' l=some (.lst (ns.map V.str))->Kp D H H'->ns.Nodup->(∀x∈ns,x∈jI)->Q (.ref l) H'
def ol:Sp:=λvs H Q _=>∃(D:Dk),vs=[.ref D.d,.int 8]/\D.At H/\∀l (i o:Nat) H',i<=4->1<=o->o<=7->i+o<=11->H l=none->H' l=some (.lst [.int (i:Int),.int (o:Int)])->Kp D H H'->Q (.ref l) H'
section
theorem kg:FnScope ["deck", "many", "spare"] ["deck", "many"] (ak (top 31)):=by fin2
theorem pS {f:Addr} {fd:FuncData} (Fu:Fun K "_law_names" "_law_names" (top 31) f fd) (T:Txt K mg TT) (f_law_next:Fn P w K mg base "_law_next" ["deck"] 1 eK):FnOk P w K mg base CX0 2 f fd ["deck", "many"] lx:=by
 have S:=kg;refine Fu.ok S (by room) (λcdv A outer s H vs Q E hr h=>?_);obtain⟨D,m,rfl,DA,m1,m12,k⟩:=h;refine'⟨?_,?bb,?_⟩
 case bb =>
  walk_at "b";refine' kA (i:=2) ?n ?r ?l ?e ?s ?f
  case n=>exact S.nd
  case r=>rfl
  case l=>z_go
  case s=>rfl
  case f=>z_go
  case e =>
   with_reducible refine' pe_lst ?a3
   case a3 =>
    with_reducible refine' aa ?e4 ?s4 ay
    case e4 =>
     exact aQ
    case s4 =>
     with_reducible refine' aa ?e6 ?s6 ay
     case e6 =>
      exact aQ
     case s6 =>
      with_reducible refine' aa ?e8 ?s8 ay
      case e8 =>
       exact aQ
      case s8 =>
       with_reducible refine' aa ?e10 ?s10 ay
       case e10 =>
        exact aQ
       case s10 =>
        with_reducible refine' aa ?e12 ?s12 ay
        case e12 =>
         exact aQ
        case s12 =>
         with_reducible refine' aa ?e14 ?s14 ay
         case e14 =>
          exact aQ
         case s14 =>
          with_reducible refine' aa ?e16 ?s16 ay
          case e16 =>
           exact aQ
          case s16 =>
           with_reducible refine' aa ?e18 ?s18 ay
           case e18 =>
            exact aQ
           case s18 =>
            with_reducible refine' aa ?e20 ?s20 ay
            case e20 =>
             exact aQ
            case s20 =>
             with_reducible refine' aa ?e22 ?s22 ay
             case e22 =>
              exact aQ
             case s22 =>
              with_reducible refine' aa ?e24 ?s24 ay
              case e24 =>
               exact aQ
              case s24 =>
               with_reducible refine' aa ?e26 ?s26 ay
               case e26 =>
                exact aQ
               case s26 =>
                exact ae
  exact(aN (jj "k" [("spare", 2),("deck", 0)] (bP (by rfl) T.n_range (aa (pv 1) ae ad)) (λ_ _ _ _=>(rJ (K:=K) rfl Qt PySem.F.slot_list_pop PySem.F.type_list_pop lX (pv 1) (aa (aA bh (aK f_law_next hr (aa (pv 2) ae ad)) (am (eG (K:=K) rfl) (by rfl) T.n_len QN (aa (pv 1) ae ad))) ae)))))
 x_go;lk;refine⟨by simp[sizeLine],λp hp=>?_⟩;ctx_has H p H1 S1 q1 aj hp;have q1':H1 p=some (.lst (jI.map V.str)):=q1;have kp1:Kp D H H1:=Kp.of DA S1;have np:¬D.own p:=av DA hp;lk;refine cG ?_;lk;refine⟨by omega,by omega,λL hL=>?_⟩;rw[QZ];have HL:H L=none:=kp1.free hL;have npL:p≠L:=ai q1 hL;have nL:¬D.own L:=av DA HL;let I15:IvC:=λn H' ys=>Kp D H H'/\H' L=some (.lst ys)/\∃zs sp:List Str,ys=zs.map V.str/\zs.length=n/\H' p=some (.lst (sp.map V.str))/\sp.length+n=12/\(zs++sp).Nodup/\∀x∈zs++sp,x∈jI;refine dA (n:=m) I15 ⟨Kp.fresh DA HL kp1,ag,[],_,rfl,rfl,by rw[af npL];exact q1',rfl,by decide +kernel,λx hx=>hx⟩ (λi H' ys pv=>pv.2.1) (λi H' ys hi pv=>?_) (λH' ys pv=>?_)
 ·obtain⟨kp,hl,zs,sp,rfl,hz,hsp,ls,nd,sub⟩:=pv;refine aw ⟨by repeat' (first|exact trivial|refine⟨rfl,?_⟩),i_yes (iteT ?_)⟩;refine i_bm (ap rfl ?_);refine⟨i_tyL hsp,?_⟩;lk;refine bB kp λr H2 k2 kp2=>?_;have hsp2:=k2.old _ _ hsp np;have hl2:=k2.old _ _ hl nL;lk;rw[Qa];refine i_rI (show (0:Int)<(sp.length:Int) by omega) ?_;obtain⟨j,ej,hj⟩:=bD r (m:=(sp.length:Int)) (by omega);rw[ej];have hjl:j<sp.length:=by omega
  have ez:sp[j]?=some sp[j]:=Qb hjl;refine bv ?_;refine⟨p,sp.map V.str,(j:Int),j,.str sp[j],rfl,rfl,hsp2,by omega,by omega,?_,by rw[Qe,ez];rfl,?_⟩
  ·have:ixN (sp.map V.str).length (j:Int)=some j:=by unfold ixN;rw[Qv (by omega),Qa,Qv hj,QZ]
   exact(gK this).1
  rw[f6]
  have pm:((zs++[sp[j]])++sp.eraseIdx j).Perm (zs++sp):=by
   rw[Q0];exact List.Perm.append_left _ (eO sp j hjl)
  have le:(sp.eraseIdx j).length=sp.length-1:=by rw[List.length_eraseIdx,Qv hjl]
  refine cs.mk (by rw[af npL.symm];exact hl2) hi (by rw[Qa];omega) ⟨Kp.fresh DA HL (Kp.fresh DA hp kp2),ag,zs++[sp[j]],sp.eraseIdx j,by rw[Qr];rfl,by rw[Qd,hz];rfl,by rw[af npL,ag],by omega,?_,λx hx=>?_⟩
  ·exact pm.nodup_iff.mpr nd
  exact sub x (pm.mem_iff.mp hx)
 obtain⟨kp,hl,zs,sp,rfl,hz,_,_,nd,sub⟩:=pv;exact k L zs H' hz HL hl kp (List.nodup_append.mp nd).1 (λx hx=>sub x (Q6 _ hx))
theorem j8:FnScope ["deck", "many", "outs", "ins"] ["deck", "many"] (ak (top 32)):=by fin2
theorem rZ {f:Addr} {fd:FuncData} (Fu:Fun K "_law_shape" "_law_shape" (top 32) f fd) (T:Txt K mg TT) (f_law_next:Fn P w K mg base "_law_next" ["deck"] 1 eK):FnOk P w K mg base CX0 2 f fd ["deck", "many"] ol:=by
 have S:=j8;refine Fu.ok S (by room) (λcdv A outer s H vs Q E hr h=>?_);obtain⟨D,rfl,DA,k⟩:=h;refine'⟨?_,?bb,?_⟩
 case bb =>
  walk_at "b";exact aB 2 S.nd (au aM (pe_lst (aa ah (aa ah (aa ah (aa ah (aa ah (aa ah (aa ah ae ay) ay) ay) ay) ay) ay) ay)) (aA bh (aK f_law_next hr (aa (pv 0) ae ad)) ah));exact aB 3 S.nd (aA bh (aK f_law_next hr (aa (pv 0) ae ad)) (aA nA ah (pv 2)));exact(aH jo (aA bh (aK f_law_next hr (aa (pv 0) ae ad)) (pv 1)) ah (bi _));exact aB 3 S.nd (aA bh (aK f_law_next hr (aa (pv 0) ae ad)) ah);exact aB 2 S.nd (aA bX (aA nA ah (pv 3)) (aA bh (aK f_law_next hr (aa (pv 0) ae ad)) (aA bX (pv 3) ah)));exact(aN (pe_lst (aa (pv 3) (aa (pv 2) ae ad) ad)))
 x_go;lk;refine⟨by simp[sizeLine],λp hp=>?_⟩;ctx_has H p H1 S1 q1 aj hp;have q1':H1 p=some (.lst (([1,1,2,2,3,4,5]:List Int).map V.int)):=q1;have kp1:Kp D H H1:=Kp.of DA S1;have np:¬D.own p:=av DA hp;lk;refine bB kp1 λr H2 k2 kp2=>?_;lk;obtain⟨j,ej,hj⟩:=bD r (m:=7) (by decide);rw[ej];obtain⟨o,ho,eo⟩:=lT (xs:=[1,1,2,2,3,4,5]) (r:=(j:Int)) (by omega) (by exact hj)
 have ob:1<=o/\o<=5:=by
  simp only[Qu,List.not_mem_nil,or_false]at ho;omega
 refine bx (SqL.of (k2.old _ _ q1' np)) eo ?_;lk;refine bB kp2 λr2 H3 k3 kp3=>?_;lk;refine i_rI (show (0:Int)<6-o by omega) ?_;obtain⟨i,ei,hi⟩:=bD r2 (m:=6-o) (by omega);rw[ei];obtain⟨on,rfl⟩:=Int.eq_ofNat_of_zero_le (show 0<=o by omega);kt_k;let I16:IvJ:=λU G=>∃i' o':Nat,U=[some (.ref D.d),some (.int 8),some (.int (o':Int)),some (.int (i':Int))]/\i'<=4/\1<=o'/\o'<=7/\i'+o'<=11/\Kp D H G;with_reducible refine cW I16 (λRR hJ=>?_) (λU G h=>?_)
 ·lk;refine bB kp3 λr3 H4 k4 kp4=>?_;lk;refine sw (λ_=>?_) (λ_=>?_)
  ·lk;refine bB kp4 λr4 H5 k5 kp5=>?_;lk;obtain⟨i2,ei2,hi2⟩:=bD r4 (m:=5) (by decide);rw[ei2];lk;refine bB kp5 λr5 H6 k6 kp6=>?_;lk;refine i_rI (show (0:Int)<(i2:Int)+2 by omega) ?_;obtain⟨x,ex,hx⟩:=bD r5 (m:=(i2:Int)+2) (by omega);rw[ex];lk;exact hJ _ _ ⟨i2,6-i2+x,by rw[show ((6-i2+x:Nat):Int)=6-(i2:Int)+(x:Int) by omega];rfl,by omega,by omega,by omega,by omega,kp6⟩
  exact s_next (hJ _ _ ⟨i,on,rfl,by omega,by omega,by omega,by omega,kp4⟩)
 obtain⟨i',o',rfl,b1,b2,b3,b4,kp⟩:=h;lk;refine⟨by simp[sizeLine],λl hl=>?_⟩;exact k l i' o' _ b1 b2 b3 b4 (kp.free hl) ag (kp.new hl)
end
structure Gr (ws rows:List Str) (nodes:List (List (Str × Nat))):Prop where
 len:rows.length=nodes.length
 pos:1<=nodes.length
 rok:∀y∈rows,StOk ws.length y
 edge:∀i p,p∈nodes.getD i []->p.1∈ws/\p.2<nodes.length/\rows.getD p.2 "" = dF (rows.getD i "") (ws.idxOf p.1)
 ndn:∀node∈nodes,(node.map (·.1)).Nodup
structure Bld (D:Dk) (H:Hp) (Lm Lr Lq:Addr) (ws rows:List Str) (nas:B3) (nodes:List (List (Str × Nat))) (H':Hp):Prop where
 kp:Kp D H H'
 m0:H Lm=none
 r0:H Lr=none
 q0:H Lq=none
 f0:∀b∈nas,H b=none
 hm:H' Lm=some (.lst (ws.map V.str))
 hr:H' Lr=some (.lst (rows.map V.str))
 hq:H' Lq=some (.lst (nas.map V.ref))
 nd:(Lm::Lr::Lq::nas).Nodup
 nod:Paired (λna node=>aD H' na (a_ node)) nas nodes
 da:D.At H
theorem aD.kp (DA:D.At H) (k:Kp D H H') (no:¬D.own a) (h:aD H a sts):aD H' a sts:=by
 obtain⟨vs,h1,h2⟩:=h;exact⟨vs,k.old _ _ h1 no,aE (λv s ⟨b,e,q⟩=>⟨b,e,k.tups DA _ _ q⟩) h2⟩
theorem bN {α β:Type} {F G:α->β->Prop}:∀{xs:List α} {ys:List β},(∀x∈xs,∀y,F x y->G x y)->Paired F xs ys->Paired G xs ys
 | _,_,_,.nil=>.nil
 | _,_,h,.cons a t=>.cons (h _ Q4 _ a) (bN (λx hx=>h x (Qs _ hx)) t)
section
variable {D:Dk} {H H' H'':Hp} {Lm Lr Lq:Addr} {ws rows:List Str} {nas:B3} {nodes:List (List (Str × Nat))}
theorem Bld.nm (b:Bld D H Lm Lr Lq ws rows nas nodes H'):¬D.own Lm:=av b.da b.m0
theorem Bld.nr (b:Bld D H Lm Lr Lq ws rows nas nodes H'):¬D.own Lr:=av b.da b.r0
theorem Bld.nq (b:Bld D H Lm Lr Lq ws rows nas nodes H'):¬D.own Lq:=av b.da b.q0
theorem Bld.draw (b:Bld D H Lm Lr Lq ws rows nas nodes H') (k:Kp D H' H''):Bld D H Lm Lr Lq ws rows nas nodes H'' :=
 ⟨b.kp.trans k,b.m0,b.r0,b.q0,b.f0,k.old _ _ b.hm b.nm,k.old _ _ b.hr b.nr,k.old _ _ b.hq b.nq,b.nd,bN (λna hn _ h=>h.kp b.kp.dk k (av b.da (b.f0 na hn))) b.nod,b.da⟩
theorem Bld.same (b:Bld D H Lm Lr Lq ws rows nas nodes H') (S:ax H' H''):Bld D H Lm Lr Lq ws rows nas nodes H'':=b.draw (Kp.of b.kp.dk S)
theorem Bld.lenN (b:Bld D H Lm Lr Lq ws rows nas nodes H'):nas.length=nodes.length:=aL b.nod
theorem Bld.neR (b:Bld D H Lm Lr Lq ws rows nas nodes H'):Lm≠Lr/\Lm≠Lq/\Lr≠Lq/\Lm∉nas/\Lr∉nas/\Lq∉nas/\nas.Nodup:=by
 have h:=b.nd;simp only[Xb,Qu,not_or]at h;exact⟨h.1.1,h.1.2.1,h.2.1.1,h.1.2.2,h.2.1.2,h.2.2.1,h.2.2.2⟩
variable {a b p na t:Addr}
theorem cu {o:HO} {sts:List (V × Key)} (hb:∃xs,H' b=some (.lst xs)) (h:aD H' a sts) (ne:a≠b):aD (upd H' b o) a sts:=by
 obtain⟨vs,h1,h2⟩:=h;obtain⟨xs,hb⟩:=hb;exact⟨vs,by rw[af ne];exact h1,aE (λv s ⟨c,e,q⟩=>⟨c,e,by rw[af (λz=>by rw[z,hb]at q;cases q)];exact q⟩) h2⟩
theorem Bld.addRow (b:Bld D H Lm Lr Lq ws rows nas nodes H') (DA:D.At H) (y:Str):Bld D H Lm Lr Lq ws (rows++[y]) nas nodes (upd H' Lr (.lst (rows.map V.str++[.str y]))):=by
 obtain⟨n1,n2,n3,n4,n5,n6,n7⟩:=b.neR
 exact⟨Kp.fresh DA b.r0 b.kp,b.m0,b.r0,b.q0,b.f0,by rw[af n1];exact b.hm,by rw[ag,Qr];rfl,by rw[af n3.symm];exact b.hq,b.nd,
  bN (λna hn node h=>cu ⟨_,b.hr⟩ h (λz=>n5 (z▸hn))) b.nod,b.da⟩
theorem Bld.addNode (b:Bld D H Lm Lr Lq ws rows nas nodes H') (DA:D.At H) {node:List (Str × Nat)} (p0:H p=none) (pn:p∉Lm::Lr::Lq::nas) (hp:aD H' p (a_ node)):Bld D H Lm Lr Lq ws rows (nas++[p]) (nodes++[node]) (upd H' Lq (.lst (nas.map V.ref++[.ref p]))):=by
 obtain⟨n1,n2,n3,n4,n5,n6,n7⟩:=b.neR;simp only[Qu,not_or]at pn;obtain⟨p1,p2,p3,p4⟩:=pn;refine⟨Kp.fresh DA b.q0 b.kp,b.m0,b.r0,b.q0,λc hc=>?_,by rw[af n2];exact b.hm,by rw[af n3];exact b.hr,by rw[ag,Qr];rfl,?_,b0 (bN (λna hn node h=>cu ⟨_,b.hq⟩ h (λz=>n6 (z▸hn))) b.nod) (cu ⟨_,b.hq⟩ hp p3),b.da⟩
 ·rcases Qk.mp hc with h|h
  ·exact b.f0 c h
  rw[Qp]at h;subst h;exact p0
 have e:Lm::Lr::Lq::(nas++[p])=(Lm::Lr::Lq::nas)++[p]:=rfl;rw[e,List.nodup_append];refine⟨b.nd,by simp,λx hx y hy z=>?_⟩;rw[Qp]at hy;subst hy;subst z;simp only[Qu]at hx;rcases hx with h|h|h|h
 ·exact p1 h
 ·exact p2 h
 ·exact p3 h
 exact p4 h
theorem Bld.new (b:Bld D H Lm Lr Lq ws rows nas nodes H') (hp:H' p=none):p∉Lm::Lr::Lq::nas:=λh=>by
 simp only[Qu]at h;rcases h with h|h|h|h
 ·rw[h,b.hm]at hp;cases hp
 ·rw[h,b.hr]at hp;cases hp
 ·rw[h,b.hq]at hp;cases hp
 obtain⟨i,hi,e⟩:=QH.mp h;obtain⟨node,_,vs,h1,_⟩:=paired_get b.nod (i:=i) (x:=p) (by rw[Qb hi,e]);rw[hp]at h1;cases h1
theorem h8 {α β:Type} {F G:α->β->Prop}:∀{xs:List α} {ys:List β} {i:Nat} {x:α} {y:β},xs.Nodup->xs[i]?=some x->(∀x'∈xs,x'≠x->∀y,F x' y->G x' y)->G x y->Paired F xs ys->Paired G xs (ys.set i y)
 | _,_,_,_,_,_,e,_,_,.nil=>by simp at e
 | _,_,0,_,_,nd,e,h,g,.cons a t=>by
  simp at e;subst e;rw[Xb]at nd;exact .cons g (bN (λx' hx' y=>h x' (Qs _ hx') (λz=>nd.1 (z▸hx')) y) t)
 | _,_,i+1,x,_,nd,e,h,g,.cons a t=>by
  rw[Xb]at nd;have e':=e;simp at e';exact .cons (h _ Q4 (λz=>nd.1 (z▸Qn e')) _ a) (h8 nd.2 e' (λx' hx'=>h x' (Qs _ hx')) g t)
theorem Bld.addTurn (b:Bld D H Lm Lr Lq ws rows nas nodes H') (DA:D.At H) {i:Nat} {vs:List V} {nm:Str} {to:Nat} (hi:nas[i]?=some na) (hv:H' na=some (.lst vs)) (ht:H' t=some (.tup [.str nm,.int (to:Int)])) :
  Bld D H Lm Lr Lq ws rows nas (nodes.set i (nodes.getD i []++[(nm,to)])) (upd H' na (.lst (vs++[.ref t]))):=by
 obtain⟨n1,n2,n3,n4,n5,n6,n7⟩:=b.neR;have hm:=Qn hi;have f0:=b.f0 na hm;have m1:Lm≠na:=λz=>n4 (z▸hm);have m2:Lr≠na:=λz=>n5 (z▸hm);have m3:Lq≠na:=λz=>n6 (z▸hm);refine⟨Kp.fresh DA f0 b.kp,b.m0,b.r0,b.q0,b.f0,by rw[af m1];exact b.hm,by rw[af m2];exact b.hr,by rw[af m3];exact b.hq,b.nd,h8 n7 hi (λx' hx' ne node h=>cu ⟨_,hv⟩ h ne) ?_ b.nod,b.da⟩;obtain⟨node,hn,vs',h1,h2⟩:=paired_get b.nod hi;rw[hv]at h1;cases h1;have en:nodes.getD i []=node:=by rw[Qm,hn];rfl
 rw[en];refine⟨vs++[.ref t],ag,?_⟩;unfold a_ at h2 ⊢;rw[Qr];have nt:∀{c xs},H' c=some (.tup xs)->c≠na:=λq z=>by rw[z,hv]at q;cases q
 exact b0 (aE (λv s ⟨c,e,q⟩=>⟨c,e,by rw[af (nt q)];exact q⟩) h2) ⟨t,rfl,by rw[af (nt ht)];exact ht⟩
end
theorem gl {xs:List α} {x d:α} (h:i<xs.length):(xs.set i x).getD i d=x:=by
 rw[Qm,List.getElem?_set_self h];rfl
theorem gk {xs:List α} {x d:α} (h:i≠j):(xs.set i x).getD j d=xs.getD j d:=by
 rw[Qm,List.getElem?_set_ne h,Qm]
theorem b8 {xs ys:List α} {i:Nat} {d:α} (h:i<xs.length):(xs++ys).getD i d=xs.getD i d:=by
 rw[Qm,QT h,Qm]
theorem eF {xs:List α} {y d:α}:(xs++[y]).getD xs.length d=y:=by
 rw[Qm,QK (Qh _)];simp
theorem dU {xs:List α} {d:α} (h:i<xs.length):xs.getD i d∈xs:=by
 rw[Qm,Qb h];exact Xe h
theorem iA {xs:List α} {d:α} (h:xs.length<=i):xs.getD i d=d:=by
 rw[Qm,List.getElem?_eq_none h];rfl
variable {nodes ex:List (List (Str × Nat))}
theorem oJ {nm:Str} (h:∀node∈nodes,(node.map (·.1)).Nodup) (hi:i<nodes.length) (new:nm∉(nodes.getD i []).map (·.1)):∀node∈nodes.set i (nodes.getD i []++[(nm,to)]),(node.map (·.1)).Nodup:=λnode hn=>by
 rcases List.mem_or_eq_of_mem_set hn with h1|h1
 ·exact h node h1
 subst h1;rw[Qr,List.nodup_append];refine⟨h _ (dU hi),by simp,λa ha b hb z=>?_⟩;have:b=nm:=by simpa using hb
 subst this;subst z;exact new ha
theorem Gr.grow {ws:List Str} (g:Gr ws rows nodes) (nd:ws.Nodup) {k:Nat} (hi:i<nodes.length) (hk:k<ws.length) (new:ws[k]∉(nodes.getD i []).map (·.1)) :
  Gr ws (rows++[dF (rows.getD i "") k]) ((nodes.set i (nodes.getD i []++[(ws[k],nodes.length)]))++[[]]):=by
 have lr:=g.len;have ls:(nodes.set i (nodes.getD i []++[(ws[k],nodes.length)])).length=nodes.length:=Xv;have gi:StOk ws.length (rows.getD i ""):=g.rok _ (dU (by omega));have ik:ws.idxOf ws[k]=k:=List.Nodup.idxOf_getElem nd k hk;refine⟨by rw[Qd,Qd,ls];simp[lr],by rw[Qd];simp,λy hy=>?_,λj p hp=>?_,λnode hn=>?_⟩
 ·rcases Qk.mp hy with h|h
  ·exact g.rok y h
  rw[Qp]at h;subst h;exact gC gi hk
 ·rw[Qd,ls];by_cases cj:j<nodes.length
  ·rw[b8 (by rw[ls];exact cj)]at hp;rw[b8 (xs:=rows) (i:=j) (by omega)];by_cases e:i=j
   ·subst e;rw[gl hi]at hp;rcases Qk.mp hp with h|h
    ·obtain⟨h1,h2,h3⟩:=g.edge i p h;exact⟨h1,by omega,by rw[b8 (by omega)];exact h3⟩
    rw[Qp]at h;subst h;refine⟨Xe hk,by simp,?_⟩;show (rows++[dF (rows.getD i "") k]).getD nodes.length "" = _;rw[<-lr,eF,ik]
   rw[gk e]at hp;obtain⟨h1,h2,h3⟩:=g.edge j p hp;exact⟨h1,by omega,by rw[b8 (by omega)];exact h3⟩
  exfalso;by_cases e:j=nodes.length
  ·subst e;have q:=eF (xs:=nodes.set i (nodes.getD i []++[(ws[k],nodes.length)])) (y:=[]) (d:=[]);rw[ls]at q;rw[q]at hp
   nomatch hp
  rw[iA (by rw[Qd,ls];simp;omega)]at hp
  nomatch hp
 rcases Qk.mp hn with h|h
 ·exact oJ g.ndn hi new node h
 rw[Qp]at h;subst h;exact List.nodup_nil
theorem Gr.turn {ws:List Str} (g:Gr ws rows nodes) (nd:ws.Nodup) {k:Nat} (hi:i<nodes.length) (hk:k<ws.length) (ht:to<nodes.length) (he:rows.getD to "" = dF (rows.getD i "") k) (new:ws[k]∉(nodes.getD i []).map (·.1)) :
  Gr ws rows (nodes.set i (nodes.getD i []++[(ws[k],to)])):=by
 have ls:(nodes.set i (nodes.getD i []++[(ws[k],to)])).length=nodes.length:=Xv;have ik:ws.idxOf ws[k]=k:=List.Nodup.idxOf_getElem nd k hk;refine⟨by rw[ls];exact g.len,by rw[ls];exact g.pos,g.rok,λj p hp=>?_,oJ g.ndn hi new⟩;rw[ls];by_cases e:i=j
 ·subst e;rw[gl hi]at hp;rcases Qk.mp hp with h|h
  ·exact g.edge i p h
  rw[Qp]at h;subst h;exact⟨Xe hk,ht,by rw[ik];exact he⟩
 rw[gk e]at hp;exact g.edge j p hp
section
variable {K:PySem.W.Frag} {U:St} {H:Hp}
theorem sI {Q:VK} {i j h:Nat} {Lq na:Addr} {nas:B3} {node:List (Str × Nat)} (hi:U[i]?=some (some (.ref Lq))) (hj:U[j]?=some (some (.int (h:Int)))) (hq:H Lq=some (.lst (nas.map V.ref))) (hna:nas[h]?=some na) (st:aD H na (a_ node)) (few:node.length<=1000)
  (q:∀L H',ax H H'->H L=none->H' L=some (.lst ((node.map (·.1)).map V.str))->Q (.ref L) H') :
  i_ (ml K (tOp (lP K) (cV i) (cV j))) (uB K 2 (ms (cT 0) (ms (cT 1) wP))) jP (cV 0) (bE ["name", "to"] []) U H Q:=by
 have big:1000<sizeLine:=by decide
 obtain⟨vs,hv,pr⟩:=st;refine cG (s_list (bY (ap hi (ap hj (bx (v:=.ref na) (SqL.of hq) (aU (by rw[Qe,hna];rfl)) ⟨na,rfl,⟨_,SqL.of hv⟩,λL hL=>?_⟩)))));refine c8 (xs:=vs) (λn H' ys=>ax H H'/\H' L=some (.lst ys)/\ys=((node.map (·.1)).map V.str).take n) ⟨aq hL,ag,by simp⟩ (λn H' ys pv=>⟨pv.2.1,SqL.of (pv.1 _ _ hv)⟩) (λn x H' ys e pv=>?_) (λH' ys pv=>?_)
 ·obtain⟨S,hl,rfl⟩:=pv;obtain⟨st,hst,b,rfl,hb⟩:=paired_get pr e;unfold a_ at hst;rw[Qe]at hst
  cases hp:node[n]? with
  | none=>rw[hp]at hst;cases hst
  | some p =>
  rw[hp]at hst;cases hst;have hn:n<vs.length:=(Qc.mp e).1;refine⟨b,_,rfl,SqT.of (S _ _ hb),rfl,_,_,rfl,aw ⟨_,_,rfl,aw ⟨rfl,trivial,i_yes (iteT (ap rfl ?_))⟩⟩⟩;refine cs.mk hl hn (by rw[QF,Qa,Qa];omega) ⟨bq S hL,ag,?_⟩;rw[Xo,Qe,Qe,hp];rfl
 obtain⟨S,hl,rfl⟩:=pv;have lv:vs.length=node.length:=by have:=aL pr;unfold a_ at this;rwa [Qa]at this
 refine q L H' S hL (by rw[hl,QP (by rw[Qa,Qa];omega)])
theorem qg {R:Bool->Hp->Prop} {a b i j h k:Nat} {Lm Lq na:Addr} {nas:B3} {ws:List Str} {node:List (Str × Nat)} {nm:Str} (ha:U[a]?=some (some (.ref Lm))) (hb:U[b]?=some (some (.int (k:Int)))) (hm:H Lm=some (.lst (ws.map V.str))) (hk:ws[k]?=some nm)
  (hi:U[i]?=some (some (.ref Lq))) (hj:U[j]?=some (some (.int (h:Int)))) (hq:H Lq=some (.lst (nas.map V.ref))) (hna:nas[h]?=some na) (st:aD H na (a_ node)) (few:node.length<=1000)
  (q:∀H',ax H H'->R (!decide (nm∈node.map (·.1))) H') :
  gQ (tOp (rIn K true) (tOp (lP K) (cV a) (cV b)) (i_ (ml K (tOp (lP K) (cV i) (cV j))) (uB K 2 (ms (cT 0) (ms (cT 1) wP))) jP (cV 0) (bE ["name", "to"] []))) U H R:=by
 refine i_test (bY (bY (ap ha (ap hb (bx (v:=.str nm) (SqL.of hm) (aU (by rw[Qe,hk];rfl)) ?_)))));refine sI hi hj hq hna st few λL H' S _ hL=>?_;refine⟨L,_,rfl,.inl (SqL.of hL),rfl,cI _,_,rfl,?_⟩
 have e:(if true=true then !inV (.str nm) ((node.map (·.1)).map V.str) else inV (.str nm) ((node.map (·.1)).map V.str))=!decide (nm∈node.map (·.1)):=by
  rw[Qv rfl];congr 1;by_cases c:nm∈node.map (·.1)
  ·rw[cf.mpr c,QU c]
  rw[QE c];exact Xs.mpr λz=>c (cf.mp z)
 rw[e];exact q H' S
theorem uu {R:Bool->Hp->Prop} {i:Nat} {l:Addr} {xs:List V} (hi:U[i]?=some (some (.ref l))) (hl:H l=some (.lst xs)) (q:∀H',ax H H'->R (!decide (xs.length=0)) H'):gQ (tOp (q_ K true) (cV i) (tJ pB)) U H R:=by
 refine i_test (bY (ap hi (i_lst (bv ⟨by simp[sizeLine],λp hp=>?_⟩))));refine⟨l,p,xs,[],λ_=>true,rfl,rfl,SqL.of (aq hp _ _ hl),SqL.of ag,λj x y _ e=>by simp at e,_,rfl,?_⟩
 have e:(if true=true then !(xs.length==([]:List V).length&&(List.range xs.length).all λ_=>true) else (xs.length==([]:List V).length&&(List.range xs.length).all λ_=>true))=!decide (xs.length=0):=by
  rw[Qv rfl,Xi.mpr (λ_ _=>rfl),Bool.and_true];rfl
 rw[e];exact q _ (aq hp)
end
def aO (ks:List Nat):List V:=ks.map λ(k:Nat)=>V.int (k:Int)
theorem rg {ks:List Nat} {r:Int} (h0:0<=r) (h1:r<ks.length):∃k∈ks,atI (aO ks) r=some (.int (k:Int)):=by
 have hr:r.toNat<ks.length:=by omega
 refine⟨ks[r.toNat],Xe hr,?_⟩;have e:r=((r.toNat:Nat):Int):=by omega
 have q:=aU (xs:=aO ks) (j:=r.toNat) (v:=.int (ks[r.toNat]:Nat)) (by unfold aO;rw[Qe,Qb hr];rfl);rw[<-e]at q;exact q
theorem Gr.few {ws:List Str} (g:Gr ws rows nodes) (i:Nat):(nodes.getD i []).length<=ws.length:=by
 by_cases h:i<nodes.length
 ·have:=Bf.dP ((nodes.getD i []).map (·.1)) ws (g.ndn _ (dU h)) λx hx=>by
   obtain⟨p,hp,rfl⟩:=QG.mp hx;exact(g.edge i p hp).1
  rwa [Qa]at this
 rw[iA (by omega)];exact Q5 _
theorem Bld.at {Lm:Addr} {ws:List Str} (b:Bld D H Lm Lr Lq ws rows nas nodes H') (hi:i<nodes.length):∃na,nas[i]?=some na/\aD H' na (a_ (nodes.getD i [])):=by
 obtain⟨na,h1,h2⟩:=bO b.nod (Qb hi);exact⟨na,h1,by rw[Qm,Qb hi];exact h2⟩
theorem Gr.row {ws:List Str} (g:Gr ws rows nodes) (hi:i<nodes.length):rows[i]?=some (rows.getD i ""):=by
 have:=g.len;rw[Qm,Qb (by omega)];rfl
def cX (lam:Nat->Str) (xs:List Nat):List (Key × V):=xs.map λ(x:Nat)=>((Sum.inl (x:Int):Key),V.str (lam x))
theorem fc {lam:Nat->Str} {x:Nat}:∀{xs:List Nat},x∈xs->aJ (cX lam xs) (Sum.inl (x:Int))=some (.str (lam x))
 | y::xs,h=>by
  show aJ (((Sum.inl (y:Int):Key),V.str (lam y))::cX lam xs) _=_;by_cases c:y=x
  ·subst c;exact bo (p:=((Sum.inl (y:Int):Key),V.str (lam y))) rfl
  rw[bp (p:=((Sum.inl (y:Int):Key),V.str (lam y))) (λz=>c (by have:=Sum.inl.inj z;omega))];exact fc ((Qu.mp h).resolve_left λz=>c z.symm)
theorem gZ {lam:Nat->Str} {x:Nat}:∀{xs:List Nat},x∉xs->aJ (cX lam xs) (Sum.inl (x:Int))=none
 | [],_=>rfl
 | y::xs,h=>by
  simp only[Qu,not_or]at h;show aJ (((Sum.inl (y:Int):Key),V.str (lam y))::cX lam xs) _=_;rw[bp (p:=((Sum.inl (y:Int):Key),V.str (lam y))) (λz=>h.1 (by have:=Sum.inl.inj z;omega))];exact gZ h.2
structure DW (s:Sh) (xs ws:List Nat) (P:Nat->Prop):Prop where
 nd:xs.Nodup
 z:0∈xs
 r:∀x∈xs,s.R x
 sub:∀w∈ws,w∈xs
 cl:∀x∈xs,x∉ws->¬P x->∀y∈s.nx x,y∈xs
variable {xs os:List Nat}
theorem DW.few (ok:ShOk s) {ws:List Nat} {P:Nat->Prop} (d:DW s xs ws P):xs.length<=s.nodes.length:=by
 have:=Bf.dP xs (List.range s.nodes.length) d.nd λx hx=>Xc.mpr (Sh.R_lt ok (d.r x hx));rwa [Xj]at this
theorem DW.add {ws:List Nat} {P:Nat->Prop} (d:DW s xs ws P) {y:Nat} (hy:s.R y) (new:y∉xs):DW s (xs++[y]) (ws++[y]) P:=by
 refine⟨List.nodup_append.mpr ⟨d.nd,by simp,λa ha b hb e=>new (by rw[<-Qp.mp hb,<-e];exact ha)⟩,Q6 _ d.z,λx hx=>?_,λw hw=>?_,λx hx nw np u hu=>?_⟩
 ·rcases Qk.mp hx with h|h
  ·exact d.r x h
  rw[Qp.mp h];exact hy
 ·rcases Qk.mp hw with h|h
  ·exact Q6 _ (d.sub w h)
  exact QA _ h
 rcases Qk.mp hx with h|h
 ·exact Q6 _ (d.cl x h (λz=>nw (Q6 _ z)) np u hu)
 exact absurd (QA _ h) nw
theorem DW.end (d:DW s xs [] λ_=>False) (x:Nat):x∈xs↔s.R x:=by
 refine⟨d.r x,λr=>?_⟩
 induction r with
 | start=>exact d.z
 | step _ hb ih=>exact d.cl _ ih (λh=>nomatch h) (λh=>h) _ hb
def jS:Sp:=λvs H Q _=>∃(a li lo ln:Addr) (nas:B3) (s:Sh) (lam:Nat->Str),vs=[.ref a]/\ShAt H a li lo ln nas s/\ShOk s/\Lab s lam /\
 ∀d (xs:List Nat) H',ax H H'->H d=none->H' d=some (.dK (cX lam xs))->xs.Nodup->(∀x,x∈xs↔s.R x)->Q (.ref d) H'
theorem p_ {xs:List V} (hL:H L=some (.lst xs)):pf H (upd H L o):=λb ys e=>by rw[af λz=>by rw[z,hL]at e;cases e];exact e
theorem jx (ks:List Nat):(aO ks).length=ks.length:=Qa ..
section
theorem lH:FnScope ["sheet", "names", "found", "waiting", "here", "name", "to"] ["sheet"] (ak (top 36)):=by fin2
theorem r9 {f:Addr} {fd:FuncData} (Fu:Fun K "_law_rows" "_law_rows" (top 36) f fd) (T:Txt K mg TT) (f_law_flip:Fn P w K mg base "_law_flip" ["signs", "at"] 1 dJ):FnOk P w K mg base CX0 2 f fd ["sheet"] jS:=by
 have S:=lH;refine Fu.ok S (by room) (λcdv A outer s H vs Q E hr h=>?_);obtain⟨a,li,lo,ln,nas,sh,lam,rfl,at_,ok,lb,k⟩:=h;have hu:=cF hr;refine'⟨?_,?bb,?_⟩
 case bb =>
  walk_at "b";exact aB 1 S.nd (aA fW (au aW (pv 0) ah) (au aW (pv 0) ah));exact aB 2 S.nd (gI (fg ah (au aW (pv 0) ah) gH) rfl rfl (by simp) (by decide));exact aB 3 S.nd (pe_lst (aa ah ae ay));refine' lR PassesOwn.never ?_ ?_;rotate_left 2;exact(aH (kI hr.units) (pv 3) (pe_lst ae) (bi _));walk_at "p";exact aB 4 S.nd (rK Qt PySem.F.slot_list_pop PySem.F.type_list_pop sj (pv 3));walk_at "f";exact(bK (au aM (au aW (pv 0) ah) (pv 4)));exact(fR rfl (br (bU 5 S.nd) (br (bU 6 S.nd) cS)));walk_at "p";exact(kz (jk hu (pv 6) (pv 2)));exact(cR hu (pv 2) (pv 6) (aK f_law_flip hr (aa (cC hu (pv 2) (pv 4)) (aa (cE Qt PySem.F.slot_list_index PySem.F.type_list_index fq (pv 1) (aa (pv 5) ae ad)) ae se_call))) rfl);exact(bV (cE Qt Q8 Q9 bA (pv 3) (aa (pv 6) ae ad)));exact(aN (pv 2))
 x_go;have n100:=ok.n100;have n1:=ok.n1;have w11:=ok.w11;have ha:=at_.ha;have lw:(sh.ins.map V.str).length+(sh.outs.map V.str).length=sh.ws.length:=by rw[Qa,Qa];unfold Sh.ws;rw[Qd]
 lk;refine jy at_.hi at_.ho (by omega) λLm hLm=>?_;rw[<-Qr];ctx_has H Lm H1 S1 q1 aj hLm;have q1:H1 Lm=some (.lst (sh.ws.map V.str)):=q1;have ha1:=S1 _ _ ha;lk;refine λF hF=>?_;have hF0:H F=none:=ax.free S1 hF;have ha1F:upd H1 F (.dK []) a=some (.tup [.ref li,.ref lo,.str sh.z,.ref ln]):=aq hF _ _ ha1;show tOp (pG K) (cV 0) (tC (V.int 2)) _ (upd H1 F (.dK [])) _;refine bY (ap rfl (i_c (i_ixT ha1F rfl ?_)));refine⟨ag,[(Sum.inl 0,.str sh.z)],rfl,by simp,?_⟩;rw[gB];ctx_has H1 F H2 S2 q2 aj hF;have q2:H2 F=some (.dK (cX lam [0])):=by rw[q2,<-lb.1];rfl
 lk;refine⟨by simp[sizeLine],λW hW=>?_⟩;ctx_has H2 W H3 S3 q3 aj hW;have q3:H3 W=some (.lst (aO [0])):=q3;have hW0:H W=none:=ax.free (S1.trans S2) hW;have nFW:F≠W:=ai q2 hW;have q23:=S3 _ _ q2;have q13:=(S2.trans S3) _ _ q1;have S03:=S1.trans (S2.trans S3);have nmF:Lm≠F:=ai q1 hF;have nmW:Lm≠W:=ai (S2 _ _ q1) hW;have d0:DW sh [0] [0] λ_=>False:=⟨by simp,by simp,λx hx=>by rw[Qp.mp hx];exact .start,λw h=>h,λx hx nw=>absurd hx nw⟩;clear S1 S2 S3 hLm hF hW ha1F ha1 q1 q2;lk;let I17:IvF:=λm U H'=>∃(xs ws:List Nat) (y4 y5 y6:Option V),m<=300/\2*(sh.nodes.length-xs.length)+ws.length<=m/\U=[some (.ref a),some (.ref Lm),some (.ref F),some (.ref W),y4,y5,y6]/\DW sh xs ws (λ_=>False)/\ax H H'/\H' Lm=some (.lst (sh.ws.map V.str))/\H' F=some (.dK (cX lam xs))/\H' W=some (.lst (aO ws));refine⟨I17,⟨2*(sh.nodes.length-1)+1,[0],[0],_,_,_,by omega,Qh _,rfl,d0,S03,q13,q23,q3⟩,?_⟩;rintro m U H' ⟨xs,ws,y4,y5,y6,m300,lm,rfl,dw,SS,hm',hf',hw'⟩;have xl:=dw.few ok;lk;refine⟨by simp[sizeLine],λe he=>?_⟩;have Se:=aq (o:=.lst []) he;refine⟨W,e,_,[],λ_=>true,rfl,rfl,SqL.of (Se _ _ hw'),SqL.of ag,(λj x y _ h=>by simp at h),⟨_,rfl,?_⟩⟩;have hme:=Se _ _ hm';have hfe:=Se _ _ hf';have hwe:=Se _ _ hw';have SSe:=SS.trans Se;generalize upd H' e (.lst [])=He at *;clear Se he;refine sw (λhne=>?_) (λhno=>?_)
 ·have lpos:0<ws.length:=by
   cases ws with
   | nil=>simp[aO]at hne
   | cons x r=>simp
  refine⟨_,λσ' H' w=>⟨m-1,by omega,w⟩,?_⟩;obtain⟨wr,here,rfl⟩:∃wr here,ws=wr++[here]:=⟨ws.dropLast,ws.getLast (List.length_pos_iff.mp lpos),(List.dropLast_concat_getLast (List.length_pos_iff.mp lpos)).symm⟩;have hin:here∈xs:=dw.sub _ (by simp);have rh:=dw.r _ hin;have hlt:=Sh.R_lt ok rh;lk;refine vF (ap rfl ⟨i_tyL hwe,?_⟩);refine⟨W,_,.int (here:Nat),rfl,rfl,hwe,?_,?_⟩
  ·rw[jx,Qd,List.length_singleton];unfold aO;rw[Qe,Nat.add_sub_cancel,QK (Qh _),Nat.sub_self];rfl
  have ed:(aO (wr++[here])).dropLast=aO wr:=by unfold aO;rw[Qr];exact List.dropLast_concat
  rw[ed];have nF:F≠W:=nFW;generalize hE:upd He W _=Hp;have w1:Hp W=some (.lst (aO wr)):=by rw[<-hE,ag]
  have f1:Hp F=some (.dK (cX lam xs)):=by rw[<-hE,af nF];exact hfe
  have m1:Hp Lm=some (.lst (sh.ws.map V.str)):=by rw[<-hE,af nmW];exact hme
  have SSp:ax H Hp:=by rw[<-hE];exact bq SSe hW0
  clear hE hwe hfe hme SSe
  have dw1:DW sh xs wr λx=>x=here:=⟨dw.nd,dw.z,dw.r,λw h=>dw.sub w (Q6 _ h),λx hx nw np y hy=>dw.cl x hx (λz=>by
   rcases Qk.mp z with z|z
   ·exact nw z
   exact np (Qp.mp z)) (λz=>z) y hy⟩
  rw[Qd,List.length_singleton]at lm;have atp:=at_.same SSp;obtain⟨na,hna,vs,hv,pv⟩:=bO atp.nodes (Qb hlt);have en:sh.node here=sh.nodes[here]:=Sh.node_of (Qb hlt);rw[<-en]at pv;have fw:=ok.few _ (Sh.node_mem hlt);have names:=ok.names _ (Sh.node_mem hlt);have hap:=atp.ha;have lv:=aL pv;unfold a_ at lv;rw[Qa]at lv;clear en;generalize hnd:sh.node here=node at pv fw names lv;lk;refine bx (v:=.ref na) (SqL.of atp.hn) (aU (by rw[Qe,hna];rfl)) ⟨na,rfl,⟨_,SqL.of hv⟩,?_⟩;let I18:IvF:=λj U G=>∃(xs' ws':List Nat) (y5 y6:Option V),2*(sh.nodes.length-xs'.length)+ws'.length<=m-1/\U=[some (.ref a),some (.ref Lm),some (.ref F),some (.ref W),some (.int (here:Nat)),y5,y6]/\DW sh xs' ws' (λx=>x=here)/\here∈xs'/\(∀p∈node.take j,p.2∈xs')/\ax H G/\G Lm=some (.lst (sh.ws.map V.str))/\G F=some (.dK (cX lam xs'))/\G W=some (.lst (aO ws'))/\G na=some (.lst vs)/\pf Hp G
  refine cN (xs:=vs) I18
   ⟨xs,wr,_,_,by omega,rfl,dw1,hin,λp h=>by simp at h,SSp,m1,f1,w1,hv,λ_ _ e=>e⟩ (λj U G _ ⟨_,_,_,_,_,_,_,_,_,_,_,_,_,h,_⟩=>SqL.of h) (λj v U G ev pw=>?_) (λU G pw=>?_)
  ·obtain⟨xs',ws',y5,y6,lm',rfl,dw',hi',all,SG,mG,fG,wG,vG,kt⟩:=pw;obtain⟨st,est,b,rfl,hb⟩:=paired_get pv ev;unfold a_ at est;rw[Qe]at est;obtain⟨tp,etp,rfl⟩:=QX.mp est;have mtp:=Qn etp;have mw:=names tp mtp;have hbG:=kt _ _ hb;have xl':=dw'.few ok;have rto:sh.R tp.2:=.step rh (by unfold Sh.nx;rw[hnd];exact QG.mpr ⟨tp,mtp,rfl⟩);have lto:=lb.2 here rh tp (by rw[hnd];exact mtp);have tk:node.take (j+1)=node.take j++[tp]:=by rw[Xo,etp];rfl
   refine⟨b,_,rfl,SqT.of hbG,rfl,?_⟩;refine⟨_,_,rfl,aw ⟨_,_,rfl,aw ⟨rfl,?_⟩⟩⟩;lk;refine mh ?_;lk;have lrk:(cX lam xs').length=xs'.length:=Qa ..;refine⟨F,_,rfl,cq.k (k:=Sum.inl (tp.2:Int)) fG,_,rfl,?_⟩;by_cases c:tp.2∈xs'
   ·rw[fc c];refine ifF rfl ?_;refine s_next ⟨xs',ws',_,_,lm',rfl,dw',hi',λp hp=>?_,SG,mG,fG,wG,vG,kt⟩;rw[tk]at hp;rcases Qk.mp hp with h|h
    ·exact all p h
    rw[Qp.mp h];exact c
   rw[gZ c];refine ifT rfl ?_;lk;refine df ?_;lk
   have dg:cq G F (.int (here:Int)) (some (.str (lam here))):=by
    have z:=cq.k (k:=Sum.inl (here:Int)) fG;rw[fc hi']at z;exact z
   refine⟨F,_,rfl,dg,?_⟩;lk;refine⟨Lm,sh.ws,tp.1,sh.ws.idxOf tp.1,rfl,rfl,mG,kK mw,d_,by omega,?_⟩;lk;refine⟨_,sh.ws.length,_,rfl,Sh.len_row ok lb rh,QW mw,w11,?_⟩;lk;refine⟨F,_,rfl,eX.k (k:=Sum.inl (tp.2:Int)) fG (by rw[lrk];omega),?_⟩;rw[<-lto,cY _ (gZ c),show cX lam xs'++[((Sum.inl (tp.2:Int):Key),V.str (lam tp.2))]=cX lam (xs'++[tp.2]) by unfold cX;rw[Qr];rfl];have dwa:=dw'.add rto c;generalize hE:upd G F _=G2;have f2:G2 F=some (.dK (cX lam (xs'++[tp.2]))):=by rw[<-hE,ag]
   have w2:G2 W=some (.lst (aO ws')):=by rw[<-hE,af nFW.symm];exact wG
   have m2:G2 Lm=some (.lst (sh.ws.map V.str)):=by rw[<-hE,af nmF];exact mG
   have S2:ax H G2:=by rw[<-hE];exact bq SG hF0
   have v2:G2 na=some (.lst vs):=by rw[<-hE,af (λz=>by rw[z,fG]at vG;cases vG)];exact vG
   have kt2:pf G G2:=by rw[<-hE];exact λc xs e=>by rw[af λz=>by rw[z,fG]at e;cases e];exact e
   clear hE;lk;refine fE w2 (by rw[jx];omega) ?_
   have nvW:na≠W:=λz=>by
    have:=at_.nodes;obtain⟨node',_,vs',h1,_⟩:=paired_get at_.nodes hna;rw[z,hW0]at h1;cases h1
   refine⟨xs'++[tp.2],ws'++[tp.2],_,_,by rw[Qd,Qd,List.length_singleton];have:=dwa.few ok;rw[Qd,List.length_singleton]at this;omega,rfl,dwa,Q6 _ hi',λp hp=>?_,bq S2 hW0,by rw[af nmW];exact m2,by rw[af nFW];exact f2,by rw[ag];unfold aO;rw[Qr];rfl,by rw[af nvW];exact v2,λc xs e=>p_ w2 _ _ (kt2 _ _ (kt _ _ e))⟩;rw[tk]at hp;rcases Qk.mp hp with h|h
   ·exact Q6 _ (all p h)
   rw[Qp.mp h];simp
  obtain⟨xs',ws',y5,y6,lm',rfl,dw',hi',all,SG,mG,fG,wG,_,_⟩:=pw;rw[QP (by omega)]at all;refine⟨xs',ws',_,_,_,by omega,lm',rfl,⟨dw'.nd,dw'.z,dw'.r,dw'.sub,λx hx nw _ y hy=>?_⟩,SG,mG,fG,wG⟩;by_cases c:x=here
  ·subst c;unfold Sh.nx at hy;rw[hnd]at hy;obtain⟨p,hp,rfl⟩:=QG.mp hy;exact all p hp
  exact dw'.cl x hx nw c y hy
 have e0:ws=[]:=by
  cases ws with
  | nil=>rfl
  | cons x r=>exact absurd (by simp[aO]) hno
 subst e0;lk;exact k F xs He SSe hF0 hfe dw.nd dw.end
end
section
open PySem L2 PySem.Spec PyProof.Rows
theorem oO:∀a b:List Nat,ltCps a b=false->ltCps b a=false->a=b
 | [],[],_,_=>rfl
 | [],_::_,h,_=>nomatch h
 | _::_,[],_,h=>nomatch h
 | x::a,y::b,h,g=>by
  simp only[ltCps,Bool.or_eq_false_iff,decide_eq_false_iff_not]at h g;have e:x=y:=by omega
  subst e;simp only[BEq.rfl,Bool.true_and]at h g;rw[oO a b h.2 g.2]
theorem oN:∀a b c:List Nat,ltCps b a=false->ltCps c b=false->ltCps c a=false
 | [],_,[],_,_=>rfl
 | [],_,_::_,_,_=>rfl
 | _::_,[],_,h,_=>nomatch h
 | _::_,_::_,[],_,h=>nomatch h
 | x::a,y::b,z::c,h,g=>by
  simp only[ltCps,Bool.or_eq_false_iff,decide_eq_false_iff_not]at h g ⊢;refine⟨by omega,?_⟩;by_cases e:z=x
  ·have e2:z=y:=by omega
   subst e;subst e2;simp only[BEq.rfl,Bool.true_and]at h g ⊢;exact oN a b c h.2 g.2
  simp[e]
def leS (a b:Str):Prop:=ltCps b.cps.toList a.cps.toList=false
theorem sr {a b:Str} (h:leS a b) (g:leS b a):a=b:=by
 have:=oO _ _ g h;cases a;cases b;simpa using this
theorem g_:∀(r:List Str) (p:Str),risingS p r=true->(∀x∈r,leS p x)/\r.Pairwise leS
 | [],_,_=>⟨(λ_ h=>nomatch h),List.Pairwise.nil⟩
 | x::r,p,h=>by
  simp only[risingS,Xp,Bool.not_eq_true']at h;obtain⟨a,b⟩:=g_ r x h.2;have px:leS p x:=h.1;refine⟨λy hy=>?_,List.Pairwise.cons a b⟩;rcases Qu.mp hy with e|hy
  ·rw[e];exact px
  exact oN _ _ _ px (a y hy)
theorem gT:∀{r:List Str},sortedS r=true->r.Pairwise leS
 | [],_=>List.Pairwise.nil
 | x::r,h=>let ⟨a,b⟩:=g_ r x h;List.Pairwise.cons a b
theorem pC {a b:List Str} (ha:sortedS a=true) (hb:sortedS b=true) (p:List.Perm a b):a=b :=
 List.Perm.eq_of_pairwise (le:=leS) (λ_ _ _ _ h g=>sr h g) (gT ha) (gT hb) p
end
theorem wO (st:StOk n z) (hi:i<n) (g:G (.str (bH z i)) H):(λ(xs:List V) (H:Hp) (Q:VK)=>∃z n,xs=[V.str z]/\PySem.intText? z=some n/\z.length<=640/\Q (V.int n) H) [V.str ⟨#[z.cps.getD i 0]⟩] H (λy H2=>tO (V.str "10") y H2 G):=by
 have sgns:z.cps.getD i 0=48\/z.cps.getD i 0=49:=by
  have hl:=st.len;have e:z.cps.getD i 0=z.cps[i]'(by omega):=by simp[Array.getD,hl,hi]
  rw[e];exact st.signs _ (by simp)
 have ef:bH z i=if (z.cps.getD i 0==49)=true then ("0" : Str) else ("1" : Str):=rfl;rcases sgns with e|e
 ·rw[e];rw[e]at ef;refine⟨_,0,rfl,by decide +kernel,by decide,?_⟩;refine⟨"10", 0,49,rfl,rfl,by decide,by decide +kernel,?_⟩;rw[show (⟨#[49]⟩:Str) = "1" by decide +kernel,show ("1" : Str)=bH z i from by rw[ef];rfl];exact g
 rw[e];rw[e]at ef;refine⟨_,1,rfl,by decide +kernel,by decide,?_⟩;refine⟨"10", 1,48,rfl,rfl,by decide,by decide +kernel,?_⟩;rw[show (⟨#[48]⟩:Str) = "0" by decide +kernel,show ("0" : Str)=bH z i from by rw[ef];rfl];exact g
noncomputable def rB (s:Sh) (i:Nat):Bool:=@decide (s.R i) (Classical.propDecidable _)
theorem xA (h:s.R i):rB s i=true:=@QU _ (Classical.propDecidable _) h
theorem AN (h:¬s.R i):rB s i=false:=@QE _ (Classical.propDecidable _) h
theorem xy (h:rB s i=true):s.R i:=@of_decide_eq_true _ (Classical.propDecidable _) h
noncomputable def aY (s:Sh):List Nat:=(List.range s.nodes.length).filter (rB s)
theorem cx (ok:ShOk s):i∈aY s↔s.R i:=by
 unfold aY;rw[List.mem_filter,Xc];exact⟨λh=>xy h.2,λh=>⟨Sh.R_lt ok h,xA h⟩⟩
theorem mK (h:xs.Pairwise (·<·)):(xs.map λ(i:Nat)=>(i:Int)).Pairwise (·<=·):=by
 rw[List.pairwise_map];exact h.imp λ{a b} h=>by omega
theorem jf (s:Sh):(aY s).Pairwise (·<·):=List.Pairwise.filter _ List.pairwise_lt_range
theorem hG (s:Sh):(aY s).length<=s.nodes.length:=by
 have:=List.length_filter_le (rB s) (List.range s.nodes.length);rwa [Xj]at this
theorem si (xs:List Nat):(xs.map λ(i:Nat)=>(i:Int)).map V.int=xs.map gv:=by rw[List.map_map];rfl
theorem lC (ok:ShOk s) (nd:xs.Nodup) (all:∀x,x∈xs↔s.R x) {ss:List Int} (pm:ss.Perm (xs.map λ(i:Nat)=>(i:Int))) (st:ss.Pairwise (·<=·)):ss=(aY s).map λ(i:Nat)=>(i:Int):=by
 refine pE st (mK (jf s)) (pm.trans (List.Perm.map _ ?_));refine(List.perm_ext_iff_of_nodup nd ((jf s).imp λh=>QI h)).mpr λi=>?_;rw[cx ok,all]
theorem oW {K:PySem.W.Frag} (ok:ShOk s) (nd:xs.Nodup) (all:∀x,x∈xs↔s.R x) (hd:H d=some (.dK (cX lam xs))) (q:∀p,H p=none->Q (.ref p) (upd H p (.lst ((aY s).map gv)))):qZ K [.ref d] H Q:=by
 have few:xs.length<=100:=by
  have:=Bf.dP xs (List.range s.nodes.length) nd λx hx=>Xc.mpr (Sh.R_lt ok ((all x).mp hx));rw[Xj]at this;have:=ok.n100;omega
 refine⟨d,xs.map λ(i:Nat)=>(i:Int),rfl,.inr ⟨_,.inl hd,by unfold cX;rw[List.map_map,List.map_map];rfl⟩,by rw[Qa];omega,λp ss' hp pm st=>?_⟩;rw[lC ok nd all pm st,si];exact q p hp
def Srt (s:Sh) (i:Nat) (zs:List Str):Prop:=zs.Perm (((s.node i).map (·.1)).filter λn=>decide (n∈s.outs))/\PyProof.Rows.sortedS zs=true
theorem k9 {o:Str}:o∈bd s i↔o∈s.outs/\o∈(s.node i).map (·.1):=by
 unfold bd;rw[List.mem_filter];simp only[decide_eq_true_eq]
theorem Srt.mem (h:Srt s i zs) {o:Str}:o∈zs↔o∈bd s i:=by
 rw[h.1.mem_iff,List.mem_filter,k9];simp only[decide_eq_true_eq];exact⟨λh=>⟨h.2,h.1⟩,λh=>⟨h.2,h.1⟩⟩
theorem Srt.eq (ndi:((s.node i).map (·.1)).Nodup) (ndj:((s.node j).map (·.1)).Nodup) (h:Srt s i zs) (g:Srt s j ys):zs=ys↔bd s i=bd s j:=by
 constructor
 ·intro e;subst e;unfold bd;refine List.filter_congr λo ho=>?_;have a:=h.mem (o:=o);have b:=g.mem (o:=o);rw[k9]at a b;exact decide_eq_decide.mpr ⟨λz=>(b.mp (a.mpr ⟨ho,z⟩)).2,λz=>(a.mp (b.mpr ⟨ho,z⟩)).2⟩
 intro e;refine pC h.2 g.2 ((List.perm_ext_iff_of_nodup (h.1.nodup_iff.mpr (ndi.filter _)) (g.1.nodup_iff.mpr (ndj.filter _))).mpr λo=>?_);rw[h.mem,g.mem,e]
theorem mY {nm:Str}:k7 s lam nm s.nodes.length=(aY s).map λi=>((Sum.inr (lam i):Key),sgW s lam nm i):=by
 unfold k7 aY;generalize List.range s.nodes.length=l
 induction l with
 | nil=>rfl
 | cons i l ih =>
 rw[Xq];by_cases c:s.R i
 ·rw[Qv c,List.filter_cons_of_pos (xA c),QL,ih]
 rw[Qz c,List.filter_cons_of_neg (by rw[AN c];simp),ih]
def nh:Sp:=λvs H Q _=>∃(a li lo ln:Addr) (nas:B3) (s:Sh) (i:Nat),vs=[.ref a,.int (i:Int)]/\ShAt H a li lo ln nas s/\ShOk s/\i<s.nodes.length/\((s.node i).map (·.1)).Nodup/\∀l zs H',ax H H'->H l=none->H' l=some (.lst (zs.map V.str))->Srt s i zs->Q (.ref l) H'
def qV:Sp:=λvs H Q _=>∃(a li lo ln:Addr) (nas:B3) (s:Sh) (lam:Nat->Str),vs=[.ref a]/\ShAt H a li lo ln nas s/\ShOk s/\Lab s lam/\(∀node∈s.nodes,(node.map (·.1)).Nodup)/\∀(b:Bool) H',ax H H'->(b=true↔¬uJ s lam)->Q (.bl b) H'
def oj:Sp:=λvs H Q _=>∃(a li lo ln:Addr) (nas:B3) (s:Sh) (lam:Nat->Str) (nm:Str),vs=[.ref a,.str nm]/\ShAt H a li lo ln nas s/\ShOk s/\Lab s lam/\(∀node∈s.nodes,(node.map (·.1)).Nodup)/\nm∈s.outs/\∀d H',ax H H'->H d=none->H' d=some (.dK (bS s lam nm s.nodes.length))->Q (.ref d) H'
section
theorem e_:FnScope ["sheet", "node"] ["sheet", "node"] (ak (top 37)):=by fin2
theorem t9 {f:Addr} {fd:FuncData} (Fu:Fun K "_law_outputs_at" "_law_outputs_at" (top 37) f fd) (T:Txt K mg TT):FnOk P w K mg base CX0 1 f fd ["sheet", "node"] nh:=by
 have S:=e_;refine Fu.ok S (by room) (λcdv A outer s H vs Q E hr h=>?_);obtain⟨a,li,lo,ln,nas,sh,i,rfl,at_,ok,hi,ndn,k⟩:=h;refine⟨_,(pss_one (aN (am mO (by rfl) T.n_sorted PyProof.Rows.boot_sorted (aa (lV (tgs:=["name", "to"]) (cap:=[("sheet", 0)]) rfl ⟨rfl,rfl,rfl,rfl,rfl,rfl⟩ (bK (au aM (au aW (pv 0) ah) (pv 1))) (λ_ _ _ _=>(kD (K:=K) (n:=2) rfl rfl (br (ce (i:=0) (show List.Nodup [("name" : Str),("to" : Str),("sheet" : Str)] by decide +kernel) rfl (by z_go)) (br (ce (i:=1) (show List.Nodup [("name" : Str),("to" : Str),("sheet" : Str)] by decide +kernel) rfl (by z_go)) cS)))) (λ_ _ _ _=>(hX (aH (nB (K:=K) rfl) (pv 0) (au (uq (K:=K) rfl) (pv 2) ah) rfl))) (λ_ _ _ _=>(pv 0))) ae)))),?_⟩;x_go;have ha:=at_.ha;obtain⟨na,hna,vs,hv,pv⟩:=bO at_.nodes (Qb hi);have en:sh.node i=sh.nodes[i]:=Sh.node_of (Qb hi);rw[<-en]at pv;have lv:=aL pv;unfold a_ at lv;rw[Qa]at lv
 have fw:=Bf.dP ((sh.node i).map (·.1)) sh.ws ndn λx hx=>by
  obtain⟨p,hp,rfl⟩:=QG.mp hx;exact ok.names _ (Sh.node_mem hi) p hp
 rw[Qa]at fw;have w11:=ok.w11;clear en;lk;refine cG ?_;lk;refine bx (v:=.ref na) (SqL.of at_.hn) (aU (by rw[Qe,hna];rfl)) ⟨na,rfl,⟨_,SqL.of hv⟩,λL hL=>?_⟩;let I19:IvC:=λm H' us=>ax H H'/\H' L=some (.lst us)/\us=((((sh.node i).take m).map (·.1)).filter λn=>decide (n∈sh.outs)).map V.str;refine iG (xs:=vs) I19 ⟨aq hL,ag,by simp⟩ (λm H' ys p=>⟨p.2.1,SqL.of (p.1 _ _ hv)⟩) (λm v H' us e p=>?_) (λH2 us p=>?_)
 ·obtain⟨Sm,hd,rfl⟩:=p;obtain⟨st,est,b,rfl,hb⟩:=paired_get pv e;unfold a_ at est;rw[Qe]at est;obtain⟨tp,etp,rfl⟩:=QX.mp est;have hm:m<vs.length:=(Qc.mp e).1;have tk:(((sh.node i).take (m+1)).map (·.1)).filter (λn=>decide (n∈sh.outs))=(((sh.node i).take m).map (·.1)).filter (λn=>decide (n∈sh.outs))++[tp.1].filter (λn=>decide (n∈sh.outs)):=by rw[Xo,etp,Qr,List.filter_append];rfl
  have ll:=List.length_filter_le (λn=>decide (n∈sh.outs)) (((sh.node i).take m).map (·.1));rw[Qa,QF]at ll;have ham:=Sm _ _ ha;refine⟨b,_,rfl,SqT.of (Sm _ _ hb),rfl,_,_,rfl,aw ⟨_,_,rfl,aw ⟨rfl,⟨rfl,trivial⟩,?_⟩⟩⟩;refine i_test (bY (ap rfl (bY (ap rfl (i_c (i_ixT ham rfl ⟨lo,_,rfl,.inl (SqL.of (Sm _ _ at_.ho)),rfl,cI _,⟨_,rfl,?_⟩⟩))))));by_cases c:tp.1∈sh.outs
  ·refine ifT (cf.mpr c) ?_;refine ap rfl (cs.mk hd hm (by rw[Qa];omega) ⟨bq Sm hL,ag,?_⟩);rw[tk,Qr,List.filter_cons_of_pos (by simpa using c)];rfl
  refine ifF (by rw[show inV (.str tp.1) (sh.outs.map V.str)=false from Xs.mpr λz=>c (cf.mp z)];rfl) ?_;refine⟨vs.length-(m+1),by omega,rfl,by omega,Sm,hd,?_⟩;rw[tk,List.filter_cons_of_neg (by simpa using c),List.filter_nil,Xa]
 obtain⟨S2,hb,rfl⟩:=p;rw[QP (by omega)]at hb;have lf:=List.length_filter_le (λn=>decide (n∈sh.outs)) ((sh.node i).map (·.1));rw[Qa]at lf;refine bv ⟨L,_,rfl,hb,by omega,λp zs hp pm so=>?_⟩;exact k p zs _ (S2.trans (aq hp)) (ax.free S2 hp) ag ⟨pm,so⟩
end
section
theorem fM:FnScope ["sheet", "rows", "met", "node", "turns"] ["sheet"] (ak (top 38)):=by fin2
theorem ub {f:Addr} {fd:FuncData} (Fu:Fun K "_law_has_clash" "_law_has_clash" (top 38) f fd) (T:Txt K mg TT) (f_law_rows:Fn P w K mg base "_law_rows" ["sheet"] 2 jS) (f_law_outputs_at:Fn P w K mg base "_law_outputs_at" ["sheet", "node"] 1 nh):FnOk P w K mg base CX0 3 f fd ["sheet"] qV:=by
 have S:=fM;refine Fu.ok S (by room) (λcdv A outer s H vs Q E hr h=>?_);obtain⟨a,li,lo,ln,nas,sh,lam,rfl,at_,ok,lb,ndn,k⟩:=h;have hu:=cF hr;refine'⟨?_,?bb,?_⟩
 case bb =>
  walk_at "b";exact aB 1 S.nd (aK f_law_rows hr (aa (pv 0) ae ad));exact aB 2 S.nd fi;walk_at "f";exact(bK (am (iL rfl) (by rfl) T.n_sorted PyProof.Rows.boot_sorted (aa (pv 1) ae ad)));exact(bU 3 S.nd);walk_at "p";exact aB 4 S.nd (aK f_law_outputs_at hr (aa (pv 0) (aa (pv 3) ae ad) ad));exact(PW.pt (fP (kz (rL hu (cC hu (pv 1) (pv 3)) (pv 2))) (fe (aH (kI hr.units) (cC hu (pv 2) (cC hu (pv 1) (pv 3))) (pv 4) (bi _)))));exact(aN dH);exact(cR hu (pv 2) (cC hu (pv 1) (pv 3)) (pv 4) rfl);exact(aN dH)
 x_go;have n100:=ok.n100;have nd_:∀j,sh.R j->((sh.node j).map (·.1)).Nodup:=λj r=>ndn _ (Sh.node_mem (Sh.R_lt ok r));lk;refine⟨a,li,lo,ln,nas,sh,lam,rfl,at_,ok,lb,λd xs H1 S1 hd q1 nd all=>?_⟩;lk;refine λM hM=>?_;have HM:H M=none:=ax.free S1 hM;ctx_has H1 M H2 S2 qM aj hM;have q2:=S2 _ _ q1;lk;refine oW ok nd all q2 λp hp=>?_;have pM:p≠M:=(ai qM hp).symm;have dM:d≠M:=ai q1 hM;ctx_has H2 p H3 S3 q3 aj hp;have S03:=S1.trans (S2.trans S3);have d3:=(S2.trans S3) _ _ q1;have M3:=S3 _ _ qM;have rl:=hG sh;clear S1 S2 S3 q1 q2 qM hM hp;refine⟨p,rfl,⟨_,SqL.of q3⟩,?_⟩;let I20:IvF:=λi U H'=>∃(kvs:List (Key × V)) (y3 y4:Option V),U=[some (.ref a),some (.ref d),some (.ref M),y3,y4]/\ax H H'/\H' d=some (.dK (cX lam xs))/\H' p=some (.lst ((aY sh).map gv))/\H' M=some (.dK kvs)/\kvs.length<=i/\(∀j∈(aY sh).take i,∃l zs,aJ kvs (Sum.inr (lam j):Key)=some (.ref l)/\H' l=some (.lst (zs.map V.str))/\Srt sh j zs)/\∀z,(∀j∈(aY sh).take i,lam j≠z)->aJ kvs (Sum.inr z:Key)=none
 refine cN (xs:=(aY sh).map gv) I20
  ⟨[],_,_,rfl,S03,d3,q3,M3,Qh _,λj h=>by simp at h,λz _=>rfl⟩ (λi U H' _ ⟨_,_,_,_,_,_,h,_⟩=>SqL.of h) (λi v U H' ev pv=>?_) (λU H' pv=>?_)
 ·obtain⟨kvs,y3,y4,rfl,SS,hd',hp',hM',kl,met,out⟩:=pv;rw[Qe]at ev;obtain⟨j,ej,rfl⟩:=QX.mp ev;have mj:j∈aY sh:=Qn ej;have rj:=(cx ok).mp mj;have tk:(aY sh).take (i+1)=(aY sh).take i++[j]:=by rw[Xo,ej];rfl
  have il:=(Qc.mp ej).1;refine aw ?_;lk;refine⟨a,li,lo,ln,nas,sh,j,rfl,at_.same SS,ok,Sh.R_lt ok rj,nd_ j rj,λl zs G SG hl ql sz=>?_⟩;have SS':=SS.trans SG;have hdG:=SG _ _ hd';have hpG:=SG _ _ hp';have hMG:=SG _ _ hM'
  have metG:∀j∈(aY sh).take i,∃l zs,aJ kvs (Sum.inr (lam j):Key)=some (.ref l)/\G l=some (.lst (zs.map V.str))/\Srt sh j zs:=λj hj=>by
   obtain⟨l,zs,h1,h2,h3⟩:=met j hj;exact⟨l,zs,h1,SG _ _ h2,h3⟩
  clear met SS SG hd' hp' hM'
  have dg:cq G d (.int (j:Int)) (some (.str (lam j))):=by
   have z:=cq.k (k:=Sum.inl (j:Int)) hdG;rw[fc ((all j).mpr rj)]at z;exact z
  -- the cU pY
  have put:(∀j2∈(aY sh).take i,lam j2=lam j->Srt sh j2 zs)->∀(y3 y4:Option V),∃(kvs':List (Key × V)) (x3 x4:Option V),[some (V.ref a),some (.ref d),some (.ref M),y3,y4]=[some (.ref a),some (.ref d),some (.ref M),x3,x4]/\ax H (upd G M (.dK (be kvs (Sum.inr (lam j)) (.ref l))))/\upd G M (.dK (be kvs (Sum.inr (lam j)) (.ref l))) d=some (.dK (cX lam xs))/\upd G M (.dK (be kvs (Sum.inr (lam j)) (.ref l))) p=some (.lst ((aY sh).map gv))/\upd G M (.dK (be kvs (Sum.inr (lam j)) (.ref l))) M=some (.dK kvs')/\kvs'.length<=i+1/\(∀j9∈(aY sh).take (i+1),∃l' zs,aJ kvs' (Sum.inr (lam j9):Key)=some (.ref l')/\upd G M (.dK (be kvs (Sum.inr (lam j)) (.ref l))) l'=some (.lst (zs.map V.str))/\Srt sh j9 zs)/\∀z,(∀j9∈(aY sh).take (i+1),lam j9≠z)->aJ kvs' (Sum.inr z:Key)=none:=λsame y3 y4=>by
   have le:=bC kvs (Sum.inr (lam j):Key) (.ref l);have kp:∀c o,G c=some o->c≠M->upd G M (.dK (be kvs (Sum.inr (lam j)) (.ref l))) c=some o:=λc o e n=>by rw[af n];exact e
   refine⟨be kvs (Sum.inr (lam j)) (.ref l),_,_,rfl,bq SS' HM,kp _ _ hdG dM,kp _ _ hpG pM,ag,by omega,λj2 hj2=>?_,λz hz=>?_⟩
   ·have nl:∀{c:Addr} {ys:List V},G c=some (.lst ys)->c≠M:=λe z=>by rw[z,hMG]at e;cases e
    by_cases e:lam j2=lam j
    ·rw[b9,Qv (by rw[e])];refine⟨l,zs,rfl,kp _ _ ql (nl ql),?_⟩;rw[tk]at hj2;rcases Qk.mp hj2 with h|h
     ·exact same j2 h e
     rw[Qp.mp h];exact sz
    rw[b9,Qz λz=>e (Sum.inr.inj z)];rw[tk]at hj2;rcases Qk.mp hj2 with h|h
    ·obtain⟨l2,z2,e1,h1,s1⟩:=metG j2 h;exact⟨l2,z2,e1,kp _ _ h1 (nl h1),s1⟩
    exact absurd (by rw[Qp.mp h]) e
   rw[tk]at hz;rw[b9,Qz λe=>hz j (by simp) (Sum.inr.inj e).symm];exact out z λj2 h=>hz j2 (Q6 _ h)
  lk;refine vE ?_;lk;refine⟨d,_,rfl,dg,?_⟩;lk;have dgM:=cq.k (k:=Sum.inr (lam j)) hMG;refine⟨M,_,rfl,dgM,_,rfl,?_⟩;by_cases c:∃j2∈(aY sh).take i,lam j2=lam j
  ·obtain⟨j2,hj2,ej2⟩:=c;obtain⟨l2,z2,e2,h2,s2⟩:=metG j2 hj2;rw[ej2]at e2;rw[e2]at dgM ⊢;refine ifT rfl ?_;lk;refine⟨d,_,rfl,dg,?_⟩;refine⟨M,_,rfl,dgM,?_⟩;lk;refine vD h2 ql ⟨_,rfl,?_⟩;have rj2:=(cx ok).mp (List.mem_of_mem_take hj2);have eqi:=Srt.eq (nd_ j2 rj2) (nd_ j rj) s2 sz;by_cases ez:z2=zs
   ·refine ifF (by rw[QU ez];rfl) ?_;kt_k;dsimp (zetaDelta:=true) only;refine df ?_;lk;refine⟨d,_,rfl,dg,?_⟩;refine⟨M,_,rfl,eX.k (k:=Sum.inr (lam j)) hMG (by omega),?_⟩;refine put (λj3 hj3 e3=>?_) _ _;obtain⟨l3,z3,f3,h3,s3⟩:=metG j3 hj3;rw[e3,e2]at f3;cases f3;rw[h2]at h3;have:z2=z3:=(List.map_inj_right λ_ _ h=>V.str.inj h).mp (HO.lst.inj (QY h3));rw[<-ez,this];exact s3
   refine ifT (by rw[QE ez];rfl) ?_;lk;exact k true G SS' ⟨λ_ cm=>ez (eqi.mpr (cm j2 j rj2 rj ej2)),λ_=>rfl⟩
  have c':∀j2∈(aY sh).take i,lam j2≠lam j:=λj2 h e=>c ⟨j2,h,e⟩;rw[out _ c'];refine ifF rfl (iteF ?_);kt_k;dsimp (zetaDelta:=true) only;refine df ?_;lk;refine⟨d,_,rfl,dg,?_⟩;refine⟨M,_,rfl,eX.k (k:=Sum.inr (lam j)) hMG (by omega),?_⟩;exact put (λj3 hj3 e3=>absurd e3 (c' j3 hj3)) _ _
 obtain⟨kvs,y3,y4,rfl,SS,hd',hp',hM',kl,met,out⟩:=pv;rw[Qa,List.take_length]at met;lk;refine k false H' SS ⟨(λz=>nomatch z),λnc=>absurd (λi j ri rj e=>?_) nc⟩;obtain⟨l1,z1,e1,h1,s1⟩:=met i ((cx ok).mpr ri);obtain⟨l2,z2,e2,h2,s2⟩:=met j ((cx ok).mpr rj);rw[e,e2]at e1;cases e1;rw[h2]at h1
 have ez:z2=z1:=by
  exact(List.map_inj_right λ_ _ h=>V.str.inj h).mp (HO.lst.inj (QY h1))
 exact(Srt.eq (nd_ i ri) (nd_ j rj) s1 s2).mp ez.symm
end
section
theorem iS:FnScope ["sheet", "name", "rows", "at", "found", "node", "sign"] ["sheet", "name"] (ak (top 39)):=by fin2
theorem rX {f:Addr} {fd:FuncData} (Fu:Fun K "_law_wishes" "_law_wishes" (top 39) f fd) (T:Txt K mg TT) (f_law_rows:Fn P w K mg base "_law_rows" ["sheet"] 2 jS) (f_law_outputs_at:Fn P w K mg base "_law_outputs_at" ["sheet", "node"] 1 nh):FnOk P w K mg base CX0 3 f fd ["sheet", "name"] oj:=by
 have S:=iS;refine Fu.ok S (by room) (λcdv A outer s H vs Q E hr h=>?_);obtain⟨a,li,lo,ln,nas,sh,lam,nm,rfl,at_,ok,lb,ndn,hnm,k⟩:=h;have hu:=cF hr;refine'⟨?_,?bb,?_⟩
 case bb =>
  walk_at "b";exact aB 2 S.nd (aK f_law_rows hr (aa (pv 0) ae ad));exact aB 3 S.nd (cE Qt PySem.F.slot_list_index PySem.F.type_list_index fq (aA fW (au aW (pv 0) ah) (au aW (pv 0) ah)) (aa (pv 1) ae ad));exact aB 4 S.nd fi;walk_at "f";exact(bK (am (iL rfl) (by rfl) T.n_sorted PyProof.Rows.boot_sorted (aa (pv 2) ae ad)));exact(bU 5 S.nd);walk_at "p";exact aB 6 S.nd (au dS (cC hu (pv 2) (pv 5)) (pv 3));exact(aH fU (pv 1) (aK f_law_outputs_at hr (aa (pv 0) (aa (pv 5) ae ad) ad)) rfl);exact aB 6 S.nd (au dS aQ (bZ eI (by rfl) T.n_int PyProof.Rows.boot_int (aa (pv 6) ae ad)));exact(cR hu (pv 4) (cC hu (pv 2) (pv 5)) (pv 6) rfl);exact(aN (pv 4))
 x_go;have n100:=ok.n100;have w11:=ok.w11;have nd_:∀j,sh.R j->((sh.node j).map (·.1)).Nodup:=λj r=>ndn _ (Sh.node_mem (Sh.R_lt ok r));have mw:nm∈sh.ws:=QA _ hnm;have pl:sh.ws.idxOf nm<sh.ws.length:=QW mw;have lw:(sh.ins.map V.str).length+(sh.outs.map V.str).length=sh.ws.length:=by rw[Qa,Qa];unfold Sh.ws;rw[Qd]
 lk;refine⟨a,li,lo,ln,nas,sh,lam,rfl,at_,ok,lb,λd xs H1 S1 hd q1 nd all=>?_⟩;have at1:=at_.same S1;have ha1:=at1.ha;lk;refine jy at1.hi at1.ho (by omega) λLm hLm=>?_;rw[<-Qr];ctx_has H1 Lm H2 S2 q2 aj hLm;have q2:H2 Lm=some (.lst (sh.ws.map V.str)):=q2;lk;refine⟨Lm,sh.ws,nm,sh.ws.idxOf nm,rfl,rfl,q2,kK mw,d_,by omega,?_⟩;generalize hpp:sh.ws.idxOf nm=pp at pl;lk;refine λM hM=>?_;have HM:H M=none:=ax.free (S1.trans S2) hM;have q12:=S2 _ _ q1;ctx_has H2 M H3 S3 qM aj hM;have q13:=S3 _ _ q12;lk;refine oW ok nd all q13 λp hp=>?_;have pM:p≠M:=(ai qM hp).symm;have dM:d≠M:=ai q12 hM;ctx_has H3 p H4 S4 q4 aj hp;have S04:=(S1.trans S2).trans (S3.trans S4);have d4:=S4 _ _ q13;have M4:=S4 _ _ qM;have rl:=hG sh;have HMd:H d=none:=hd;clear S1 S2 S3 S4 q1 q2 qM hM hp q12 q13 at1 ha1 hLm;refine⟨p,rfl,⟨_,SqL.of q4⟩,?_⟩;let I21:IvF:=λi U H'=>∃(y5 y6:Option V),U=[some (.ref a),some (.str nm),some (.ref d),some (.int (pp:Int)),some (.ref M),y5,y6]/\ax H H'/\H' d=some (.dK (cX lam xs))/\H' p=some (.lst ((aY sh).map gv))/\H' M=some (.dK (bJ [] (((aY sh).take i).map λi=>((Sum.inr (lam i):Key),sgW sh lam nm i))))
 refine cN (xs:=(aY sh).map gv) I21
  ⟨_,_,rfl,S04,d4,q4,M4⟩ (λi U H' _ ⟨_,_,_,_,_,h,_⟩=>SqL.of h) (λi v U H' ev pv=>?_) (λU H' pv=>?_)
 ·obtain⟨y5,y6,rfl,SS,hd',hp',hM'⟩:=pv;rw[Qe]at ev;obtain⟨j,ej,rfl⟩:=QX.mp ev;have mj:j∈aY sh:=Qn ej;have rj:=(cx ok).mp mj;have tk:(aY sh).take (i+1)=(aY sh).take i++[j]:=by rw[Xo,ej];rfl
  have il:=(Qc.mp ej).1;have sty:=Sh.len_row ok lb rj;have yl:(lam j).length<=sizeLine:=by have:=sty.len;show (lam j).cps.size<=_;omega
  have few:∀(l:List (Key × V)),(bJ [] l).length<=l.length:=λl=>by
   have:∀(l kvs:List (Key × V)),(bJ kvs l).length<=kvs.length+l.length:=λl=>by
    induction l with
    | nil=>intro kvs;exact Qh _
    | cons q l ih=>intro kvs;have h1:=ih (be kvs q.1 q.2);have h2:=bC kvs q.1 q.2;show (bJ (be kvs q.1 q.2) l).length<=kvs.length+(l.length+1);omega
   have:=this l [];rwa [List.length_nil,Nat.zero_add]at this
  have fw:=few (((aY sh).take i).map λi=>((Sum.inr (lam i):Key),sgW sh lam nm i));rw[Qa,QF]at fw
  have dgv:∀{G:Hp},G d=some (.dK (cX lam xs))->cq G d (.int (j:Int)) (some (.str (lam j))):=λh=>by
   have z:=cq.k (k:=Sum.inl (j:Int)) h;rw[fc ((all j).mpr rj)]at z;exact z
  refine aw ?_;lk;refine⟨d,_,rfl,dgv hd',?_⟩;lk;refine mf yl (fH sty pl) ?_;kt_k;let I22:IvJ:=λU G=>U=[some (.ref a),some (.str nm),some (.ref d),some (.int (pp:Int)),some (.ref M),some (gv j),some (sgW sh lam nm j)]/\ax H' G;with_reducible refine cW I22 (λRR hJ=>?_) (λU G h=>?_)
  ·lk;refine⟨a,li,lo,ln,nas,sh,j,rfl,at_.same SS,ok,Sh.R_lt ok rj,nd_ j rj,λl zs G SG hl ql sz=>?_⟩;refine⟨l,_,rfl,.inl (SqL.of ql),rfl,cI _,_,rfl,?_⟩;by_cases c:nm∈bd sh j
   ·refine ifT (cf.mpr (sz.mem.mpr c)) ?_;lk;refine wO sty pl ?_;refine aw (hJ _ _ ⟨?_,SG⟩);unfold sgW;rw[Qv c,hpp];rfl
   refine ifF (by rw[show inV (.str nm) (zs.map V.str)=false from Xs.mpr λz=>c (sz.mem.mp (cf.mp z))];rfl) ?_;refine s_next (hJ _ _ ⟨?_,SG⟩);unfold sgW;rw[Qz c,hpp];rfl
  obtain⟨rfl,SG⟩:=h;have hdG:=SG _ _ hd';have hpG:=SG _ _ hp';have hMG:=SG _ _ hM';(try dsimp only);refine df ?_;lk;refine⟨d,_,rfl,dgv hdG,?_⟩;refine⟨M,_,rfl,eX.k (k:=Sum.inr (lam j)) hMG (by omega),?_⟩;refine⟨_,_,rfl,bq (SS.trans SG) HM,by rw[af dM];exact hdG,by rw[af pM];exact hpG,?_⟩;rw[ag,tk,Qr,QL,List.map_nil,dO]
 obtain⟨y5,y6,rfl,SS,hd',hp',hM'⟩:=pv;rw[Qa,List.take_length,<-mY]at hM';lk;exact k M H' SS HM hM'
end
structure DrawnOk (s:Sh):Prop where
 ok:ShOk s
 lab:∃lam,Lab s lam
 n40:s.nodes.length<=40
 i4:s.ins.length<=4
 o1:1<=s.outs.length
 sub:∀x∈s.ws,x∈jI
 ndn:∀node∈s.nodes,(node.map (·.1)).Nodup
def iU (os:List Nat) (node:List (Str × Nat)):List (Str × Nat):=node.map λp=>(p.1,os.idxOf p.2)
def bw (os:List Nat) (all:List (List (Str × Nat))):List (List (Str × Nat)):=os.map λo=>iU os (all.getD o [])
theorem nz (os:List Nat) (node:List (Str × Nat)):(iU os node).map (·.1)=node.map (·.1):=by
 unfold iU;rw[List.map_map];rfl
theorem jr {ws:List Str} {all:List (List (Str × Nat))} (hj:j<os.length):Sh.node ⟨ws.take i,ws.drop i,z,bw os all⟩ j=iU os (all.getD (os.getD j 0) []):=by
 show (bw os all).getD j []=_;unfold bw;rw[show os.getD j 0=os[j] by rw[Qm,Qb hj];rfl,Qm,Qe,Qb hj];rfl
theorem sW {ws:List Str} (g:Gr ws rows nodes) (nd:ws.Nodup) (hi:i<ws.length) (i4:i<=4) (w11:ws.length<=11) (sub:∀x∈ws,x∈jI) (n40:nodes.length+ex.length<=40)
  (hex:∀node∈ex,(node.map (·.1)).Nodup/\∀p∈node,p.1∈ws/\p.2<nodes.length+ex.length) (pm:os.Perm (List.range (nodes.length+ex.length))) (h0:os.getD 0 0=0):DrawnOk ⟨ws.take i,ws.drop i,rows.getD 0 "", bw os (nodes++ex)⟩:=by
 have ew:Sh.ws ⟨ws.take i,ws.drop i,rows.getD 0 "", bw os (nodes++ex)⟩=ws:=Q3 i ws;have lr:=g.len;have lp:=g.pos;have lo:os.length=nodes.length+ex.length:=by rw[pm.length_eq,Xj]
 have mo:∀x,x<nodes.length+ex.length->x∈os:=λx h=>pm.mem_iff.mpr (Xc.mpr h);have om:∀x∈os,x<nodes.length+ex.length:=λx h=>Xc.mp (pm.mem_iff.mp h)
 have gi:∀x,x∈os->os.getD (os.idxOf x) 0=x:=λx h=>by
  have h1:=QW h;rw[Qm,Qb h1];exact List.getElem_idxOf h1
 have names:∀node∈nodes++ex,(node.map (·.1)).Nodup/\∀p∈node,p.1∈ws/\p.2<nodes.length+ex.length:=λnode hn=>by
  rcases Qk.mp hn with h|h
  ·refine⟨g.ndn node h,λp hp=>?_⟩;obtain⟨j,hj,e⟩:=QH.mp h;have:=g.edge j p (by rw[Qm,Qb hj,e];exact hp);exact⟨this.1,by omega⟩
  exact hex node h
 have inAll:∀o∈os,(nodes++ex).getD o []∈nodes++ex:=λo h=>dU (by rw[Qd];exact om o h)
 have new:∀node∈bw os (nodes++ex),(node.map (·.1)).Nodup/\∀p∈node,p.1∈ws/\p.2<nodes.length+ex.length:=λnode hn=>by
  obtain⟨o,ho,rfl⟩:=QG.mp hn;obtain⟨h1,h2⟩:=names _ (inAll o ho);rw[nz];refine⟨h1,λp hp=>?_⟩;obtain⟨q,hq,rfl⟩:=QG.mp hp;obtain⟨h3,h4⟩:=h2 q hq;exact⟨h3,by rw[<-lo];exact QW (mo _ h4)⟩
 have ln:(bw os (nodes++ex)).length=nodes.length+ex.length:=by unfold bw;rw[Qa,lo]
 have rl:∀j,Sh.R ⟨ws.take i,ws.drop i,rows.getD 0 "", bw os (nodes++ex)⟩ j->j<os.length/\os.getD j 0<nodes.length:=λj r=>by
  induction r with
  | start=>exact⟨by omega,by rw[h0];exact lp⟩
  | @step a b _ hb ih =>
  obtain⟨q,hq,rfl⟩:=QG.mp hb;rw[jr ih.1,b8 ih.2]at hq;obtain⟨p,hp,rfl⟩:=QG.mp hq;have e:=(g.edge _ p hp).2.1;have m:=mo p.2 (by omega);refine⟨QW m,?_⟩;show os.getD (os.idxOf p.2) 0<_;rw[gi _ m];exact e
 refine⟨⟨by rw[ew];exact nd,by rw[ew];omega,by rw[ew];omega,by rw[ew];exact g.rok _ (dU (by omega)),?_,?_,λnode hn p hp=>by rw[ew];exact((new node hn).2 p hp).1,λnode hn p hp=>?_,λnode hn=>?_⟩,⟨λj=>rows.getD (os.getD j 0) "", by show rows.getD (os.getD 0 0) "" = _;rw[h0],λj r p hp=>?_⟩,?_,?_,?_,by rw[ew];exact sub,λnode hn=>(new node hn).1⟩
 ·show 1<=(bw os (nodes++ex)).length;rw[ln];omega
 ·show (bw os (nodes++ex)).length<=100;rw[ln];omega
 ·show p.2<(bw os (nodes++ex)).length;rw[ln];exact((new node hn).2 p hp).2
 ·have:=Bf.dP (node.map (·.1)) ws (new node hn).1 λx hx=>by
   obtain⟨p,hp,rfl⟩:=QG.mp hx;exact((new node hn).2 p hp).1
  rw[Qa]at this;omega
 ·obtain⟨h1,h2⟩:=rl j r;rw[jr h1,b8 h2]at hp;obtain⟨q,hq,rfl⟩:=QG.mp hp;obtain⟨_,e2,e3⟩:=g.edge _ q hq;rw[ew];show rows.getD (os.getD (os.idxOf q.2) 0) "" = _;rw[gi _ (mo q.2 (by omega))];exact e3
 ·show (bw os (nodes++ex)).length<=40;rw[ln];exact n40
 ·show (ws.take i).length<=4;rw[QF];omega
 show 1<=(ws.drop i).length;rw[Xd];omega
def oo (TL:Addr):Sp:=λvs H Q _=>∃(a li lo ln:Addr) (nas:B3) (b mi mo mn:Addr) (mas:B3) (s:Sh) (lam:Nat->Str),vs=[.ref a,.ref b]/\ShAt H a li lo ln nas s/\ShAt H b mi mo mn mas s/\DrawnOk s/\Lab s lam/\cP TL bn H/\∀H',Tk TL H H'->Q (.bl true) H'
theorem Tk.free (t:Tk TL H H') (h:H' d=none):H d=none:=by
 cases e:H d with
 | none=>rfl
 | some o =>
 by_cases c:d=TL
 ·obtain⟨ps,e2⟩:=qH t.tab;rw[c,e2]at h;cases h
 rw[t.old _ _ e c]at h;cases h
theorem p9 (h:∀p∈kvs,bI p.2=true) (nd:(kvs.map (·.1)).Nodup):∀p∈kvs,bI p.2=true/\aJ kvs p.1=some p.2:=λp hp=>by
 refine⟨h p hp,?_⟩
 induction kvs with
 | nil=>nomatch hp
 | cons q kvs ih =>
 rw[QL,Xb]at nd;rcases Qu.mp hp with e|hp
 ·subst e;exact bo rfl
 rw[bp (p:=q) (λz=>nd.1 (by rw[z];exact QG.mpr ⟨p,hp,rfl⟩))];exact ih (λx hx=>h x (Qs _ hx)) nd.2 hp
theorem wD (kvs:List (Key × V)) (k:Key) (v:V) (h:(kvs.map (·.1)).Nodup):((be kvs k v).map (·.1)).Nodup:=by
 cases e:aJ kvs k with
 | none =>
  rw[cY v e,Qr];exact oK h (eZ e)
 | some u =>
 have:(be kvs k v).map (·.1)=kvs.map (·.1):=by
  unfold be;rw[cD,e];rw[Qv (show (some u).isSome=true from rfl),List.map_map];refine List.map_congr_left λx _=>?_;show (if x.1=k then (x.1,v) else x).1=x.1
  split <;> rfl
 rw[this];exact h
theorem sO {k:Key} {v:V} (h:∀p∈kvs,bI p.2=true) (hv:bI v=true):∀p∈be kvs k v,bI p.2=true:=λp hp=>by
 unfold be at hp
 split at hp
 ·obtain⟨q,hq,rfl⟩:=QG.mp hp
  split
  ·exact hv
  exact h q hq
 rcases Qk.mp hp with z|z
 ·exact h p z
 rw[Qp.mp z];exact hv
theorem gP (s:Sh) (lam:Nat->Str) (nm:Str):∀n,((bS s lam nm n).map (·.1)).Nodup/\∀p∈bS s lam nm n,bI p.2=true
 | 0=>⟨List.nodup_nil,λp h=>nomatch h⟩
 | n+1=>by
  obtain⟨h1,h2⟩:=gP s lam nm n;by_cases c:s.R n
  ·rw[jM c];refine⟨wD _ _ _ h1,sO h2 ?_⟩;unfold sgW gc
   split <;> rfl
  rw[jN c];exact⟨h1,h2⟩
theorem vC {nm:Str} (ha:H a=some (.dK (bS s lam nm n))) (hb:H b=some (.dK (bS s lam nm n))) (q:Q (.bl false) H):u0 (.ref a) (.ref b) H Q :=
 .inr ⟨a,b,_,_,rfl,rfl,ha,hb,rfl,p9 (gP s lam nm n).2 (gP s lam nm n).1,q⟩
section
theorem j_:FnScope ["sheet", "handed", "fits", "name", "found", "due"] ["sheet", "handed"] (ak (top 43)):=by fin2
theorem pR {TL:Addr} {f:Addr} {fd:FuncData} (Fu:Fun K "_law_right" "_law_right" (top 43) f fd) (T:Txt K mg TT) (f_law_has_clash:Fn P w K mg base "_law_has_clash" ["sheet"] 3 qV) (f_law_asked:Fn P w K mg base "_law_asked" ["sheet", "name"] 8 (qX TL)) (f_law_wishes:Fn P w K mg base "_law_wishes" ["sheet", "name"] 3 oj):FnOk P w K mg base CX0 9 f fd ["sheet", "handed"] (oo TL):=by
 have S:=j_;refine Fu.ok S (by room) (λcdv A outer s H vs Q E hr h=>?_);obtain⟨a,li,lo,ln,nas,b,mi,mo,mn,mas,sh,lam,rfl,ata,atb,dr,lb,tb,k⟩:=h;have hu:=cF hr;have ok:=dr.ok;refine'⟨?_,?bb,?_⟩
 case bb =>
  walk_at "b";exact aB 2 S.nd (we (oB oF (am kM (by rfl) T.n_len QN (aa (au aW (pv 0) ah) ae)) ah (bi _)) (wb (rC (aK f_law_has_clash hr (aa (pv 0) ae ad)))));walk_at "f";exact(bK (aA fW (au aW (pv 0) ah) (pe_lst (aa aQ (aa aQ (aa aQ ae ay) ay) ay))));exact(bU 3 S.nd);walk_at "p";exact(aH (kH hr.units) (aK f_law_asked hr (aa (pv 1) (aa (pv 3) ae ad) ad)) (au aM (pe_lst (aa aQ (aa aQ ae ay) ay)) (bZ f9 (by rfl) T.n_int PyProof.Rows.boot_int (aa (pv 2) ae ad))) (bi _));exact(aN dH);walk_at "f";exact(bK (au aW (pv 0) ah));exact(bU 3 S.nd);walk_at "p";exact aB 4 S.nd (aK f_law_asked hr (aa (pv 1) (aa (pv 3) ae ad) ad));exact aB 5 S.nd aQ;exact(eM (pv 2));exact aB 5 S.nd (aK f_law_wishes hr (aa (pv 0) (aa (pv 3) ae ad) ad));exact(PW.pt (jg (aH (kH hr.units) (pv 4) (pv 5) (bi _)) (fO (PW.pt (fP (eM (pv 2)) (fe (kw (eM (am dW (by rfl) T.n_isinstance QR (aa (pv 4) (aa (gJ (v:=.ty "dict") (by rfl) T.n_dict PyProof.Rows.boot_dict rfl) ae ad) ad))))))))));exact(aN dH);exact(eM (pv 2));exact(cR hu (pv 4) aQ aQ rfl);exact(aH (kH hr.units) (aK f_law_asked hr (aa (pv 1) (aa (pv 3) ae ad) ad)) (pv 5) (bi _));exact(aN dH);exact(aN dH)
 x_go;have ha:=ata.ha;have zl:sh.z.length=sh.ws.length:=ok.st.len;have w11:=ok.w11;have lw:sh.ws.length=sh.ins.length+sh.outs.length:=Qd ..;let I23:IvJ:=λU G=>∃fb:Bool,U=[some (.ref a),some (.ref b),some (.bl fb),none,none,none]/\ax H G/\(fb=true↔i3 sh lam);with_reducible refine cW I23 (λRR hJ=>?_) (λU G h=>?_)
 ·lk;refine⟨_,rfl,by omega,?_⟩;lk;by_cases c5:sh.ws.length<=5
  ·refine ifT (QU (by omega)) ?_;lk;refine⟨a,li,lo,ln,nas,sh,lam,rfl,ata,ok,lb,dr.ndn,λbb H1 S1 hbb=>?_⟩;refine⟨bb,rfl,?_⟩;refine aw (hJ _ _ ⟨!bb,rfl,S1,?_⟩);unfold i3
   cases bb with
   | false=>exact⟨λ_=>⟨c5,Classical.byContradiction λz=>by have:=hbb.mpr z;cases this⟩,λ_=>rfl⟩
   | true=>exact⟨(λz=>nomatch z),λz=>absurd z.2 (hbb.mp rfl)⟩
  refine ifF (QE (by omega)) ?_;exact aw (hJ _ _ ⟨false,rfl,ax.refl _,(λz=>nomatch z),λz=>absurd z.1 c5⟩)
 obtain⟨fb,rfl,S1,hfb⟩:=h;have tk1:Tk TL H G:=Tk.of tb S1;have ha1:=S1 _ _ ha;have hi1:=S1 _ _ ata.hi;lk;refine⟨by simp[sizeLine],λp hp=>?_⟩;ctx_has G p H2 S2 q2 aj hp;refine jy (S2 _ _ hi1) q2 (by rw[Qa];show _+3<=_;omega) λL hL=>?_;ctx_has H2 L H3 S3 q3 aj hL;have q3:H3 L=some (.lst ((sh.ins++(["", "none", "A"]:List Str)).map V.str)):=by rw[q3,Qr];rfl
 have nout:∀nm∈sh.ins++(["", "none", "A"]:List Str),nm∉sh.outs:=λnm h z=>by
  rcases Qk.mp h with h|h
  ·exact(List.nodup_append.mp ok.nd).2.2 nm h nm z rfl
  have h1:=dr.sub nm (QA _ z);have:∀x∈(["", "none", "A"]:List Str),x∉jI:=by decide +kernel
  exact this nm h h1
 have tk3:=tk1.same (S2.trans S3);generalize sh.ins++(["", "none", "A"]:List Str)=nms at q3 nout;clear S1 S2 S3 tk1 ha1 hi1 hp hL q2;refine⟨L,rfl,⟨_,SqL.of q3⟩,?_⟩;let I24:IvF:=λi U H'=>∃y3:Option V,U=[some (.ref a),some (.ref b),some (.bl fb),y3,none,none]/\Tk TL H H'/\H' L=some (.lst (nms.map V.str));refine cN (xs:=nms.map V.str) I24 ⟨_,rfl,tk3,q3⟩ (λi U H' _ ⟨_,_,_,h⟩=>SqL.of h) (λi v U H' ev pv=>?_) (λU H' pv=>?_)
 ·obtain⟨y3,rfl,tk,hl⟩:=pv;rw[Qe]at ev;obtain⟨nm,en,rfl⟩:=QX.mp ev;have no:=nout nm (Qn en);have atb':ShAt H' b mi mo mn mas sh:=atb.mono (tk.lst tb) (tk.tup tb);refine aw ?_;lk;refine⟨b,mi,mo,mn,mas,sh,lam,nm,rfl,atb',ok,lb,tk.tab,λnf H4 t4=>?_,λft _ H4 t4=>?_,λft ho=>absurd ho no⟩
  ·have ef:fb=false:=by cases fb with
    | false=>rfl
    | true=>exact absurd (hfb.mp rfl) nf
   subst ef;have hl4:=t4.lst tk.tab _ _ hl;lk;refine⟨by simp[sizeLine],λp hp=>?_⟩;ctx_has H4 p H5 S5 q5 aj hp;lk;refine .inl ⟨rfl,_,rfl,ifF (by decide) ?_⟩;exact s_next ⟨_,rfl,(tk.trans t4).same S5,S5 _ _ hl4⟩
  have ef:fb=true:=hfb.mpr ft;subst ef;have hl4:=t4.lst tk.tab _ _ hl;lk;refine⟨by simp[sizeLine],λp hp=>?_⟩;ctx_has H4 p H5 S5 q5 aj hp;lk;refine .inl ⟨rfl,_,rfl,ifF (by decide) ?_⟩;exact s_next ⟨_,rfl,(tk.trans t4).same S5,S5 _ _ hl4⟩
 obtain⟨y3,rfl,tk,_⟩:=pv;clear tk3 q3 nout;have ata':ShAt H' a li lo ln nas sh:=ata.mono (tk.lst tb) (tk.tup tb);have ha':=ata'.ha;lk;refine⟨lo,rfl,⟨_,SqL.of ata'.ho⟩,?_⟩;refine cN (xs:=sh.outs.map V.str) (λi U H'=>∃y3 y4 y5:Option V,U=[some (.ref a),some (.ref b),some (.bl fb),y3,y4,y5]/\Tk TL H H') ⟨_,_,_,rfl,tk⟩ (λi U H' _ ⟨_,_,_,_,t⟩=>SqL.of (t.lst tb _ _ ata.ho)) (λi v U H' ev pv=>?_) (λU H' pv=>?_)
 ·clear tk ata' ha';obtain⟨y3,y4,y5,rfl,tk⟩:=pv;rw[Qe]at ev;obtain⟨nm,en,rfl⟩:=QX.mp ev;have ho:=Qn en;have atb':ShAt H' b mi mo mn mas sh:=atb.mono (tk.lst tb) (tk.tup tb);refine aw ?_;lk;refine⟨b,mi,mo,mn,mas,sh,lam,nm,rfl,atb',ok,lb,tk.tab,λnf H4 t4=>?_,λft no=>absurd ho no,λft _ d H4 t4 hd q4=>?_⟩
  ·have ef:fb=false:=by cases fb with
    | false=>rfl
    | true=>exact absurd (hfb.mp rfl) nf
   subst ef;lk;refine .inl ⟨rfl,_,rfl,ifF (by decide) ?_⟩;lk;exact⟨_,_,_,rfl,tk.trans t4⟩
  have ef:fb=true:=hfb.mpr ft;subst ef;have tk4:=tk.trans t4;have ata4:ShAt H4 a li lo ln nas sh:=ata.mono (tk4.lst tb) (tk4.tup tb);have hd0:H d=none:=tk.free hd;lk;refine⟨a,li,lo,ln,nas,sh,lam,nm,rfl,ata4,ok,lb,dr.ndn,ho,λd2 H5 S5 hd2 q5=>?_⟩;have tk5:=tk4.same S5;have q45:=S5 _ _ q4;have dd:d2≠d:=dQ q4 hd2;lk;refine vC q45 q5 ⟨_,rfl,iteF ?_⟩;lk;refine⟨_,_,_,_,rfl,TyOf.dK q45,l7 "dict", _,rfl,iteF ?_⟩;lk;refine df ?_;lk;have wl:=fK sh lam nm sh.nodes.length;have n100:=ok.n100;refine⟨d,_,rfl,eX.k (k:=Sum.inr ("more" : Str)) q45 (by omega),?_⟩;have tk6:=tk5.dict (o:=.dK (be (bS sh lam nm sh.nodes.length) (Sum.inr ("more" : Str)) (.str "0"))) hd0 q45;have q56:upd H5 d (.dK (be (bS sh lam nm sh.nodes.length) (Sum.inr ("more" : Str)) (.str "0"))) d2=some (.dK (bS sh lam nm sh.nodes.length)):=by rw[af dd];exact q5
  generalize upd H5 d (.dK (be (bS sh lam nm sh.nodes.length) (Sum.inr ("more" : Str)) (.str "0")))=H6 at tk6 q56;lk;refine⟨b,mi,mo,mn,mas,sh,lam,nm,rfl,atb.mono (tk6.lst tb) (tk6.tup tb),ok,lb,tk6.tab,λnf=>absurd ft nf,λ_ no=>absurd ho no,λ_ _ d3 H7 t7 hd3 q7=>?_⟩;lk;refine vC q7 (Tk.dK tk6.tab t7 _ _ q56) ⟨_,rfl,iteF ?_⟩;lk;exact⟨_,_,_,rfl,tk6.trans t7⟩
 obtain⟨_,_,_,rfl,tk⟩:=pv;lk;exact k H' tk
end
def qU:Sp:=λvs H Q _=>∃(D:Dk) (Lq:Addr) (nas:B3) (all:List (List (Str × Nat))),vs=[.ref D.d,.ref Lq]/\D.At H/\H Lq=some (.lst (nas.map V.ref))/\¬D.own Lq/\(∀b∈nas,¬D.own b)/\Paired (λna node=>aD H na (a_ node)) nas all/\1<=all.length/\all.length<=40/\(∀node∈all,node.length<=100)/\(∀node∈all,∀p∈node,p.2<all.length) /\
 ∀ln nas' os H',Kp D H H'->H ln=none->H' ln=some (.lst (nas'.map V.ref))->Paired (λna node=>aD H' na (a_ node)) nas' (bw os all)->os.Perm (List.range all.length)->os.getD 0 0=0->Q (.ref ln) H'
theorem sJ {ta:TA} (q:ta U H λvs H1=>∃(lo:Int) (n:Nat),vs=[.int lo,.int (lo+n)]/\-1000<=lo/\lo<=1000/\n<=1000/\∀l,H1 l=none->Q (.ref l) (upd H1 l (.lst ((List.range n).map λ(i:Nat)=>V.int (lo+(i:Int)))))):oa ta U H Q:=q
section
theorem gt:FnScope ["deck", "nodes", "left", "number", "k", "old"] ["deck", "nodes"] (ak (top 35)):=by fin2
theorem t_ {f:Addr} {fd:FuncData} (Fu:Fun K "_law_numbered" "_law_numbered" (top 35) f fd) (T:Txt K mg TT) (f_law_next:Fn P w K mg base "_law_next" ["deck"] 1 eK):FnOk P w K mg base CX0 2 f fd ["deck", "nodes"] qU:=by
 have S:=gt;refine Fu.ok S (by room) (λcdv A outer s H vs Q E hr h=>?_);obtain⟨D,Lq,nas,all,rfl,DA,hq,nq,nn,pr,n1,n40,few,tos,k⟩:=h;have hu:=cF hr;refine'⟨?_,?bb,?_⟩
 case bb =>
  walk_at "b";exact aB 2 S.nd (pJ rfl (by rfl) T.n_list (by rfl) T.n_range (aa ah (aa (am ao (by rfl) T.n_len QN (aa (pv 1) ae ad)) ae se_call) ay));exact(aH jo (aA bh (aK f_law_next hr (aa (pv 0) ae ad)) ah) ah (bi _));exact(aB 2 S.nd (jj "k" [("left", 2),("deck", 0)] (bP (by rfl) T.n_range (aa (am ao (by rfl) T.n_len QN (aa (pv 2) ae ad)) ae se_call)) (λ_ _ _ _=>(rJ (K:=K) rfl Qt PySem.F.slot_list_pop PySem.F.type_list_pop lX (pv 1) (aa (aA bh (aK f_law_next hr (aa (pv 2) ae ad)) (am (eG (K:=K) rfl) (by rfl) T.n_len QN (aa (pv 1) ae ad))) ae)))));exact aB 3 S.nd (gI (fg ah ah gH) rfl rfl (by simp) (by decide));walk_at "f";exact(kB (by rfl) T.n_enumerate (aa (pv 2) ae ad));exact(fR rfl (br (bU 4 S.nd) (br (bU 5 S.nd) cS)));walk_at "p";exact(cR hu (pv 3) (pv 5) (aA bX (pv 4) ah) rfl)
  with_reducible refine' aN ?e
  case e =>
   exact(jj "old" [("number", 3),("nodes", 1)] (bK (aA fW (pe_lst (aa ah ae ay)) (pv 2))) (λ_ _ _ _=>(lV (tgs:=["name", "to"]) (cap:=[("number", 1)]) rfl ⟨rfl,rfl,rfl,rfl,rfl,rfl⟩ (rm (K:=K) rfl (au (l_ (K:=K) rfl) (pv 2) (pv 0))) (λ_ _ _ _=>(kD (K:=K) (n:=2) rfl rfl (br (ce (i:=0) (show List.Nodup [("name" : Str),("to" : Str),("number" : Str)] by decide +kernel) rfl (by z_go)) (br (ce (i:=1) (show List.Nodup [("name" : Str),("to" : Str),("number" : Str)] by decide +kernel) rfl (by z_go)) cS)))) (λ_ _ _ _=>fh) (λ_ _ _ _=>(pe_tup (aa (pv 0) (aa (cC hu (pv 2) (pv 1)) ae) ad))))))
 x_go;have lnas:=aL pr;lk;obtain⟨n,hn⟩:∃n,all.length=n+1:=⟨all.length-1,by omega⟩;refine sJ ?_;lk;rw[Qa,lnas,hn];refine⟨1,n,by rw[show (1:Int)+(n:Int)=((n+1:Nat):Int) by omega],by omega,by omega,by omega,λL0 hL0=>?_⟩
 have e0:((List.range n).map λ(i:Nat)=>V.int (1+(i:Int)))=aO ((List.range n).map λi=>1+i):=by
  unfold aO;rw[List.map_map];refine List.map_congr_left λi _=>?_;show V.int (1+(i:Int))=V.int (((1+i:Nat)):Int);rw[Int.natCast_add];rfl
 have pm0:(0::(List.range n).map λi=>1+i).Perm (List.range (n+1)):=by
  rw[List.range_succ_eq_map];refine List.Perm.of_eq ?_;congr 1;exact List.map_congr_left λi _=>Nat.add_comm 1 i
 rw[e0];generalize ((List.range n).map λi=>1+i)=ls0 at pm0;have ll0:ls0.length=n:=by have:=pm0.length_eq;rw[Xj,Xh]at this;omega
 clear e0;ctx_has H L0 H1 S1 q1 aj hL0;have nL0:¬D.own L0:=av DA hL0;have kp1:Kp D H H1:=Kp.of DA S1;kt_k;let I25:IvJ:=λU G=>∃(L1:Addr) (ls:List Nat),U=[some (.ref D.d),some (.ref Lq),some (.ref L1),none,none,none]/\Kp D H G/\G L1=some (.lst (aO ls))/\H L1=none/\ls.Perm ls0;with_reducible refine cW I25 (λRR hJ=>?_) (λU G h=>?_)
 ·lk;refine bB kp1 λr H2 k2 kp2=>?_;have q2:=k2.old _ _ q1 nL0;lk;refine sw (λ_=>?_) (λ_=>?_)
  ·lk;refine cG ?_;lk;have li:(aO ls0).length=ls0.length:=Qa ..;rw[li];refine⟨by omega,by omega,λL hL=>?_⟩;rw[QZ];have HL:H L=none:=kp2.free hL;have npL:L0≠L:=ai q2 hL;have nL:¬D.own L:=av DA HL;let I26:IvC:=λm H' ys=>Kp D H H'/\H' L=some (.lst ys)/\∃zs sp:List Nat,ys=aO zs/\zs.length=m/\H' L0=some (.lst (aO sp))/\sp.length+m=ls0.length/\(zs++sp).Perm ls0;refine dA (n:=ls0.length) I26 ⟨Kp.fresh DA HL kp2,ag,[],_,rfl,rfl,by rw[af npL];exact q2,rfl,List.Perm.refl _⟩ (λi H' ys pv=>pv.2.1) (λi H' ys hi pv=>?_) (λH' ys pv=>?_)
   ·obtain⟨kp,hl,zs,sp,rfl,hz,hsp,ls,pm⟩:=pv;refine aw ⟨by repeat' (first|exact trivial|refine⟨rfl,?_⟩),i_yes (iteT ?_)⟩;refine i_bm (ap rfl ?_);refine⟨i_tyL hsp,?_⟩;lk;refine bB kp λr H2 k2 kp2=>?_;have hsp2:=k2.old _ _ hsp nL0;have hl2:=k2.old _ _ hl nL;have lsp:(aO sp).length=sp.length:=Qa ..;lk;rw[lsp];refine i_rI (show (0:Int)<(sp.length:Int) by omega) ?_;obtain⟨j,ej,hj⟩:=bD r (m:=(sp.length:Int)) (by omega);rw[ej];have hjl:j<sp.length:=by omega
    have ez:sp[j]?=some sp[j]:=Qb hjl;refine bv ?_;refine⟨L0,aO sp,(j:Int),j,.int (sp[j]:Nat),rfl,rfl,hsp2,by omega,by omega,?_,by unfold aO;rw[Qe,ez];rfl,?_⟩
    ·have:ixN (aO sp).length (j:Int)=some j:=by unfold ixN;rw[Qv (by omega),lsp,Qv hj,QZ]
     exact(gK this).1
    have em:(aO sp).eraseIdx j=aO (sp.eraseIdx j):=by unfold aO;rw[f6]
    rw[em]
    have pm2:((zs++[sp[j]])++sp.eraseIdx j).Perm (zs++sp):=by
     rw[Q0];exact List.Perm.append_left _ (eO sp j hjl)
    have le:(sp.eraseIdx j).length=sp.length-1:=by rw[List.length_eraseIdx,Qv hjl]
    refine cs.mk (by rw[af npL.symm];exact hl2) hi (by show (aO zs).length<_;unfold aO;rw[Qa];omega) ⟨Kp.fresh DA HL (Kp.fresh DA hL0 kp2),ag,zs++[sp[j]],sp.eraseIdx j,by unfold aO;rw[Qr];rfl,by rw[Qd,hz];rfl,by rw[af npL,ag],by omega,pm2.trans pm⟩
   obtain⟨kp,hl,zs,sp,rfl,hz,_,ls,pm⟩:=pv;have s0:sp=[]:=Q2 (by omega);subst s0;rw[Xa]at pm;refine aw (hJ _ _ ⟨L,zs,rfl,kp,hl,HL,pm⟩)
  exact s_next (hJ _ _ ⟨L0,ls0,rfl,kp2,q2,hL0,List.Perm.refl _⟩)
 obtain⟨L1,ls,rfl,kp2,q2,hL1,pml⟩:=h;have pm:(0::ls).Perm (List.range (n+1)):=(pml.cons 0).trans pm0;have ll:ls.length=n:=by rw[pml.length_eq];exact ll0
 have nd:(0::ls).Nodup:=pm.nodup_iff.mpr List.nodup_range;have nL1:¬D.own L1:=av DA hL1;clear q1 S1 pm0 ll0 pml kp1;have li:(aO ls).length=ls.length:=Qa ..;lk;refine λM hM=>?_;lk;refine⟨ag,[(Sum.inl 0,.int 0)],rfl,by simp,?_⟩;rw[gB];have M1:L1≠M:=ai q2 hM;have HM:H M=none:=kp2.free hM;ctx_has G M H3 S3 q3 aj hM;have q3:H3 M=some (.dK [(Sum.inl 0,.int 0)]):=q3;have q23:=S3 _ _ q2;have kp3:=kp2.trans (Kp.of kp2.dk S3);lk;show gR _ _ _ _ _;lk;refine⟨L1,rfl,⟨_,SqL.of q23⟩,?_⟩;let I27:IvF:=λi U H'=>∃(y4 y5:Option V) (kvs:List (Key × V)),U=[some (.ref D.d),some (.ref Lq),some (.ref L1),some (.ref M),y4,y5]/\Kp D H H'/\H' L1=some (.lst (aO ls))/\H' M=some (.dK kvs)/\kvs.length<=i+1/\∀x∈0::ls.take i,aJ kvs (Sum.inl (x:Int):Key)=some (.int ((0::ls).idxOf x:Nat))
 refine iB (xs:=aO ls) I27 ⟨_,_,_,rfl,kp3,q23,q3,Qh _,λx hx=>by
  rw[List.take_zero,Qp]at hx;subst hx
  rfl⟩ (λi U H' _ ⟨_,_,_,_,_,h,_⟩=>SqL.of h) (λi x U H' t hx pv ht=>?_) (λU H' pv=>?_)
 ·obtain⟨y4,y5,kvs,rfl,kp,h1,hm,kl,kv⟩:=pv;unfold aO at hx;rw[Qe]at hx;obtain⟨o,ho,rfl⟩:=QX.mp hx;have hi5:i<ls.length:=(Qc.mp ho).1;have eo:ls[i]=o:=(Qc.mp ho).2;have S9:=aq (o:=.tup [.int (i:Nat),.int (o:Nat)]) ht;refine⟨t,_,rfl,SqT.of ag,rfl,?_⟩;refine⟨_,_,rfl,aw ⟨_,_,rfl,aw ⟨rfl,?_⟩⟩⟩;have kp9:=kp.trans (Kp.of kp.dk S9);have h19:=S9 _ _ h1;have hm9:=S9 _ _ hm;generalize upd H' t (.tup [.int (i:Nat),.int (o:Nat)])=H9 at *;lk;refine df ?_;lk;refine⟨M,_,rfl,eX.k (k:=Sum.inl (o:Int)) hm9 (by omega),?_⟩
  have ix:(0::ls).idxOf o=i+1:=by
   have:=nd.idxOf_getElem (i+1) (by rw[Xh];omega);rw[List.getElem_cons_succ,eo]at this;exact this
  refine⟨_,_,be kvs (Sum.inl (o:Int):Key) (.int ((i:Int)+1)),rfl,Kp.fresh DA HM kp9,by rw[af M1];exact h19,ag,QQ (bC _ _ _) (by omega),λx hx=>?_⟩;rw[b9];by_cases e:x=o
  ·subst e;rw[Qv rfl,ix];rfl
  rw[Qz λz=>e (by have:=Sum.inl.inj z;omega)];refine kv x ?_;rw[Xo,ho]at hx;rcases Qu.mp hx with h|h
  ·exact Qu.mpr (.inl h)
  rcases Qk.mp h with h|h
  ·exact Qs _ h
  exact absurd (by simpa using h) e
 obtain⟨y4,y5,kvs,rfl,kp,h1,hm,kl,kv⟩:=pv;rw[li,List.take_length]at kv;lk;have prz:Paired (λna node=>aD H' na (a_ node)) nas all:=bN (λna hn _ h=>h.kp DA kp (nn na hn)) pr;have hqz:=kp.old _ _ hq nq;have lon:(0::ls).length=n+1:=by rw[Xh,ll]
 refine cG (s_list (bY (i_lst (bg (i_c (bv ⟨by simp[sizeLine],λp hp=>?_⟩))))));ctx_has H' p H4 S4 q4 aj hp;refine ap rfl (jy q4 (S4 _ _ h1) (by rw[li];show 1+_<=_;omega) λLc hLc=>?_);ctx_has H4 Lc H5 S5 q5 aj hLc;have q5:H5 Lc=some (.lst (aO (0::ls))):=q5;have S45:=S4.trans S5;have kp5:=kp.trans (Kp.of kp.dk S45);have hm5:=S45 _ _ hm;have hq5:=S45 _ _ hqz;have pr5:Paired (λna node=>aD H5 na (a_ node)) nas all:=aE (λ_ _ h=>h.same S45) prz;clear prz hqz hm S4 S5 S45 q4 hp hLc h1 q23 q2;refine⟨Lc,rfl,⟨_,SqL.of q5⟩,λLd hLd=>?_⟩;have HLd:H Ld=none:=kp5.free hLd;let I28:IvC:=λm H2 ys=>ax H5 H2/\H2 Ld=some (.lst ys)/\∃as:B3,ys=as.map V.ref/\as.length=m/\(∀b∈as,b≠Ld)/\Paired (λna node=>aD H2 na (a_ node)) as (((0::ls).take m).map λo=>iU (0::ls) (all.getD o []));refine c8 (xs:=aO (0::ls)) I28 ⟨aq hLd,ag,[],rfl,rfl,(λb h=>nomatch h),.nil⟩ (λm H2 ys pv=>⟨pv.2.1,SqL.of (pv.1 _ _ q5)⟩) (λm x H2 ys e pv=>?_) (λH2 ys pv=>?_)
 ·obtain⟨S2,hd2,as,rfl,la,nea,pa⟩:=pv;have hmm:m<(aO (0::ls)).length:=(Qc.mp e).1;have lmm:(aO (0::ls)).length=n+1:=by unfold aO;rw[Qa,lon]
  unfold aO at e;rw[Qe]at e;obtain⟨o,ho,rfl⟩:=QX.mp e;have hoa:o<all.length:=by rw[hn];exact Xc.mp (pm.mem_iff.mp (Qn ho))
  obtain⟨na,hna,vs,hv,pv⟩:=bO pr5 (Qb hoa);have ga:all.getD o []=all[o]:=by rw[Qm,Qb hoa];rfl
  have fw:=few _ (Xe hoa);have tw:=tos _ (Xe hoa);generalize all[o]=node at ga pv fw tw;have lv:=aL pv;unfold a_ at lv;rw[Qa]at lv;refine aw ⟨by repeat' (first|exact trivial|refine⟨rfl,?_⟩),i_yes (iteT ?_)⟩;refine cG (s_list (bY (ap rfl (ap rfl (bx (v:=.ref na) (SqL.of (S2 _ _ hq5)) (aU (by rw[Qe,hna];rfl)) ⟨na,rfl,⟨_,SqL.of (S2 _ _ hv)⟩,λLe hLe=>?_⟩)))));have nde:Le≠Ld:=dQ hd2 hLe;let I29:IvC:=λq H3 zs=>ax H2 H3/\H3 Le=some (.lst zs)/\Paired (λv (s:V × Key)=>∃b,v=.ref b/\H3 b=some (.tup [s.1,kV s.2])) zs (a_ (iU (0::ls) (node.take q)));refine c8 (xs:=vs) I29 ⟨aq hLe,ag,.nil⟩ (λq H3 zs pz=>⟨pz.2.1,SqL.of (pz.1 _ _ (S2 _ _ hv))⟩) (λq x H3 zs e pz=>?_) (λH3 zs pz=>?_)
  ·obtain⟨S3,he,pz⟩:=pz;obtain⟨st,est,b,rfl,hb⟩:=paired_get pv e;have hqv:q<vs.length:=(Qc.mp e).1;unfold a_ at est;rw[Qe]at est;obtain⟨tp,etp,rfl⟩:=QX.mp est;have S23:=S2.trans S3;have tlt:=tw tp (Qn etp);have mto:tp.2∈0::ls:=pm.mem_iff.mpr (Xc.mpr (by omega));refine⟨b,_,rfl,SqT.of (S23 _ _ hb),rfl,_,_,rfl,aw ⟨_,_,rfl,aw ⟨rfl,⟨rfl,trivial⟩,i_yes (iteT ?_)⟩⟩⟩;lk
   have dg:cq H3 M (.int (tp.2:Int)) (some (.int ((0::ls).idxOf tp.2:Nat))):=by
    have z:=cq.k (k:=Sum.inl (tp.2:Int)) (S23 _ _ hm5);rw[kv tp.2 mto]at z;exact z
   refine⟨M,_,rfl,dg,?_⟩;lk;refine⟨by simp[sizeLine],λt ht=>?_⟩;ctx_has H3 t H6 S6 q6 aj ht;have lz:=aL pz;unfold a_ iU at lz;rw[Qa,Qa,QF]at lz
   have ku:∀c xs,H3 c=some (.tup xs)->upd H6 Le (.lst (zs++[.ref t])) c=some (.tup xs):=λc xs e=>by
    rw[af (λz=>by rw[z,he]at e;cases e)];exact S6 _ _ e
   refine cs.mk (S6 _ _ he) hqv (by omega) ⟨bq (S3.trans S6) hLe,ag,?_⟩;rw[Xo,etp];unfold a_ iU at pz ⊢;rw[Qr,Qr];exact b0 (aE (λv s ⟨c,e,q⟩=>⟨c,e,ku _ _ q⟩) pz) ⟨t,rfl,by rw[af (λz=>by rw[z]at ht;rw[he]at ht;cases ht)];exact q6⟩
  obtain⟨S3,he,pz⟩:=pz;rw[QP (by omega)]at pz;refine cs.mk (S3 _ _ hd2) hmm (by rw[Qa];omega) ⟨bq (S2.trans S3) hLd,ag,as++[Le],by rw[Qr];rfl,by rw[Qd,la];rfl,λb hb=>?_,?_⟩
  ·rcases Qk.mp hb with h|h
   ·exact nea b h
   rw[Qp.mp h];exact nde
  rw[Xo,ho,Qr];have hd3:=S3 _ _ hd2;refine b0 (bN (λa ha node h=>cu ⟨_,hd3⟩ (h.same S3) (nea a ha)) pa) ?_;have st:aD H3 Le (a_ (iU (0::ls) node)):=⟨zs,he,pz⟩;have:=cu (o:=.lst (as.map V.ref++[.ref Le])) ⟨_,hd3⟩ st nde;show aD _ Le (a_ (iU (0::ls) (all.getD o [])));rw[ga];exact this
 obtain⟨S2,hd2,as,rfl,la,nea,pa⟩:=pv;have lmm:(aO (0::ls)).length=n+1:=by unfold aO;rw[Qa,lon]
 rw[lmm,QP (by omega)]at pa;exact k Ld as (0::ls) H2 (kp5.trans (Kp.of kp5.dk S2)) HLd hd2 pa (by rw[hn];exact pm) rfl
end
theorem dv {T:List Nat}:∀(zs:List Str),(∀z∈zs,∃c∈T,z=⟨#[c]⟩)->((zs.map (·.cps.toList)).flatten).length=zs.length/\(∀c∈(zs.map (·.cps.toList)).flatten,c∈T)/\(zs.map (·.length)).sum=zs.length
 | [],_=>⟨rfl,λc h=>(List.not_mem_nil h).elim,rfl⟩
 | z::zs,h=>by
  obtain⟨c,hc,rfl⟩:=h z (by simp);obtain⟨e1,e2,e3⟩:=dv zs λz hz=>h z (Qs _ hz);refine⟨?_,λd hd=>?_,?_⟩
  ·simp only[QL,List.flatten_cons,Qd,e1,Xh];show (#[c]:Array Nat).toList.length+zs.length=_;simp;omega
  ·simp only[QL,List.flatten_cons,Qk]at hd;rcases hd with hd|hd
   ·have:d=c:=by simpa using hd
    rw[this];exact hc
   exact e2 d hd
  simp only[QL,List.sum_cons,Xh,e3];show (#[c]:Array Nat).size+zs.length=_;simp;omega
theorem qa {T:List Nat} (h:∀z∈zs,∃c∈T,z=⟨#[c]⟩):(Txt.join Str.empty zs).cps.size=zs.length/\∀c∈(Txt.join Str.empty zs).cps.toList,c∈T:=by
 obtain⟨e1,e2,_⟩:=dv zs h;rw[<-QC,qi];exact⟨e1,e2⟩
theorem ge {α β:Type} {F:α->β->Prop}:∀{xs:List α} {ys:List β} {i:Nat} {x:α} {y:β},F x y->Paired F xs ys->Paired F (xs.set i x) (ys.set i y)
 | _,_,_,_,_,_,.nil=>by simp;exact .nil
 | _,_,0,_,_,h,.cons a t=>.cons h t
 | _,_,i+1,_,_,h,.cons a t=>.cons a (ge h t)
theorem Bld.setNode {Lm:Addr} {ws:List Str} (b:Bld D H Lm Lr Lq ws rows nas nodes H') (i:Nat) {p:Addr} {node:List (Str × Nat)} (p0:H p=none) (pn:p∉Lm::Lr::Lq::nas) (hp:aD H' p (a_ node)):Bld D H Lm Lr Lq ws rows (nas.set i p) (nodes.set i node) (upd H' Lq (.lst ((nas.set i p).map V.ref))):=by
 obtain⟨n1,n2,n3,n4,n5,n6,n7⟩:=b.neR;simp only[Qu,not_or]at pn;obtain⟨p1,p2,p3,p4⟩:=pn;have sub:∀c∈nas.set i p,c∈nas\/c=p:=λc hc=>List.mem_or_eq_of_mem_set hc
 have nds:(nas.set i p).Nodup:=by
  rw[List.set_eq_take_append_cons_drop]
  split
  ·have h7:=n7;rw[<-Q3 i nas]at h7;have hd:(nas.take i++nas.drop (i+1)).Nodup:=List.Sublist.nodup (List.Sublist.append (List.Sublist.refl _) (by rw[<-List.drop_drop];exact List.drop_sublist _ _)) h7;refine(List.perm_middle (a:=p) (l₁:=nas.take i) (l₂:=nas.drop (i+1))).nodup_iff.mpr ?_;rw[Xb];refine⟨λh=>p4 ?_,hd⟩;rcases Qk.mp h with h|h
   ·exact List.mem_of_mem_take h
   exact List.mem_of_mem_drop h
  exact n7
 refine⟨Kp.fresh b.da b.q0 b.kp,b.m0,b.r0,b.q0,λc hc=>?_,by rw[af n2];exact b.hm,by rw[af n3];exact b.hr,ag,?_,bN (λna hn node h=>cu ⟨_,b.hq⟩ h (λz=>?_)) (ge (F:=λna node=>aD H' na (a_ node)) hp b.nod),b.da⟩
 ·rcases sub c hc with h|h
  ·exact b.f0 c h
  rw[h];exact p0
 ·simp only[Xb,Qu,not_or];refine⟨⟨n1,n2,λh=>?_⟩,⟨n3,λh=>?_⟩,λh=>?_,nds⟩
  ·rcases sub _ h with h|h
   ·exact n4 h
   exact p1 h.symm
  ·rcases sub _ h with h|h
   ·exact n5 h
   exact p2 h.symm
  rcases sub _ h with h|h
  ·exact n6 h
  exact p3 h.symm
 rcases sub na hn with h|h
 ·exact n6 (z▸h)
 exact p3 (h.symm.trans z)
theorem uv {K:PySem.W.Frag} {R:Bool->Hp->Prop} {al:Int} (h0:U[0]?=some (some (.ref D.d))) (h7:U[7]?=some (some (.int al))) (h12:U[12]?=some (some (.ref L))) (DA:D.At H) (hl:H L=some (.lst us))
  (q:∀bb G,Kp D H G->(bb=true->0<us.length)->R bb G) :
  vW (gQ (tOp (q_ K true) (cV 12) (tJ pB))) (tOr (gQ (tOp (rI0 λi j=>V.bl (decide (j<i))) (cV 7) (tC (V.int 0)))) (gQ (tOp rEq (tOp (rI (λx j=>0<j) λi j=>V.int (i % j)) (ja eK [] E0 (gR (cV 0) pB)) (tC (V.int 2))) (tC (V.int 0))))) U H R:=by
 refine i_and (uu h12 hl λH1 S1=>?_);have k1:Kp D H H1:=Kp.of DA S1;by_cases c0:us.length=0
 ·refine ifF (by rw[QU c0];rfl) (q false H1 k1 λe=>nomatch e)
 refine ifT (by rw[QE c0];rfl) ?_;refine i_or (i_test (bY (ap h7 (i_c (i_rI0 ⟨_,rfl,?_⟩)))));by_cases c1:decide ((0:Int)<al)=true
 ·refine ifT c1 (q true H1 k1 λ_=>by omega)
 refine ifF (Xs.mpr c1) ?_;refine i_test (bY (bY (i_call (bg (ap h0 (bv (bB k1 λr H2 k2 kp2=>?_)))))));refine i_c (i_rI (show (0:Int)<2 by decide) (i_c (i_eq rfl ⟨_,rfl,q _ _ kp2 λ_=>by omega⟩)))
def lq:Sp:=λvs H Q _=>∃(D:Dk) (i o:Nat),vs=[.ref D.d,.int (i:Int),.int (o:Int),.int 30]/\D.At H/\i<=4/\1<=o/\i+o<=11/\∀a li lo ln nas s H',Kp D H H'->ShAt H' a li lo ln nas s->DrawnOk s->Q (.ref a) H'
section
theorem jZ:FnScope ["deck", "ins", "outs", "most", "names", "rows", "nodes", "alike", "k", "here", "at", "signs", "known", "many", "lead"] ["deck", "ins", "outs", "most"] (ak (top 34)):=by fin2
theorem pQ {f:Addr} {fd:FuncData} (Fu:Fun K "_law_sheet" "_law_sheet" (top 34) f fd) (T:Txt K mg TT) (f_law_next:Fn P w K mg base "_law_next" ["deck"] 1 eK) (f_law_names:Fn P w K mg base "_law_names" ["deck", "many"] 2 lx) (f_law_flip:Fn P w K mg base "_law_flip" ["signs", "at"] 1 dJ) (f_law_numbered:Fn P w K mg base "_law_numbered" ["deck", "nodes"] 2 qU):FnOk P w K mg base CX0 3 f fd ["deck", "ins", "outs", "most"] lq:=by
 have S:=jZ;refine Fu.ok S (by room) (λcdv A outer s H vs Q E hr h=>?_);obtain⟨D,ni,no,rfl,DA,i4,o1,w11,k⟩:=h;refine'⟨?_,?bb,?_⟩
 case bb =>
  walk_at "b";exact aB 4 S.nd (aK f_law_names hr (aa (pv 0) (aa (aA bX (pv 1) (pv 2)) ae) ad));exact aB 5 S.nd (pe_lst (aa (cE PySem.F.plainAttrs_str PySem.F.slot_str_join PySem.F.type_str_join uk aQ (aa (jj "name" [("deck", 0)] (bK (pv 4)) (λ_ _ _ _=>(au dS aQ (aA bh (aK f_law_next hr (aa (pv 1) ae ad)) ah)))) ae)) ae se_call));refine' aB 6 S.nd ?e
  case e =>
   walk_at "q"
  exact aB 7 S.nd (aA bh (aK f_law_next hr (aa (pv 0) ae ad)) ah);walk_at "f";exact(bP (by rfl) T.n_range (aa (aA bh (aK f_law_next hr (aa (pv 0) ae ad)) (aA bX (pv 3) ah)) ae));exact(bU 8 S.nd);walk_at "p";exact aB 9 S.nd (aA bh (aK f_law_next hr (aa (pv 0) ae ad)) (am ao (by rfl) T.n_len QN (aa (pv 6) ae ad)));exact aB 10 S.nd (aA bh (aK f_law_next hr (aa (pv 0) ae ad)) (am ao (by rfl) T.n_len QN (aa (pv 4) ae ad)));exact aB 11 S.nd (aK f_law_flip hr (aa (au aM (pv 5) (pv 9)) (aa (pv 10) ae ad)));exact(u6 (j:=12) S.nd rfl (by z_go) (tgs:=["to"]) (cap:=[("signs", 11),("rows", 5)]) rfl ⟨rfl,rfl,rfl,rfl,rfl,rfl⟩ (bP (by rfl) T.n_range (aa (am ao (by rfl) T.n_len QN (aa (pv 5) ae ad)) ae se_call)) (λ_ _ _ _=>(ce (i:=0) (show List.Nodup [("to" : Str),("signs" : Str),("rows" : Str)] by decide +kernel) rfl (by z_go))) (λ_ _ _ _=>(hX (aH jo (au (l_ (K:=K) rfl) (pv 2) (pv 0)) (pv 1) (bi _)))) (λ_ _ _ _=>(pv 0)));exact(aH fm (au aM (pv 4) (pv 10)) (lV (tgs:=["name", "to"]) (cap:=[]) rfl ⟨rfl,rfl,rfl,rfl,rfl,rfl⟩ (bK (au aM (pv 6) (pv 9))) (λ_ _ _ _=>(kD (K:=K) (n:=2) rfl rfl (br (ce (i:=0) (show List.Nodup [("name" : Str),("to" : Str)] by decide +kernel) rfl (by z_go)) (br (ce (i:=1) (show List.Nodup [("name" : Str),("to" : Str)] by decide +kernel) rfl (by z_go)) cS)))) (λ_ _ _ _=>fh) (λ_ _ _ _=>(pv 0))) rfl);exact(PW.pt (fP (aH (kI hr.units) (pv 12) (pe_lst ae) (bi _)) (fe (PW.pt (jg (aH oG (pv 7) ah (bi _)) (fO (aH jo (aA bh (aK f_law_next hr (aa (pv 0) ae ad)) ah) ah (bi _))))))));refine' bV (cE Qt Q8 Q9 bA (au aM (pv 6) (pv 9)) ?a)
  case a =>
   walk_at "q";exact(au aM (pv 4) (pv 10));exact(au aM (pv 12) (aA bh (aK f_law_next hr (aa (pv 0) ae ad)) (am ao (by rfl) T.n_len QN (aa (pv 12) ae ad))))
  refine' bV (cE Qt Q8 Q9 bA (au aM (pv 6) (pv 9)) ?a)
  case a =>
   walk_at "q";exact(au aM (pv 4) (pv 10));exact(am ao (by rfl) T.n_len QN (aa (pv 6) ae ad))
  refine' bV (cE Qt Q8 Q9 bA (pv 6) ?a)
  case a =>
   walk_at "q"
  exact(bV (cE Qt Q8 Q9 bA (pv 5) (aa (pv 11) ae ad)));exact aB 13 S.nd (am ao (by rfl) T.n_len QN (aa (pv 6) ae ad));walk_at "f";exact(bP (by rfl) T.n_range (aa (aA fT (au aM (pe_lst (aa ah (aa ah (aa ah (aa ah ae ay) ay) ay) ay)) (aA bh (aK f_law_next hr (aa (pv 0) ae ad)) ah)) (bZ f9 (by rfl) T.n_int PyProof.Rows.boot_int (aa (oB oF (pv 13) ah (bi _)) ae))) ae));exact(bU 8 S.nd);walk_at "p";refine' aB 14 S.nd ?e
  case e =>
   walk_at "q";exact(au aM (pv 4) (aA bh (aK f_law_next hr (aa (pv 0) ae ad)) (am ao (by rfl) T.n_len QN (aa (pv 4) ae ad))));exact(aA bh (aK f_law_next hr (aa (pv 0) ae ad)) (aA bX (am ao (by rfl) T.n_len QN (aa (pv 6) ae ad)) ah))
  exact(bV (cE Qt Q8 Q9 bA (pv 6) (aa (cM jW (pv 14) di (dh (aA bh (aK f_law_next hr (aa (pv 0) ae ad)) ah))) ae)));exact(PW.pt (fP (aH oG (am ao (by rfl) T.n_len QN (aa (pv 6) ae ad)) (aA bX (pv 13) ah) (bi _)) (fe (aH jo (aA bh (aK f_law_next hr (aa (pv 0) ae ad)) ah) ah (bi _)))));exact(re (pe_lst (aa (pe_tup (aa (au aM (pv 4) ah) (aa (aA nA (am ao (by rfl) T.n_len QN (aa (pv 6) ae ad)) ah) ae))) ae se_tup)) (rp (pv 6) (pv 13) lD));exact(re (pe_lst (aa (pe_tup (aa (au aM (pv 4) (rq mZ ah)) (aa (pv 13) ae ad))) ae se_tup)) (rp (pv 6) (rq mZ ah) lD));refine' aN ?e
  case e =>
   walk_at "q";exact(cM jW (pv 4) di (dh (pv 1)));exact(cM jW (pv 4) (dh (pv 1)) di);exact(au aM (pv 5) ah);exact(aK f_law_numbered hr (aa (pv 0) (aa (pv 6) ae ad) ad))
 x_go;lk;rw[show (ni:Int)+(no:Int)=((ni+no:Nat):Int) by omega];refine⟨D,ni+no,rfl,DA,by omega,by omega,λLm ws H5 lw Lm0 hm5 k05 wnd wsub=>?_⟩;lk;refine⟨Ax,?_⟩;lk;refine cG (s_list (ap rfl ⟨Lm,rfl,⟨_,SqL.of hm5⟩,λL hL=>?_⟩));have HL:H L=none:=k05.free hL;have DA5:=k05.dk;have nLm:¬D.own Lm:=av DA Lm0;have nL:¬D.own L:=av DA HL;have LmL:Lm≠L:=ai hm5 hL;let I30:IvC:=λn H' ys=>Kp D H5 H'/\H' L=some (.lst ys)/\H' Lm=some (.lst (ws.map V.str))/\∃zs:List Str,ys=zs.map V.str/\zs.length=n/\∀z∈zs,∃c∈[48,49],z=⟨#[c]⟩;refine c8 (xs:=ws.map V.str) I30 ⟨Kp.fresh DA5 hL (Kp.of DA5 (ax.refl _)),ag,by rw[af LmL];exact hm5,[],rfl,rfl,λz h=>nomatch h⟩ (λi H ys p=>⟨p.2.1,SqL.of p.2.2.1⟩) (λi x H' ys hx p=>?_) (λH6 ys p=>?_)
 ·obtain⟨kp,hl,hmm,zs,rfl,hz,hc⟩:=p;refine aw ⟨by repeat' (first|exact trivial|refine⟨rfl,?_⟩),i_yes (iteT ?_)⟩;lk;refine bB kp λr H'' k2 kp2=>?_;lk;have hi:i<(ws.map V.str).length:=(Qc.mp hx).1;obtain⟨j,ej,hj⟩:=bD r (m:=2) (by decide);rw[ej]
  obtain⟨c,hc',ec⟩:∃c:Nat,c∈[48,49]/\atI ("01" : Str).cps.toList (j:Int)=some c:=by
   have hr:j=0\/j=1:=by omega
   rcases hr with e|e
   ·subst e;exact⟨48,by simp,by decide +kernel⟩
   subst e;exact⟨49,by simp,by decide +kernel⟩
  refine⟨"01", (j:Int),c,rfl,rfl,by decide,ec,?_⟩;refine cs.mk (k2.old _ _ hl nL) hi (by rw[Qa];rw[Qa]at hi;omega) ⟨Kp.fresh DA5 hL kp2,ag,by rw[af LmL];exact k2.old _ _ hmm nLm,zs++[⟨#[c]⟩],by simp,by simp[hz],λz hz'=>?_⟩;rcases Qk.mp hz' with h|h
  ·exact hc z h
  rw[Qp]at h;exact⟨c,hc',h⟩
 obtain⟨k6,hl6,hm6,zs,rfl,hz,hc⟩:=p;rw[Qa]at hz;obtain⟨js,jc⟩:=qa hc;obtain⟨_,_,jl⟩:=dv zs hc;have k06:=k05.trans k6;refine bv (wN hl6 (by rw[jl,show (Str.ofString "").length=0 from by decide];omega) ?_)
 have st0:StOk ws.length (Txt.join "" zs):=⟨by rw[<-hz];exact js,λc hc'=>by
  have:=jc c hc'
  simpa using this⟩
 generalize Txt.join "" zs=z0 at *;lk;refine⟨by simp[sizeLine],λLr hLr=>?_⟩;ctx_has H6 Lr H7 S7 hr7 aj hLr;have k07:=k06.trans (Kp.of k06.dk S7);have Lr0:H Lr=none:=k06.free hLr;have hm7:=S7 _ _ hm6;lk;refine⟨by simp[sizeLine],λN0 hN0=>?_⟩;ctx_has H7 N0 H8 S8 hn8 aj hN0;have k08:=k07.trans (Kp.of k07.dk S8);have N00:H N0=none:=k07.free hN0;lk;refine⟨by simp[sizeLine],λLq hLq=>?_⟩;ctx_has H8 Lq H9 S9 hq9 aj hLq;have k09:=k08.trans (Kp.of k08.dk S9);have Lq0:H Lq=none:=k08.free hLq
 have bld:Bld D H Lm Lr Lq ws [z0] [N0] [[]] H9:=by
  have e1:Lm≠Lr:=ai hm6 hLr;have e2:Lm≠N0:=ai hm7 hN0;have e3:Lr≠N0:=ai hr7 hN0;have e4:Lm≠Lq:=ai (S8 _ _ hm7) hLq;have e5:Lr≠Lq:=ai (S8 _ _ hr7) hLq;have e6:N0≠Lq:=ai hn8 hLq;refine⟨k09,Lm0,Lr0,Lq0,λb hb=>by rw[Qp]at hb;subst hb;exact N00,S9 _ _ (S8 _ _ hm7),S9 _ _ (S8 _ _ hr7),hq9,?_,.cons ⟨[],S9 _ _ hn8,.nil⟩ .nil,DA⟩;simp only[Xb,Qu,List.not_mem_nil,or_false,not_or];exact⟨⟨e1,e4,e2⟩,⟨e5,e3⟩,e6.symm,not_false,List.nodup_nil⟩
 have gr0:∀i p,p∈([[]]:List (List (Str × Nat))).getD i []->False:=λi p hp=>by
  cases i with
  | zero=>nomatch hp
  | succ i =>
  rw[iA (by simp)]at hp
  nomatch hp
 have gr:Gr ws [z0] [[]]:=⟨rfl,by simp,λy hy=>by rw[Qp]at hy;subst hy;exact st0,λi p hp=>(gr0 i p hp).elim,λnode hn=>by rw[Qp]at hn;subst hn;exact List.nodup_nil⟩;clear hm5 hm6 hm7 hr7 hn8 hq9 S7 S8 S9 hl6;have lws:1<=ws.length/\ws.length<=11:=by omega
 -- alike
 lk;refine bB bld.kp λra Ha ka _=>?_;have bld:=bld.draw ka;lk;generalize ra % 3=al
 -- the first loop
 refine bB bld.kp λr1 Hb kb _=>?_;have bld:=bld.draw kb;lk;obtain⟨c1,e1,hc1⟩:=bD r1 (m:=30+1) (by decide);rw[e1];refine⟨by omega,by omega,?_⟩;rw[QZ];let I31:IvF:=λi σ' H'=>∃(rows:List Str) (nas:B3) (nodes:List (List (Str × Nat))) (x8 x9 x10 x11 x12 x13 x14:Option V),σ'=[some (.ref D.d),some (.int (ni:Int)),some (.int (no:Int)),some (.int 30),some (.ref Lm),some (.ref Lr),some (.ref Lq),some (.int al),x8,x9,x10,x11,x12,x13,x14]/\Bld D H Lm Lr Lq ws rows nas nodes H'/\Gr ws rows nodes/\nodes.length<=i+1;refine cZ I31 ⟨_,_,_,_,_,_,_,_,_,_,rfl,bld,gr,by simp⟩ (λi σ' H' hi pv=>?_) (λσ' H' pv=>?_)
 ·clear bld gr;obtain⟨rows,nas,nodes,x8,x9,x10,x11,x12,x13,x14,rfl,b,g,ln⟩:=pv;refine aw ?_;have lnas:=b.lenN;have np:=g.pos;have lrw:=g.len;lk;refine bB b.kp λr2 Hc kc _=>?_;have b:=b.draw kc;have hq:=b.hq;lk;rw[Qa];refine i_rI (show (0:Int)<(nas.length:Int) by omega) ?_;obtain⟨here,eh,hh⟩:=bD r2 (m:=(nas.length:Int)) (by omega);rw[eh];have hhere:here<nodes.length:=by omega
  lk;refine bB b.kp λr3 Hd kd _=>?_;have b:=b.draw kd;have hm:=b.hm;have hr:=b.hr;lk;rw[Qa];refine i_rI (show (0:Int)<(ws.length:Int) by omega) ?_;obtain⟨kk,ek,hk⟩:=bD r3 (m:=(ws.length:Int)) (by omega);rw[ek];have hkw:kk<ws.length:=by omega
  obtain⟨na,hna,hst⟩:=b.at hhere;have stH:=g.rok _ (Qn (g.row hhere));lk;refine bx (v:=.str (rows.getD here "")) (SqL.of hr) (aU (by rw[Qe,g.row hhere];rfl)) ?_;lk;refine⟨_,ws.length,kk,rfl,stH,hkw,by omega,?_⟩;have stT:=gC stH hkw;generalize hsg:dF (rows.getD here "") kk=sgn at stT
  -- known
  refine aw ?_;kt_k;with_reducible refine s_asg ?_
  refine cG ?_;lk;refine⟨by rw[Qa];omega,by rw[Qa];omega,λL hL=>?_⟩;rw[QZ,Qa,lrw];let I32:IvC:=λi H' ys=>ax Hd H'/\H' L=some (.lst ys)/\∃ks:List Nat,ys=aO ks/\ks.length<=i/\∀k∈ks,k<nodes.length/\rows.getD k "" = sgn;refine mH (n:=nodes.length) I32 ⟨aq hL,ag,[],rfl,Qh _,λk h=>nomatch h⟩ (λi H' ys pv=>pv.2.1) (λi' H' ys hi' pv=>?_) (λHe ys pv=>?_)
  ·obtain⟨Sc,hl,ks,rfl,lk,hks⟩:=pv;rw[Int.zero_add];refine aw ⟨by repeat' (first|exact trivial|refine⟨rfl,?_⟩),?_⟩;have hr':=Sc _ _ hr;refine i_test (bY (bY (ap rfl (ap rfl (bx (v:=.str (rows.getD i' "")) (SqL.of hr') (aU (by rw[Qe,g.row hi'];rfl)) (ap rfl (i_eq rfl ⟨_,rfl,?_⟩)))))));by_cases c:rows.getD i' "" = sgn
   ·refine ifT (QU (by rw[c])) ?_;refine ap rfl (cs.mk hl hi' (by unfold aO;rw[Qa];omega) ⟨bq Sc hL,ag,ks++[i'],by unfold aO;rw[Qr];rfl,by rw[Qd];simp;omega,λk hk=>?_⟩);rcases Qk.mp hk with h|h
    ·exact hks k h
    rw[Qp]at h;subst h;exact⟨hi',c⟩
   refine ifF (QE (λz=>c (V.str.inj z))) ?_;exact⟨_,by omega,rfl,hi',Sc,hl,ks,rfl,by omega,hks⟩
  obtain⟨Sc,hlc,ks,rfl,lk,hks⟩:=pv;have b:=b.same Sc;have nL:¬D.own L:=av kd.dk hL;have hst:=hst.same Sc;have gf:=g.few here;have lik:(aO ks).length=ks.length:=Qa ..;kt_k;kt_k;refine qg (k:=kk) (h:=here) (nm:=ws[kk]) (by rfl) (by rfl) b.hm (Qb hkw) (by rfl) (by rfl) b.hq hna hst (by omega) λHg Sg=>?_;have b:=b.same Sg;have hst:=hst.same Sg;have hlg:=Sg _ _ hlc;by_cases c:ws[kk]∈(nodes.getD here []).map (·.1)
  ·refine ifF (by rw[QU c];rfl) ?_;exact s_next ⟨rows,nas,nodes,_,_,_,_,_,_,_,rfl,b,g,by omega⟩
  refine ifT (by rw[QE c];rfl) ?_;refine uv (by rfl) (by rfl) (by rfl) b.kp.dk hlg λbb G kG hbb=>?_;have hstG:=hst.kp b.kp.dk kG (av DA (b.f0 na (Qn hna)));have hlG:=kG.old _ _ hlg nL;have b:=b.draw kG;clear hst hlg hlc Sg Sc kG hm hr;obtain⟨vs,hv,pr⟩:=id hstG;have lvs:vs.length=(nodes.getD here []).length:=by have:=aL pr;unfold a_ at this;rwa [Qa]at this
  have hqG:=b.hq;have hmG:=b.hm
  cases bb with
  | true =>
   refine iteT ?_;have lk0:=hbb rfl;rw[lik]at lk0;refine s_drop (i_bm (bY (ap rfl (ap rfl (bx (v:=.ref na) (SqL.of hqG) (aU (by rw[Qe,hna];rfl)) ⟨i_tyL hv,?_⟩)))));refine bg (i_tup (bg (bY (ap rfl (ap rfl (bx (v:=.str ws[kk]) (SqL.of hmG) (aU (by rw[Qe,Qb hkw];rfl)) ?_))))));refine bg (bY (ap rfl ?_));lk;refine bB b.kp λr4 Hh kh _=>?_;have hlh:=kh.old _ _ hlG nL;have hvh:=kh.old _ _ hv (av DA (b.f0 na (Qn hna)));have b:=b.draw kh;lk;rw[lik];refine i_rI (show (0:Int)<(ks.length:Int) by omega) ?_;obtain⟨j4,e4,h4⟩:=bD r4 (m:=(ks.length:Int)) (by omega);rw[e4];obtain⟨to,hto,eto⟩:=rg (ks:=ks) (r:=(j4:Int)) (by omega) h4;obtain⟨hto1,hto2⟩:=hks to hto;refine bx (SqL.of hlh) eto ?_;refine bv ⟨by simp[sizeLine],λt ht=>?_⟩;ctx_has Hh t Hi Si hti aj ht;refine bv (fE (Si _ _ hvh) (by omega) ?_);have b2:=(b.same Si).addTurn DA hna (Si _ _ hvh) hti;exact⟨_,_,_,_,_,_,_,_,_,_,rfl,b2,g.turn wnd hhere hkw hto1 (by rw[hto2,hsg]) c,by rw[Xv];omega⟩
  | false =>
  refine iteF ?_;kt_k;refine s_drop (i_bm (bY (ap rfl (ap rfl (bx (v:=.ref na) (SqL.of hqG) (aU (by rw[Qe,hna];rfl)) ⟨i_tyL hv,?_⟩)))));refine bg (i_tup (bg (bY (ap rfl (ap rfl (bx (v:=.str ws[kk]) (SqL.of hmG) (aU (by rw[Qe,Qb hkw];rfl)) ?_))))));refine bg (i_cb (bg (ap rfl (bv ⟨Lq,_,rfl,.inl (SqL.of hqG),?_⟩))));refine bv ⟨by simp[sizeLine],λt ht=>?_⟩;ctx_has G t Hf Sf htf aj ht;rw[Qa,b.lenN]at htf;have b1:=b.same Sf;refine bv (fE (Sf _ _ hv) (by omega) ?_);have b2:=b1.addTurn DA hna (Sf _ _ hv) htf;generalize upd Hf na _=H2 at b2;have hq2:=b2.hq;kt_k;refine s_drop (i_bm (ap rfl ⟨i_tyL hq2,bg (i_lst (bv ⟨by simp[sizeLine],λp hp=>?_⟩))⟩));ctx_has H2 p H3 S3 hp3 aj hp;have b3:=b2.same S3;refine bv (fE b3.hq (by rw[Qa];omega) ?_);have b4:=b3.addNode DA (p:=p) (node:=[]) (b2.kp.free hp) (b2.new hp) ⟨[],hp3,.nil⟩;generalize upd H3 Lq _=H4 at b4;have hr4:=b4.hr;refine s_drop (i_bm (ap rfl ⟨i_tyL hr4,bg (ap rfl (bv (fE hr4 (by rw[Qa];omega) ?_)))⟩));have b5:=b4.addRow DA sgn;rw[<-hsg]at b5 ⊢;exact⟨_,_,_,_,_,_,_,_,_,_,rfl,b5,g.grow wnd hhere hkw c,by rw[Qd,Xv];simp;omega⟩
 clear bld gr;obtain⟨rows,nas,nodes,x8,x9,x10,x11,x12,x13,x14,rfl,b,g,ln⟩:=pv;have nl:nodes.length<=31:=by omega
 have hq:=b.hq;have lnas:=b.lenN;lk;rw[Qa,lnas];refine⟨by simp[sizeLine],λq hq0=>?_⟩;generalize hE:upd _ q _=Hc;obtain⟨Sc,hqc⟩:=aj hq0 hE;clear hE;have nq:¬D.own q:=av b.kp.dk hq0;have b:=b.same Sc;lk;refine bB b.kp λr4 Hd kd _=>?_;have hqd:Hd q=some (.lst ([0,0,1,3].map V.int)):=kd.old _ _ hqc nq;have b:=b.draw kd;lk;obtain⟨j4,e4,h4⟩:=bD r4 (m:=4) (by decide);rw[e4];obtain⟨c3,hc3,ec3⟩:=lT (xs:=[0,0,1,3]) (r:=(j4:Int)) (by omega) h4
 have c3b:0<=c3/\c3<=3:=by
  simp only[Qu,List.not_mem_nil,or_false]at hc3;omega
 refine bx (SqL.of hqd) ec3 ?_;lk
 obtain⟨c4,ec4,c4b⟩:∃c4:Nat,c3*(if decide ((nodes.length:Int)<37)=true then 1 else 0)=(c4:Int)/\c4<=3:=by
  by_cases c:(nodes.length:Int)<37
  ·rw[Qv (QU c)];exact⟨c3.toNat,by omega,by omega⟩
  rw[Qz (by rw[QE c];exact Qj)];exact⟨0,by omega,by omega⟩
 rw[ec4];refine⟨by omega,by omega,?_⟩;rw[QZ];let I33:IvF:=λi σ' H'=>∃(nas':B3) (ex:List (List (Str × Nat))) (y8 y9 y10 y11 y12 y14:Option V),σ'=[some (.ref D.d),some (.int (ni:Int)),some (.int (no:Int)),some (.int 30),some (.ref Lm),some (.ref Lr),some (.ref Lq),some (.int al),y8,y9,y10,y11,y12,some (.int (nodes.length:Int)),y14]/\Bld D H Lm Lr Lq ws rows nas' (nodes++ex) H'/\ex.length=i/\∀node∈ex,(node.map (·.1)).Nodup/\∀p∈node,p.1∈ws/\p.2<nodes.length+ex.length;refine cZ I33 ⟨_,[],_,_,_,_,_,_,rfl,by rw[Xa];exact b,rfl,λnode h=>nomatch h⟩ (λi σ' H' hi pv=>?_) (λσ' H' pv=>?_)
 ·clear b;obtain⟨nas',ex,z8,z9,z10,z11,z12,z14,rfl,b,lex,hex⟩:=pv;have lnas:=b.lenN;rw[Qd]at lnas;have hm:=b.hm;have hq':=b.hq;refine aw ?_;lk;refine bB b.kp λr5 He ke _=>?_;have b:=b.draw ke;have hme:=b.hm;lk;rw[Qa];refine i_rI (show (0:Int)<(ws.length:Int) by omega) ?_;obtain⟨kk,ek,hk⟩:=bD r5 (m:=(ws.length:Int)) (by omega);rw[ek];have hkw:kk<ws.length:=by omega
  refine bx (v:=.str ws[kk]) (SqL.of hme) (aU (by rw[Qe,Qb hkw];rfl)) ?_;lk;refine bB b.kp λr6 Hf kf _=>?_;have b:=b.draw kf;have hqf:=b.hq;lk;rw[Qa];refine i_rI (show (0:Int)<(nas'.length:Int)+1 by omega) ?_;obtain⟨to,et,ht⟩:=bD r6 (m:=(nas'.length:Int)+1) (by omega);rw[et];lk;refine⟨by simp[sizeLine],λt ht'=>?_⟩;ctx_has Hf t Hg Sg htg aj ht';have b:=b.same Sg;lk;refine⟨by simp[sizeLine],λp hp=>?_⟩;ctx_has Hg p Hh Sh' hph aj hp;have np:¬D.own p:=av b.kp.dk hp;have b:=b.same Sh';have hqh:=b.hq;have htp:=Sh' _ _ htg;lk;refine bB b.kp λr7 Hi ki ki0=>?_;have hpi:=ki.old _ _ hph np;have hti:=Kp.tups b.kp.dk ki _ _ htp;have b:=b.draw ki;lk;obtain⟨j7,e7,h7⟩:=bD r7 (m:=3) (by decide);rw[e7];refine sH (SqL.of hpi) λp2 hp2=>?_
  have ecut:iX [V.ref t] none (some (j7:Int))=if j7=0 then [] else [V.ref t]:=by
   have:j7=0\/j7=1\/j7=2:=by omega
   rcases this with rfl|rfl|rfl <;> rfl
  rw[ecut];ctx_has Hi p2 Hj Sj hpj aj hp2;have bj:=b.same Sj
  have st2:aD Hj p2 (a_ (if j7=0 then [] else [(ws[kk],to)])):=by
   by_cases c:j7=0
   ·rw[Qv c]at hpj ⊢;exact⟨_,hpj,.nil⟩
   rw[Qz c]at hpj ⊢;exact⟨_,hpj,.cons ⟨t,rfl,Sj _ _ hti⟩ .nil⟩
  refine bv (fE bj.hq (by rw[Qa];omega) ?_);have b5:=bj.addNode DA (b.kp.free hp2) (b.new hp2) st2;refine⟨_,ex++[if j7=0 then [] else [(ws[kk],to)]],_,_,_,_,_,_,rfl,by rw[<-Q0];exact b5,by rw[Qd,lex];rfl,λnode hn=>?_⟩;rw[Qd];rcases Qk.mp hn with h|h
  ·obtain⟨h1,h2⟩:=hex node h;exact⟨h1,λp hp=>⟨(h2 p hp).1,by have:=(h2 p hp).2;omega⟩⟩
  rw[Qp]at h;subst h;by_cases c:j7=0
  ·rw[Qv c];exact⟨List.nodup_nil,λp hp=>nomatch hp⟩
  rw[Qz c];refine⟨by simp,λp hp=>?_⟩;rw[Qp]at hp;subst hp;exact⟨Xe hkw,by simp;omega⟩
 clear b;obtain⟨nas',ex,z8,z9,z10,z11,z12,z14,rfl,b,lex,hex⟩:=pv;have n40:nodes.length+ex.length<=40:=by omega
 let I34:IvJ:=λU G=>∃(nas2:B3) (ex2:List (List (Str × Nat))) (y14:Option V),U=[some (.ref D.d),some (.int (ni:Int)),some (.int (no:Int)),some (.int 30),some (.ref Lm),some (.ref Lr),some (.ref Lq),some (.int al),z8,z9,z10,z11,z12,some (.int (nodes.length:Int)),y14]/\Bld D H Lm Lr Lq ws rows nas2 (nodes++ex2) G/\ex2.length=ex.length/\∀node∈ex2,(node.map (·.1)).Nodup/\∀p∈node,p.1∈ws/\p.2<nodes.length+ex.length;with_reducible refine cW I34 (λRR hJ=>?_) (λU G h=>?_)
 ·have hq:=b.hq;have lnas:=b.lenN;rw[Qd]at lnas;lk;rw[Qa];by_cases c:decide ((nodes.length:Int)+1<(nas'.length:Int))=true
  case neg =>
   refine ifF (Xs.mpr c) ?_;refine iteF ?_;exact s_next (hJ _ _ ⟨nas',ex,_,rfl,b,rfl,by rw[lex]at hex ⊢;exact hex⟩)
  refine ifT c ?_;have c:=of_decide_eq_true c;lk;refine bB b.kp λr8 Ha ka _=>?_;have b:=b.draw ka;have hqa:=b.hq;have hma:=b.hm;lk;refine sw (λ_=>?_) (λ_=>?_)
  case refine_2=>exact s_next (hJ _ _ ⟨nas',ex,_,rfl,b,rfl,by rw[lex]at hex ⊢;exact hex⟩)
  have hw0:0<ws.length:=by omega
  have ex2:2<=ex.length:=by omega
  have tlt:nodes.length<nodes.length+ex.length:=by omega
  kt_k;lk;refine bx (v:=.str ws[0]) (SqL.of hma) (aU (j:=0) (by rw[Qe,Qb hw0];rfl)) ?_;lk;rw[Qa,show (nas'.length:Int)-1=((nodes.length+ex.length-1:Nat):Int) by omega];refine⟨by simp[sizeLine],λt1 ht1=>?_⟩;ctx_has Ha t1 Hb' Sb q1 aj ht1;have b1:=b.same Sb;lk;refine⟨by simp[sizeLine],λp1 hp1=>?_⟩;ctx_has Hb' p1 Hc' Sc' q2 aj hp1;have b2:=b1.same Sc';lk;refine s_setL b2.hq (j:=nodes.length) (by unfold ixN;rw[Qv (by omega),Qa,Qv (by omega),QZ]) ?_;rw[show (nas'.map V.ref).set nodes.length (.ref p1)=(nas'.set nodes.length p1).map V.ref by rw[List.map_set]];have b3:=b2.setNode nodes.length (node:=[(ws[0],nodes.length+ex.length-1)]) (b1.kp.free hp1) (b1.new hp1) ⟨_,q2,.cons ⟨t1,rfl,Sc' _ _ q1⟩ .nil⟩;rw[List.set_append_right _ _ (Qh _),Nat.sub_self]at b3;generalize upd Hc' Lq _=Hd' at b3;have hm3:=b3.hm;have ll3:=b3.lenN;rw[Qd,Xv,Xv]at ll3;lk
  refine bx (v:=.str ws[ws.length-1]) (SqL.of hm3) (by
   unfold atI ixN;rw[Qz (by decide),Qv (by rw[Qa];omega),Qa,show (-1+(ws.length:Int)).toNat=ws.length-1 by omega];show (ws.map V.str)[ws.length-1]?=_
   rw[Qe,Qb (by omega)];rfl) ?_
  lk;refine⟨by simp[sizeLine],λt2 ht2=>?_⟩;ctx_has Hd' t2 He' Se q3 aj ht2;have b4:=b3.same Se;lk;refine⟨by simp[sizeLine],λp2 hp2=>?_⟩;ctx_has He' p2 Hf' Sf q4 aj hp2;have b5:=b4.same Sf;lk;refine s_setL b5.hq (j:=nas'.length-1) (by unfold ixN;rw[Qz (by decide),Qa,Xv,Qv (by omega),show (-1+(nas'.length:Int)).toNat=nas'.length-1 by omega]) ?_;rw[show ((nas'.set nodes.length p1).map V.ref).set (nas'.length-1) (.ref p2)=((nas'.set nodes.length p1).set (nas'.length-1) p2).map V.ref by simp only[List.map_set]];have b6:=b5.setNode (nas'.length-1) (node:=[(ws[ws.length-1],nodes.length)]) (b4.kp.free hp2) (b4.new hp2) ⟨_,q4,.cons ⟨t2,rfl,Sf _ _ q3⟩ .nil⟩;rw[List.set_append_right _ _ (by omega)]at b6;refine hJ _ _ ⟨_,_,_,rfl,b6,by rw[Xv,Xv],λnode hn=>?_⟩;rcases List.mem_or_eq_of_mem_set hn with h|h
  ·rcases List.mem_or_eq_of_mem_set h with h|h
   ·rw[lex]at hex ⊢;exact hex node h
   subst h;refine⟨by simp,λp hp=>?_⟩;rw[Qp]at hp;subst hp;exact⟨Xe hw0,by show _-1<_;omega⟩
  subst h;refine⟨by simp,λp hp=>?_⟩;rw[Qp]at hp;subst hp;exact⟨Xe (by omega),tlt⟩
 clear b;obtain⟨nas2,ex2,y14,rfl,b,lex2,hex2⟩:=h;have hm:=b.hm;have hrr:=b.hr;have lnas:=b.lenN;lk;refine sH (SqL.of hm) λli hli=>?_;generalize hE:upd _ li _=Hd;obtain⟨Sd,hlid⟩:=aj hli hE;clear hE;have lis:ni<=(ws.map V.str).length:=by rw[Qa];omega
 rw[wS lis,<-List.map_take]at hlid;have nli:¬D.own li:=av b.kp.dk hli;have b:=b.same Sd;have hm:=b.hm;lk;refine sH (SqL.of hm) λlo hlo=>?_;generalize hE:upd _ lo _=He;obtain⟨Se,hloe⟩:=aj hlo hE;clear hE;rw[sY lis,<-List.map_drop]at hloe;have nlo:¬D.own lo:=av b.kp.dk hlo;have b:=b.same Se;have hrr:=b.hr;lk;refine bx (v:=.str (rows.getD 0 "")) (SqL.of hrr) (aU (j:=0) (by rw[Qe,g.row g.pos];rfl)) ?_;lk;have lall:(nodes++ex2).length=nodes.length+ex2.length:=Qd ..;have np:=g.pos;refine⟨D,Lq,nas2,nodes++ex2,rfl,b.kp.dk,b.hq,b.nq,λc hc=>av DA (b.f0 c hc),b.nod,by omega,by omega,λnode hn=>?_,λnode hn p hp=>?_,λln nas3 os Hf kf _ hln prf pm h0=>?_⟩
 ·rcases Qk.mp hn with h|h
  ·obtain⟨j,hj,e⟩:=QH.mp h;have:=g.few j;rw[Qm,Qb hj,e]at this;exact QQ this (by omega)
  have:=Bf.dP (node.map (·.1)) ws (hex2 node h).1 λx hx=>by
   obtain⟨p,hp,rfl⟩:=QG.mp hx;exact((hex2 node h).2 p hp).1
  rw[Qa]at this;omega
 ·rcases Qk.mp hn with h|h
  ·obtain⟨j,hj,e⟩:=QH.mp h;have:=(g.edge j p (by rw[Qm,Qb hj,e];exact hp)).2.1;omega
  have:=((hex2 node h).2 p hp).2;omega
 lk;refine⟨by simp[sizeLine],λa ha=>?_⟩;ctx_has Hf a Hz Sz haz aj ha;rw[lall]at pm;exact k a li lo ln nas3 ⟨ws.take ni,ws.drop ni,rows.getD 0 "", bw os (nodes++ex2)⟩ Hz ((b.kp.trans kf).trans (Kp.of kf.dk Sz)) ⟨haz,Sz _ _ (kf.old _ _ (Se _ _ hlid) nli),Sz _ _ (kf.old _ _ hloe nlo),Sz _ _ hln,aE (λ_ _ h=>h.same Sz) prf⟩ (sW g wnd (by omega) (by omega) (by omega) wsub (by omega) (by rw[lex2];exact hex2) pm h0)
end
def oq (K:PySem.W.Frag) (TL:Addr):Sp:=λvs H Q _=>∃(a:Addr) (ns:List Int),vs=[.ref a]/\SqL K H a (ns.map V.int)/\ns.length<=63/\cP TL bn H/\∀H',Q (.bl true) H'
theorem uo (S:ax H H1) (hD:H D.d=none) (k:Kp D H1 H2):ax H H2:=λb o e=>k.old b o (S _ _ e) λz=>by
 have z:b=D.d:=z;rw[z,hD]at e;cases e
theorem sS {K:PySem.W.Frag} (h1:H a=some (.lst vs)) (h2:H b=some (.lst vs)) (hx:∀x∈vs,∃p,x=V.ref p):EqD K H (n+1) (.ref a) (.ref b) true:=by
 by_cases c:a=b
 ·subst c;exact .same
 have h:=EqD.lists (K:=K) (n:=n) (e:=λ_=>true) (SqL.of h1) (SqL.of h2) rfl (λj x y e1 e2=>by
  rw[e1]at e2;cases e2;obtain⟨p,rfl⟩:=hx x (Qn e1)
  exact .same) c
 have e:(List.range vs.length).all (λ_=>true)=true:=by simp
 rw[e]at h;exact h
theorem o0 {K:PySem.W.Frag} {xs ys:List V} (h1:H a=some (.lst xs)) (h2:H b=some (.lst ys)) (hl:xs.length=ys.length) (hx:∀(j:Nat) x y,xs[j]?=some x->ys[j]?=some y->EqD K H n x y true):EqD K H (n+1) (.ref a) (.ref b) true:=by
 by_cases c:a=b
 ·subst c;exact .same
 have h:=EqD.lists (K:=K) (n:=n) (e:=λ_=>true) (SqL.of h1) (SqL.of h2) hl hx c;have e:(List.range xs.length).all (λ_=>true)=true:=by simp
 rw[e]at h;exact h
theorem wf {A:V->V->Prop} {x y z w u v t s:V} (h1:A x u) (h2:A y v) (h3:A z t) (h4:A w s):∀(j:Nat) a b,[x,y,z,w][j]?=some a->[u,v,t,s][j]?=some b->A a b:=λj a b e1 e2=>by
 match j with
 | 0=>cases e1;cases e2;exact h1
 | 1=>cases e1;cases e2;exact h2
 | 2=>cases e1;cases e2;exact h3
 | 3=>cases e1;cases e2;exact h4
 | j+4=>simp at e1
theorem m_ (p:Paired (λv (s:V × Key)=>∃b,v=.ref b/\H b=some (.tup [s.1,kV s.2])) vs sts):∀x∈vs,∃a,x=V.ref a:=by
 induction p with
 | nil=>exact λx hx=>nomatch hx
 | cons h _ ih =>
 intro x hx;rcases Qu.mp hx with e|hx
 ·obtain⟨b,e',_⟩:=h;exact⟨b,e.trans e'⟩
 exact ih x hx
theorem my {K:PySem.W.Frag} (h1:H a=some (.lst (ns.map V.str))) (h2:H b=some (.lst (ns.map V.str))):EqD K H (n+2) (.ref a) (.ref b) true:=o0 h1 h2 rfl (qj (cI ns))
section
theorem vX:FnScope ["script", "k", "deck", "wires", "sheet", "handed"] ["script"] (ak (top 44)):=by fin2
theorem r_ {TL:Addr} {f:Addr} {fd:FuncData} (Fu:Fun K "law" "law" (top 44) f fd) (T:Txt K mg TT) (f_law_cell_at:Fn P w K mg base "_law_cell_at" ["script", "k"] 1 (lA K)) (f_law_deck:Fn P w K mg base "_law_deck" ["cell", "many"] 2 qT) (f_law_shape:Fn P w K mg base "_law_shape" ["deck", "many"] 2 ol) (f_law_sheet:Fn P w K mg base "_law_sheet" ["deck", "ins", "outs", "most"] 3 lq) (f_law_copy:Fn P w K mg base "_law_copy" ["sheet"] 1 qW) (f_law_right:Fn P w K mg base "_law_right" ["sheet", "handed"] 9 (oo TL)):FnOk P w K mg base CX0 10 f fd ["script"] (oq K TL):=by
 have S:=vX;refine Fu.ok S (by room) (λcdv A outer s H vs Q E hr h=>?_);obtain⟨sc,ns,rfl,hS,n63,tb,q⟩:=h;have hu:=cF hr;have big:1000000<sizeLine:=by decide
 refine'⟨?_,?bb,?_⟩
 case bb =>
  walk_at "b";walk_at "f";exact(bP (by rfl) T.n_range (aa (am (qu rfl) (by rfl) T.n_max PyProof.Rows.boot_max (aa ah (aa (am (qt rfl) (by rfl) T.n_min PyProof.Rows.boot_min (aa (am ao (by rfl) T.n_len QN (aa (pv 0) ae ad)) (aa ah ae ay) se_call)) ae se_call) ay)) ae se_call));exact(bU 1 S.nd);walk_at "p";exact aB 2 S.nd (aK f_law_deck hr (aa (aK f_law_cell_at hr (aa (pv 0) (aa (pv 1) ae ad) ad)) (aa ah ae ay) se_call));exact aB 3 S.nd (aK f_law_shape hr (aa (pv 2) (aa ah ae ay) ad));exact aB 4 S.nd (aK f_law_sheet hr (aa (pv 2) (aa (au aM (pv 3) ah) (aa (au aM (pv 3) ah) (aa ah ae ay))) ad));exact aB 5 S.nd (aK f_law_copy hr (aa (pv 4) ae ad));exact(PW.pt (jg (kw (eM (aK f_law_right hr (aa (pv 4) (aa (pv 5) ae ad) ad)))) (fO (aH (wj hr.units) (pv 5) (pv 4) (bi _)))));exact(aN dH);exact(aN dH)
 x_go;lk;refine⟨sc,_,rfl,.inl hS,?_⟩;lk;refine⟨_,_,rfl,?_⟩;lk;refine⟨_,_,rfl,?_⟩;rw[Qa]
 obtain⟨N,hN,N10⟩:∃N:Nat,(if (if (6:Int)<(ns.length:Int) then 6 else (ns.length:Int))>1 then (if (6:Int)<(ns.length:Int) then 6 else (ns.length:Int)) else 1)=(N:Int)/\N<=10:=by
  by_cases c:(6:Int)<(ns.length:Int)
  ·rw[Qv c];exact⟨6,by decide,by omega⟩
  rw[Qz c];by_cases c2:(ns.length:Int)>1
  ·rw[Qv c2];exact⟨ns.length,rfl,by omega⟩
  rw[Qz c2];exact⟨1,rfl,by omega⟩
 rw[hN];lk;refine⟨by omega,by omega,?_⟩;rw[QZ];refine cZ (n:=N) (λi U H'=>(∃x1 x2 x3 x4 x5,U=[some (.ref sc),x1,x2,x3,x4,x5])/\Tk TL H H') ⟨⟨_,_,_,_,_,rfl⟩,Tk.of tb (ax.refl H)⟩ (λi U H0 hi pv=>?_) (λU H' pv=>?_)
 ·obtain⟨⟨x1,x2,x3,x4,x5,rfl⟩,t0⟩:=pv;refine aw ?_;lk;refine⟨sc,ns,i,by rw[Int.zero_add],?_,by omega,λc=>?_⟩
  ·rcases hS with h|h
   ·left
    rcases h with e|⟨o,e⟩
    ·exact .inl (t0.lst tb _ _ e)
    exact .inr ⟨o,t0.old _ _ e (dG tb e λ_ z=>nomatch z)⟩
   exact .inr h
  lk;refine⟨c,320,rfl,by omega,λd xs H1 S1 hd h1=>?_⟩;lk;refine⟨⟨d⟩,rfl,⟨xs,h1⟩,λl ni no H2 i4 o1 o7 io hl q2 k2=>?_⟩;lk;refine⟨⟨d⟩,ni,no,rfl,k2.dk,i4,o1,io,λa li lo ln nas s H3 k3 at3 dr=>?_⟩;obtain⟨lam,lb⟩:=dr.lab;have S03:ax H0 H3:=uo S1 hd (k2.trans k3);have t3:=t0.same S03;clear S1 S03 k2 k3 h1 hd q2;lk;refine⟨a,li,lo,ln,nas,s,rfl,at3,dr.ok.n100,λb mi mo mn mas H4 S4 atb _ _ shv=>?_⟩;have at4:=at3.same S4;have t4:=t3.same S4;lk;refine⟨a,li,lo,ln,nas,b,mi,mo,mn,mas,s,lam,rfl,at4,atb,dr,lb,t4.tab,λH5 t5=>?_⟩;have at5:ShAt H5 a li lo ln nas s:=at4.mono (t5.lst t4.tab) (t5.tup t4.tab);have atb5:ShAt H5 b mi mo mn mas s:=atb.mono (t5.lst t4.tab) (t5.tup t4.tab);have l1:=aL at5.nodes;have l2:=aL atb5.nodes;refine⟨_,rfl,iteF ?_⟩;lk;refine Ay (SqT.of atb5.ha) (SqT.of at5.ha) rfl (wf (A:=λx y=>EqD K H5 8 x y true) (my atb5.hi at5.hi) (my atb5.ho at5.ho) ?_ (o0 atb5.hn at5.hn (by rw[Qa,Qa];omega) λj x y e1 e2=>?_)) ?_
  ·have h:=EqD.flat (K:=K) (H:=H5) (n:=8) (x:=.str s.z) (y:=.str s.z) rfl rfl;have e:eqV (.str s.z) (.str s.z)=true:=by simp[eqV]
   rw[e]at h;exact h
  ·rw[Qe]at e1 e2;obtain⟨nb,eb,rfl⟩:=QX.mp e1;obtain⟨na,ea,rfl⟩:=QX.mp e2;obtain⟨vs,v1,v2⟩:=shv j na nb ea eb;have w1:=t5.lst t4.tab _ _ v1;have w2:=t5.lst t4.tab _ _ v2;obtain⟨node,_,vs',h1,h2⟩:=paired_get at5.nodes ea;rw[w1]at h1;cases h1;exact sS w2 w1 (m_ h2)
  refine⟨_,rfl,ifF rfl ?_⟩;exact s_next ⟨⟨_,_,_,_,_,rfl⟩,t4.trans t5⟩
 lk;exact q H'
end
end K2
namespace K2
open PySem L2 PySem.Spec PyProof.Rows
variable {A:Type}
theorem sq {us:List A} (h:us.length=1):∃a0,us=[a0]:=by
 match us,h with
 | [a0],_=>exact⟨_,rfl⟩
theorem Au {us:List A} (h:us.length=2):∃a0 a1,us=[a0,a1]:=by
 match us,h with
 | [a0,a1],_=>exact⟨_,_,rfl⟩
theorem As {us:List A} (h:us.length=3):∃a0 a1 a2,us=[a0,a1,a2]:=by
 match us,h with
 | [a0,a1,a2],_=>exact⟨_,_,_,rfl⟩
theorem Ar {us:List A} (h:us.length=4):∃a0 a1 a2 a3,us=[a0,a1,a2,a3]:=by
 match us,h with
 | [a0,a1,a2,a3],_=>exact⟨_,_,_,_,rfl⟩
structure FX (K:PySem.W.Frag) (n:Str) (i:Nat) (f:Addr) (cd:Value):Prop where
 a:PySem.W.nsIn K mainGlobals n=some (some (.ref f))
 l:∃oc od kV dc pm an ct sl,K.lookup f=some ⟨oc,od,.func (PySem.W.fnOf n n (ck (top i)) (bM (top i)) (ak (top i)) .none kV dc pm an cd ct),sl⟩
 c:PySem.W.codeIn K cd n=true
 k:PySem.W.keepIn K (.ref f)=true
variable {h:Heap} {cd:Value} {f fa TL0:Addr}
theorem FX.fn {K:PySem.W.Frag} {n:Str} {i:Nat} {mg:B2} (X:K.In h) (G:h.Ns mainGlobals mg) (x:FX K n i f cd):∃fd,Fun K n n (top i) f fd/\mg n=some (.ref f):=by
 obtain⟨a,⟨_,_,_,_,_,_,_,_,l⟩,c,k⟩:=x;exact⟨_,nP (st:=top i) l c k,Xk X G a⟩
abbrev ZN (K:PySem.W.Frag) (n:Str):Prop:=PySem.W.nsIn K mainGlobals n=some none
variable {p:List Value->Prop}
theorem bn1 (h:∀a0,p [a0]) (us:List Value) (hl:us.length=1):p us:=by
 obtain⟨a0,e⟩:=sq hl;subst e;exact h a0
theorem bn2 (h:∀a0 a1,p [a0,a1]) (us:List Value) (hl:us.length=2):p us:=by
 obtain⟨a0,a1,e⟩:=Au hl;subst e;exact h a0 a1
theorem bn3 (h:∀a0 a1 a2,p [a0,a1,a2]) (us:List Value) (hl:us.length=3):p us:=by
 obtain⟨a0,a1,a2,e⟩:=As hl;subst e;exact h a0 a1 a2
theorem bn4 (h:∀a0 a1 a2 a3,p [a0,a1,a2,a3]) (us:List Value) (hl:us.length=4):p us:=by
 obtain⟨a0,a1,a2,a3,e⟩:=Ar hl;subst e;exact h a0 a1 a2 a3
variable {ps loose:List Str}
theorem FX.go (P:Program) (w:World) (base:Heap) {K:PySem.W.Frag} {n:Str} {i k:Nat} {mg:B2} {sp:Sp} (X:K.In h) (G:h.Ns mainGlobals mg) (x:FX K n i f cd) (o:∀fd,Fun K n n (top i) f fd->mg n=some (.ref f)->dY K fd ps []->FnOk P w K mg base CX0 k f fd ps sp)
  (hb:∀(kV doc pm:Value) (an:Option Addr) (cdv ct:Value) (us:List Value),us.length=ps.length->bindArgs (PySem.W.fnOf n n (ck (top i)) (bM (top i)) (ak (top i)) .none kV doc pm an cdv ct) ⟨us,[]⟩=pure (ps.zip us):=by intro _ _ _ _ _ _;first|exact bn1 λ_=>rfl|exact bn2 λ_ _=>rfl|exact bn3 λ_ _ _=>rfl|exact bn4 λ_ _ _ _=>rfl):Fn P w K mg base n ps k sp:=by
 obtain⟨fd,F,m⟩:=x.fn X G;have b:=F.binds hb;exact⟨f,fd,o fd F m b,m,x.k,b⟩
theorem FX.go1 (P:Program) (w:World) (base:Heap) {K:PySem.W.Frag} {n:Str} {i k:Nat} {mg:B2} {sp:Sp} (X:K.In h) (G:h.Ns mainGlobals mg) (x:FX K n i f cd) (o:∀fd,Fun K n n (top i) f fd->mg n=some (.ref f)->dY K fd ps []->FnOk P w K mg base (CX1 P w) k f fd ps sp)
  (hb:∀(kV doc pm:Value) (an:Option Addr) (cdv ct:Value) (us:List Value),us.length=ps.length->bindArgs (PySem.W.fnOf n n (ck (top i)) (bM (top i)) (ak (top i)) .none kV doc pm an cdv ct) ⟨us,[]⟩=pure (ps.zip us):=by intro _ _ _ _ _ _;first|exact bn1 λ_=>rfl|exact bn2 λ_ _=>rfl|exact bn3 λ_ _ _=>rfl|exact bn4 λ_ _ _ _=>rfl):Fn1 P w K mg base n ps k sp:=by
 obtain⟨fd,F,m⟩:=x.fn X G;have b:=F.binds hb;exact⟨f,fd,o fd F m b,m,x.k,b⟩
theorem wW {l:PySem.W.OpenLaw} {w:World} {K:PySem.W.Frag} {mg:B2} (X:K.In h) (G:h.Ns mainGlobals mg) (hfa:mg "law" = some (.ref fa))
  (aT:PySem.W.nsIn K mainGlobals "TURNED" = some (some (.ref 108))) (tab:qI K 108 [("0", .flat (.str "1")),("1", .flat (.str "0"))])
  (cn0:PySem.W.nsIn K mainGlobals "MOST_WIRES" = some (some (.int 5 391)))
  (x0:FX K "turned_at" 10 115 (.ref 114)) (x1:FX K "found_from" 12 122 (.ref 121)) (x2:FX K "row_behind" 14 129 (.ref 128)) (x3:FX K "rows_found" 15 136 (.ref 135))(h3:PySem.W.codeHdIn K 135 131=true) (x4:FX K "signs_of" 16 141 (.ref 140)) (x5:FX K "outputs_wanted" 18 146 (.ref 145)) (x6:FX K "clash_pairs" 19 151 (.ref 150)) (x7:FX K "check_can_be_made" 22 158 (.ref 157)) (x8:FX K "check_output" 23 165 (.ref 164)) (x9:FX K "wishes_of" 24 172 (.ref 171)) (x10:FX K "wish_at" 25 179 (.ref 178)) (x11:FX K "_law_cell_at" 27 186 (.ref 185)) (x12:FX K "_law_stir" 28 193 (.ref 192)) (x13:FX K "_law_deck" 29 200 (.ref 199)) (x14:FX K "_law_next" 30 207 (.ref 206)) (x15:FX K "_law_names" 31 212 (.ref 211)) (x16:FX K "_law_shape" 32 219 (.ref 218)) (x17:FX K "_law_flip" 33 226 (.ref 225)) (x18:FX K "_law_sheet" 34 231 (.ref 230)) (x19:FX K "_law_numbered" 35 236 (.ref 235)) (x20:FX K "_law_rows" 36 243 (.ref 242)) (x21:FX K "_law_outputs_at" 37 248 (.ref 247)) (x22:FX K "_law_has_clash" 38 255 (.ref 254)) (x23:FX K "_law_wishes" 39 262 (.ref 261)) (x24:FX K "_law_copy" 40 267 (.ref 266)) (x25:FX K "_law_word" 41 274 (.ref 273)) (x26:FX K "_law_asked" 42 281 (.ref 280)) (x27:FX K "_law_right" 43 288 (.ref 287)) (x28:FX K "law" 44 295 (.ref 294))
  (z0:ZN K "len") (z1:ZN K "range") (z2:ZN K "max") (z3:ZN K "min") (z4:ZN K "int") (z5:ZN K "list") (z6:ZN K "str") (z7:ZN K "isinstance") (z8:ZN K "all") (z9:ZN K "set") (z10:ZN K "dict") (z11:ZN K "enumerate") (z12:ZN K "sorted") (z13:ZN K "tuple") (z14:ZN K "bool") (z15:ZN K "zip") (z16:ZN K "reversed")
  (nkNoStanding:PySem.W.nsIn K mainGlobals "NoStanding" = some (some (.ref 37)))
  (nkNoStep:PySem.W.nsIn K mainGlobals "NoStep" = some (some (.ref 57)))
  (nkNoFit:PySem.W.nsIn K mainGlobals "NoFit" = some (some (.ref 69)))
  (nkNoText:PySem.W.nsIn K mainGlobals "NoText" = some (some (.ref 81)))
  (nkNoName:PySem.W.nsIn K mainGlobals "NoName" = some (some (.ref 93)))
  (nkNoRow:PySem.W.nsIn K mainGlobals "NoRow" = some (some (.ref 105)))
  (nkNetError:PySem.W.nsIn K mainGlobals "NetError" = some (some (.ref 24)))
  (nkV:ZN K "ValueError")
  (xmN0:XMk K 69 24)
  (inN0:PySem.W.findIn K (.ref 69) "__init__" = some (some (.builtin "ValueError.__init__")))
  (xmN4:XMk K 93 24)
  (inN4:PySem.W.findIn K (.ref 93) "__init__" = some (some (.builtin "ValueError.__init__")))
  (Z2:KinO K 69 24 37 57 81 93 105)
  (Z4:KinO K 93 24 37 57 69 81 105)
  : ∃fd:FuncData,(∀(s:Shared) (v:Value),BindsTo s fd ⟨[v],[]⟩ [("script", v)])/\∀base:Heap,K.In base->base.Ns mainGlobals mg->L2.eJ base mg->FnOk l.prog w K mg base CX0 10 fa fd ["script"] (oq K 131):=by
 have e:=hfa.symm.trans (Xk X G x28.a);cases e;have T:Txt K mg 108:=⟨QO X G z0,QO X G z1,QO X G z2,QO X G z3,QO X G z4,QO X G z5,QO X G z6,QO X G z7,QO X G z8,QO X G z9,QO X G z10,QO X G z11,QO X G z12,QO X G z13,QO X G z14,QO X G z15,QO X G z16,⟨_,Xk X G cn0⟩,Xk X G aT,tab⟩;have N0:ExcB K mg "NoFit" 69 24:=⟨xmN0,inN0,Xk X G nkNoFit⟩;have N4:ExcB K mg "NoName" 93 24:=⟨xmN4,inN4,Xk X G nkNoName⟩;have NM:NmE mg 57 24:=⟨Xk X G nkNoStep,Xk X G nkNetError⟩;have KD:KindsM mg 37 69 81 93 105:=⟨Xk X G nkNoStanding,Xk X G nkNoFit,Xk X G nkNoText,Xk X G nkNoName,Xk X G nkNoRow,QO X G nkV⟩;obtain⟨a3,⟨_,_,_,_,_,_,_,_,l3⟩,c3,k3⟩:=x3;have m3:=Xk X G a3;have F3:=nP (st:=top 15) l3 c3 k3;have b3:=F3.binds (ps:=["sheet"]) λ_ _ _ _ _ _ us hl=>by obtain⟨_,rfl⟩:=sq hl;rfl
 obtain⟨a28,⟨_,_,kV,dc,pm,an,ct,_,l28⟩,c28,k28⟩:=x28;have m28:=Xk X G a28;have F28:=nP (st:=top 44) l28 c28 k28;have b28:=F28.binds (ps:=["script"]) λ_ _ _ _ _ _ us hl=>by obtain⟨_,rfl⟩:=sq hl;rfl
 refine⟨PySem.W.fnOf "law" "law" (ck (top 44)) (bM (top 44)) (ak (top 44)) .none kV dc pm an (.ref 294) ct,λs v=>.of_eq rfl,λbase KB _ BM=>?_⟩;have CT0:=PySem.W.codeHd_of_K KB h3;have FC3:FunC K "rows_found" "rows_found" (top 15) 136 _ 135:=⟨_,_,_,_,_,_,_,_,rfl,l3,c3⟩;have g11:=x11.go l.prog w base X G λ_ F _ _=>pT F T;have g12:=x12.go l.prog w base X G λ_ F _ _=>t6 F T;have g13:=x13.go l.prog w base X G λ_ F _ _=>ud F T g12;have g14:=x14.go l.prog w base X G λ_ F _ _=>ua F T;have g16:=x16.go l.prog w base X G λ_ F _ _=>rZ F T g14;have g15:=x15.go l.prog w base X G λ_ F _ _=>pS F T g14;have g17:=x17.go l.prog w base X G λ_ F _ _=>uc F T;have g19:=x19.go l.prog w base X G λ_ F _ _=>t_ F T g14;have g18:=x18.go l.prog w base X G λ_ F _ _=>pQ F T g14 g15 g17 g19;have g24:=x24.go l.prog w base X G λ_ F _ _=>ue F T;have g20:=x20.go l.prog w base X G λ_ F _ _=>r9 F T g17;have g21:=x21.go l.prog w base X G λ_ F _ _=>t9 F T;have g22:=x22.go l.prog w base X G λ_ F _ _=>ub F T g20 g21;have g1:=x1.go (sp:=(jT l.prog w K mg base 1)) l.prog w base X G λ_ F _ _=>se F T;have g0:=x0.go l.prog w base X G λ_ F _ _=>pP F T;have g2:=x2.go l.prog w base X G λ_ F _ _=>pU F T g0;have g3:Fn l.prog w K mg base "rows_found" ["sheet"] 3 (ng 131):=⟨_,_,t8 FC3 T CT0 BM g1 g2,m3,k3,b3⟩;have g4:=x4.go l.prog w base X G λ_ F _ _=>rY F T g3;have g5:=x5.go l.prog w base X G λ_ F _ _=>pO F T;have g6:=x6.go l.prog w base X G λ_ F _ _=>sf F T g4 g5;have g7:=x7.go1 l.prog w base X G λ_ F _ _=>wC F T N0 g6;have g8:=x8.go1 l.prog w base X G λ_ F _ _=>wB F T N4;have g9:=x9.go l.prog w base X G λ_ F _ _=>tZ F T g4 g5;have g10:=x10.go1 l.prog w base X G λ_ F _ _=>pN F T g7 g8 g9;have g25:=x25.go l.prog w base X G λ_ F _ _=>rW F T NM KD Z2 Z4;have g26:=x26.go l.prog w base X G λ_ F _ _=>uf F T NM KD Z2 Z4 g10 g25;have g23:=x23.go l.prog w base X G λ_ F _ _=>rX F T g20 g21;have g27:=x27.go l.prog w base X G λ_ F _ _=>pR F T g22 g26 g23;exact r_ F28 T g11 g13 g16 g18 g24 g27
theorem AI {l:PySem.W.OpenLaw} {q:Program} {XP:B2->Heap->Prop} {d:DefRec} {K:Params->PySem.W.Frag} {as:B3} {e:∀P,as=(K P).map (·.1)} (hn:l.most=some 63) (hdf:d.params.defaults=[]) (ok:∀w:World,fz (K w.params) [TL0]=true)
  (F:∀(w:World) (mg:B2) (fa:Addr) (h:Heap),(K w.params).In h->h.Ns mainGlobals mg->mg d.name=some (.ref fa) ->
   ∃fd:FuncData,(∀(s:Shared) (u:Value),BindsTo s fd ⟨[u],[]⟩ [("script", u)])/\∀base:Heap,(K w.params).In base->base.Ns mainGlobals mg->L2.eJ base mg->FnOk l.prog w (K w.params) mg base CX0 10 fa fd ["script"] (oq (K w.params) TL0)) :
  PySem.W.WalkO q loose XP (PySem.W.kmHook K as e [TL0]).says l.row.toRowW d [] (λf vs=>PySem.call f vs) :=
 L2.qE (n:=63) (k:=10) (x := "script") (CX:=λ_=>CX0) (sp:=λw=>oq (K w.params) TL0) hn (by decide) hdf ⟨rfl,by decide,by decide⟩ ok F (λ_ _ a ns hl hT hS=>⟨a,ns,rfl,hS,hl,(.inl (hT _ (by simp))),λ_=>rfl⟩) λ_ _ _ _ _ z=>z
end K2
open PySem PySem.W PyProof.Rows
set_option maxRecDepth 100000 in
set_option maxHeartbeats 0 in
theorem PySem.Challenge.cw_anydelay_k61_wishes_told_holds : PySem.Challenge.rw_anydelay_k61_wishes_told.Holds := by
 w_on;refine holds_law K2.sd λsaid=>?_
 refine holds_open (q:=K2.vw) (loose:=[("NoStep" : Str),("TURNED" : Str)]) (Xt:=λs=>xlAt K2.vw [] s&&recOk (RowW.records PySem.Challenge.rw_anydelay_k61_wishes_told.row.toRowW) s) (XP:=XL K2.vw []) (Yf:=Hook.obs K2.hk) (Ya:=Hook.val K2.hk) (YP:=Hook.says K2.hk) (N:=5114) K2.left (Hook.of K2.hk) (Hook.keeps K2.hk) (λs e=>xl_of s (Bool.and_eq_true_iff.mp e).1) XL.keeps (by rfl) (by rfl) (by rfl) (λs e=>recFacts_of (Bool.and_eq_true_iff.mp e).2) (by rfl) (by first|assumption|decide +kernel) (by decide +kernel) ⟨rfl,rfl,rfl,rfl,rfl,by decide +kernel⟩ ?hw ?hc
 (case hw=>w_witness2)
 refine K2.AI (l:=PySem.Challenge.rw_anydelay_k61_wishes_told) (K:=K2.KF) (as:=[3,23,24,36,37,56,57,68,69,80,81,92,93,104,105,108,114,115,121,122,128,129,135,136,140,141,145,146,150,151,157,158,164,165,171,172,178,179,185,186,192,193,199,200,206,207,211,212,218,219,225,226,230,231,235,236,242,243,247,248,254,255,261,262,266,267,273,274,280,281,287,288,294,295]) (e:=λ_=>rfl) rfl rfl (λw=>by kernel_rfl) ?F
 case F =>
  intro w mg fa h KX G hmg;refine' K2.wW KX G hmg ?_ ?_ ?_ ?_ ?_ ?_ ?_ ?_ ?_ ?_ ?_ ?_ ?_ ?_ ?_ ?_ ?_ ?_ ?_ ?_ ?_ ?_ ?_ ?_ ?_ ?_ ?_ ?_ ?_ ?_ ?_ ?_ ?_ ?_ ?_ ?_ ?_ ?_ ?_ ?_ ?_ ?_ ?_ ?_ ?_ ?_ ?_ ?_ ?_ ?_ ?_ ?_ ?_ ?_ ?_ ?_ ?_ ?_ ?_ ?_ ?_ ?_ ?_ ?_
  all_goals first|exact⟨by kernel_rfl,⟨_,_,_,_,_,_,_,_,rfl⟩,by kernel_rfl,by kernel_rfl⟩|kernel_rfl|rfl|decide|decide +kernel|exact L2.vM (by kernel_rfl) (by kernel_rfl) (by kernel_rfl) (by constructor <;> kernel_rfl)|exact⟨_,⟨_,_,_,_,_,_,_,_,_,_,_,_,_,rfl,rfl,by kernel_rfl,rfl⟩⟩|(constructor <;> first|kernel_rfl|(constructor <;> kernel_rfl))
